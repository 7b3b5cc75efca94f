import PyProof.Rows.All
import Wide.All
import OpenK.AllK
import Wide.FinOn
import Lean
import PyProof.EqAt
import PyProof.EqKinds
import PyProof.TupleCall
import KE.LcSums
import PySem.Challenge.RW_fewways_k67_ringed_partings_looked_at
noncomputable section
namespace PySem.W.Fast
theorem tw10945633274710453141:True:=⟨⟩
theorem tw13874122336844208277:True:=⟨⟩
theorem tw9664620715331635413:True:=⟨⟩
theorem tw11142147077691238741:True:=⟨⟩
theorem tw8033262572672769781:True:=⟨⟩
theorem tw4142230988077838805:True:=⟨⟩
theorem tw7460724572919033301:True:=⟨⟩
theorem tw15847039294178878261:True:=⟨⟩
theorem tw7560819247325146101:True:=⟨⟩
theorem tw7795640912978747820:True:=⟨⟩
theorem tw3893244378122975372:True:=⟨⟩
theorem tw16743001475987887308:True:=⟨⟩
theorem tw7655236651803734220:True:=⟨⟩
theorem tw1863151684826335884:True:=⟨⟩
theorem tw13027721035622406860:True:=⟨⟩
theorem tw3157342344086511372:True:=⟨⟩
theorem tw8072809274248616844:True:=⟨⟩
theorem tw16139333116776755436:True:=⟨⟩
theorem tw18257434310573961303:True:=⟨⟩
theorem tw15799769902249141527:True:=⟨⟩
theorem tw15122066679449704503:True:=⟨⟩
theorem tw8260873321765702295:True:=⟨⟩
theorem tw895303825513921175:True:=⟨⟩
theorem tw3716407654841252814:True:=⟨⟩
theorem tw5419384210836778414:True:=⟨⟩
theorem tw17540895946068697230:True:=⟨⟩
theorem tw15263710587358016046:True:=⟨⟩
theorem tw10638714092503308558:True:=⟨⟩
theorem tw7294970578910080878:True:=⟨⟩
theorem tw5872911356834230862:True:=⟨⟩
theorem tw16902494563127298638:True:=⟨⟩
theorem tw1104953719703747214:True:=⟨⟩
theorem tw13859937084689114766:True:=⟨⟩
theorem tw691448645703862201:True:=⟨⟩
theorem tw5898957096668727641:True:=⟨⟩
theorem tw5870562855597943641:True:=⟨⟩
theorem tw431040758380637881:True:=⟨⟩
theorem tw16447847501614221328:True:=⟨⟩
theorem tw5868688212707740016:True:=⟨⟩
theorem tw12202125401356555952:True:=⟨⟩
theorem tw12699846933183443696:True:=⟨⟩
theorem tw3803294128303847888:True:=⟨⟩
theorem tw15124279748745155024:True:=⟨⟩
theorem tw12882435258432888688:True:=⟨⟩
theorem tw11428290979735015120:True:=⟨⟩
theorem tw2882565091959189435:True:=⟨⟩
theorem tw16759001074597479771:True:=⟨⟩
theorem tw11011231882154825787:True:=⟨⟩
theorem tw10043901496309716283:True:=⟨⟩
theorem tw10039842597536819707:True:=⟨⟩
theorem tw7198365581069059931:True:=⟨⟩
theorem tw8660538608069848027:True:=⟨⟩
theorem tw14672247457664649522:True:=⟨⟩
theorem tw17241998740492984754:True:=⟨⟩
theorem tw16837470810783255698:True:=⟨⟩
theorem tw9715395938206921202:True:=⟨⟩
theorem tw10190047248613538546:True:=⟨⟩
theorem tw1080729876234200658:True:=⟨⟩
theorem tw18181638320374748210:True:=⟨⟩
theorem tw15609005706517441426:True:=⟨⟩
theorem tw16176925830221071602:True:=⟨⟩
theorem tw763297674648476605:True:=⟨⟩
theorem tw5157572633972672093:True:=⟨⟩
theorem tw11642533740584860381:True:=⟨⟩
theorem tw17983043937586175005:True:=⟨⟩
theorem tw15676964456828824948:True:=⟨⟩
theorem tw5982512542589905108:True:=⟨⟩
theorem tw10069730127314178804:True:=⟨⟩
theorem tw4243988490364460820:True:=⟨⟩
theorem tw370948038062044276:True:=⟨⟩
theorem tw9487870701456426751:True:=⟨⟩
theorem tw13503326674940074207:True:=⟨⟩
theorem tw13716169782064483615:True:=⟨⟩
theorem tw5722442539727487039:True:=⟨⟩
theorem tw16813321073168943519:True:=⟨⟩
theorem tw17874324670362423711:True:=⟨⟩
theorem tw6114885525493148927:True:=⟨⟩
theorem tw1898819751742841439:True:=⟨⟩
theorem tw4855856748242497119:True:=⟨⟩
theorem tw4704133556959603007:True:=⟨⟩
theorem tw9351976225229941599:True:=⟨⟩
theorem tw17866125822029291071:True:=⟨⟩
theorem tw9107560820153319478:True:=⟨⟩
theorem tw9274072046194318742:True:=⟨⟩
theorem tw10758252470793176374:True:=⟨⟩
theorem tw12053349695940518806:True:=⟨⟩
theorem tw11925476950759496726:True:=⟨⟩
theorem tw9513683725618986849:True:=⟨⟩
theorem tw2342594443203671233:True:=⟨⟩
theorem tw2135263814363685857:True:=⟨⟩
theorem tw2926760550432228737:True:=⟨⟩
theorem tw13191438262751589761:True:=⟨⟩
theorem tw11448594890130326017:True:=⟨⟩
theorem tw18338566745073756737:True:=⟨⟩
theorem tw15085559325491152289:True:=⟨⟩
theorem tw14875208469332804001:True:=⟨⟩
theorem tw12797255578076269313:True:=⟨⟩
theorem tw16368959843121230305:True:=⟨⟩
theorem tw13182377292616037432:True:=⟨⟩
theorem tw6464579866755163544:True:=⟨⟩
theorem tw3883785779260187096:True:=⟨⟩
theorem tw16294552259455948024:True:=⟨⟩
theorem tw1839433738962260696:True:=⟨⟩
theorem tw3475381669935693891:True:=⟨⟩
theorem tw3073980453217110179:True:=⟨⟩
theorem tw11531548764764875939:True:=⟨⟩
theorem tw1359895022971378371:True:=⟨⟩
theorem tw15667584461230123747:True:=⟨⟩
theorem tw13406882401095762490:True:=⟨⟩
theorem tw8784874345050930138:True:=⟨⟩
theorem tw18421623995494474778:True:=⟨⟩
theorem tw7023657860922123482:True:=⟨⟩
theorem tw11012212689043352506:True:=⟨⟩
theorem tw10585182644281709637:True:=⟨⟩
theorem tw14702960576701257573:True:=⟨⟩
theorem tw14757810730850572549:True:=⟨⟩
theorem tw16906102523363769669:True:=⟨⟩
theorem tw4980443378023048581:True:=⟨⟩
theorem tw5411517035821260901:True:=⟨⟩
theorem tw2606107124001547717:True:=⟨⟩
theorem tw3236421069417208037:True:=⟨⟩
theorem tw1856757053626819205:True:=⟨⟩
theorem tw8938140966905924965:True:=⟨⟩
theorem tw7319259302844466885:True:=⟨⟩
theorem tw6233056484698605317:True:=⟨⟩
theorem tw11566284209559032709:True:=⟨⟩
theorem tw10482635275856982012:True:=⟨⟩
theorem tw5203534780721303196:True:=⟨⟩
theorem tw12951848103348013692:True:=⟨⟩
theorem tw15636883463502925564:True:=⟨⟩
theorem tw17097120870392090364:True:=⟨⟩
theorem tw4267435708369067164:True:=⟨⟩
theorem tw13839093464339705991:True:=⟨⟩
theorem tw9059901136192043591:True:=⟨⟩
theorem tw7929480935988587463:True:=⟨⟩
theorem tw10827430242407314430:True:=⟨⟩
theorem tw19577288456498526:True:=⟨⟩
theorem tw928415316253258206:True:=⟨⟩
theorem tw4387891146727865662:True:=⟨⟩
theorem tw16992225332360729246:True:=⟨⟩
theorem tw6508719229754069438:True:=⟨⟩
theorem tw273151837598088030:True:=⟨⟩
theorem tw5031693740040823710:True:=⟨⟩
theorem tw7807692684384495838:True:=⟨⟩
theorem tw10969610701895398537:True:=⟨⟩
theorem tw1153732045561112841:True:=⟨⟩
theorem tw12111071549132182761:True:=⟨⟩
theorem tw7514687687165010153:True:=⟨⟩
theorem tw390683006969260873:True:=⟨⟩
theorem tw13769870805383908297:True:=⟨⟩
theorem tw6132536583966863424:True:=⟨⟩
theorem tw9269858052815263200:True:=⟨⟩
theorem tw8467346250908590272:True:=⟨⟩
theorem tw9712198795816685824:True:=⟨⟩
theorem tw6812535658760667808:True:=⟨⟩
theorem tw1164392327347570048:True:=⟨⟩
theorem tw15497058284411731392:True:=⟨⟩
theorem tw3874022584498525984:True:=⟨⟩
theorem tw10168659549495598880:True:=⟨⟩
theorem tw5019935763109469024:True:=⟨⟩
theorem tw11922994391283144608:True:=⟨⟩
theorem tw3953596348506699520:True:=⟨⟩
theorem tw9306827055969134752:True:=⟨⟩
theorem tw10395068450078658795:True:=⟨⟩
theorem tw11919340400598086059:True:=⟨⟩
theorem tw11318484879698032779:True:=⟨⟩
theorem tw5183062393495042187:True:=⟨⟩
theorem tw7215912278102149675:True:=⟨⟩
theorem tw16478797960950280715:True:=⟨⟩
theorem tw12451037378780234315:True:=⟨⟩
theorem tw5186857280261505346:True:=⟨⟩
theorem tw10836147597657021538:True:=⟨⟩
theorem tw14440236548152392930:True:=⟨⟩
theorem tw15007786540790391490:True:=⟨⟩
theorem tw755556833001238210:True:=⟨⟩
theorem tw9704583285185587010:True:=⟨⟩
theorem tw484532182485106402:True:=⟨⟩
theorem tw4884438800310499042:True:=⟨⟩
theorem tw2741854039916096642:True:=⟨⟩
theorem tw343231822192747362:True:=⟨⟩
theorem tw2661805099955518829:True:=⟨⟩
theorem tw12695393924732501485:True:=⟨⟩
theorem tw9371973966222993741:True:=⟨⟩
theorem tw10140475679346140621:True:=⟨⟩
theorem tw17191992410921617261:True:=⟨⟩
theorem tw1894812883423786861:True:=⟨⟩
theorem tw8914993726569295853:True:=⟨⟩
theorem tw17180498249861257261:True:=⟨⟩
theorem tw6583310239660190020:True:=⟨⟩
theorem tw14366134722050390404:True:=⟨⟩
theorem tw1140002475229576900:True:=⟨⟩
theorem tw7904178327296767524:True:=⟨⟩
theorem tw3586703057467618916:True:=⟨⟩
theorem tw10283987074600413188:True:=⟨⟩
theorem tw14135043686863224548:True:=⟨⟩
theorem tw15685693203396265028:True:=⟨⟩
theorem tw15431482620708628260:True:=⟨⟩
theorem tw14206400813293888751:True:=⟨⟩
theorem tw3697542047759295823:True:=⟨⟩
theorem tw18101186567683939247:True:=⟨⟩
theorem tw9225849201365317615:True:=⟨⟩
theorem tw7344333482118959087:True:=⟨⟩
theorem tw15976684746118563110:True:=⟨⟩
theorem tw16659152402056872294:True:=⟨⟩
theorem tw5390731322527195494:True:=⟨⟩
theorem tw1827585219741991878:True:=⟨⟩
theorem tw13781863463842327622:True:=⟨⟩
theorem tw3770103703099009894:True:=⟨⟩
theorem tw4907844256124205318:True:=⟨⟩
theorem tw13614735869436166033:True:=⟨⟩
theorem tw15068241434416361681:True:=⟨⟩
theorem tw3225334285178439953:True:=⟨⟩
theorem tw15693094863644342673:True:=⟨⟩
theorem tw8823803767597666289:True:=⟨⟩
theorem tw14653490443948358024:True:=⟨⟩
theorem tw4156284320726645864:True:=⟨⟩
theorem tw7913250839562611944:True:=⟨⟩
theorem tw15551111928025865992:True:=⟨⟩
theorem tw11160237383505810312:True:=⟨⟩
theorem tw16609303406720993352:True:=⟨⟩
theorem tw1214459139392303304:True:=⟨⟩
theorem tw6372975463739257768:True:=⟨⟩
theorem tw18047534021088885587:True:=⟨⟩
theorem tw6182645827982246067:True:=⟨⟩
theorem tw2838226233390392563:True:=⟨⟩
theorem tw3464768969600390515:True:=⟨⟩
theorem tw7196601216774177267:True:=⟨⟩
theorem tw12100574127551627539:True:=⟨⟩
theorem tw7757282588744959251:True:=⟨⟩
theorem tw6362402293815815443:True:=⟨⟩
theorem tw2037061020624498067:True:=⟨⟩
theorem tw10888114037265671699:True:=⟨⟩
theorem tw4010837037032902227:True:=⟨⟩
theorem tw2394134307893784147:True:=⟨⟩
theorem tw1940857952725409779:True:=⟨⟩
theorem tw12326070926744479443:True:=⟨⟩
theorem tw17082981822946164970:True:=⟨⟩
theorem tw14106974517194168906:True:=⟨⟩
theorem tw14510273098020679978:True:=⟨⟩
theorem tw6512972557061358346:True:=⟨⟩
theorem tw4102520795198597674:True:=⟨⟩
theorem tw8920280128249659050:True:=⟨⟩
theorem tw1235699400889997034:True:=⟨⟩
theorem tw9858519230248404106:True:=⟨⟩
theorem tw14331607105294207914:True:=⟨⟩
theorem tw9657494209723036938:True:=⟨⟩
theorem tw12461913929928002311:True:=⟨⟩
theorem tw9658043804640943891:True:=⟨⟩
end PySem.W.Fast
set_option bootstrap.genMatcherCode false
set_option compiler.extract_closed false
set_option Elab.async false
set_option linter.all false
set_option maxRecDepth 100000
namespace L2
open PySem PySem.Spec PyProof.Rows
abbrev Key:=Sum Int Str
def aLc:Key->Value->Bool
 | .inl k,v=>Value.isInt k v
 | .inr x,v=>Value.isStrOf x v
def aPF(w:World):Key->Int
 | .inl k=>hashInt k
 | .inr x=>hashStr w x
theorem eZ:∀{k:Key} {v:Value},aLc k v=true->(∃i t,k=Sum.inl i/\v=Value.int i t)\/(∃x t,k=Sum.inr x/\v=Value.str x t)
 | .inl i,v,h=>by
  obtain⟨t,e⟩:=Value.isInt_shape (k:=i) (v:=v) h;exact .inl ⟨i,t,rfl,e⟩
 | .inr x,v,h=>by
  obtain⟨t,e⟩:=Value.isStrOf_shape (x:=x) (v:=v) h;exact .inr ⟨x,t,rfl,e⟩
theorem aNL(a b:Int):decide ((Sum.inl a:Key)=Sum.inl b)=(a==b):=by
 by_cases e:a=b
 ·subst e;simp
 ·have h:¬(Sum.inl a:Key)=Sum.inl b:=λ q=>e (Sum.inl.inj q)
  rw[decide_eq_false h];exact(beq_eq_false_iff_ne.mpr e).symm
theorem aNI(a b:Str):decide ((Sum.inr a:Key)=Sum.inr b)=decide (a=b):=by
 by_cases e:a=b
 ·subst e;simp
 ·have h:¬(Sum.inr a:Key)=Sum.inr b:=λ q=>e (Sum.inr.inj q)
  rw[decide_eq_false h,decide_eq_false e]
theorem aNK(a:Int)(b:Str):decide ((Sum.inl a:Key)=Sum.inr b)=false:=decide_eq_false (λ q=>nomatch q)
theorem aNJ(a:Str)(b:Int):decide ((Sum.inr a:Key)=Sum.inl b)=false:=decide_eq_false (λ q=>nomatch q)
def aBx(prog:Program)(w:World):PySem.KeyKind prog w Key where
 is:=aLc
 hash:=aPF w
 inj:=λ v a b ha hb=>by
  rcases eZ ha with ⟨i,t,rfl,rfl⟩|⟨x,t,rfl,rfl⟩
  ·rcases eZ hb with ⟨j,u,rfl,e⟩|⟨y,u,rfl,e⟩
   ·injection e with e1 _;rw[e1]
   ·exact nomatch e
  ·rcases eZ hb with ⟨j,u,rfl,e⟩|⟨y,u,rfl,e⟩
   ·exact nomatch e
   ·injection e with e1 _;rw[e1]
 byValue:=λ k v h=>by
  rcases eZ h with ⟨i,t,rfl,rfl⟩|⟨x,t,rfl,rfl⟩<;>rfl
 pyHash:=λ hv h=>by
  rcases eZ hv with ⟨i,t,rfl,rfl⟩|⟨x,t,rfl,rfl⟩
  ·exact wpAny_pyHash_int h
  ·exact wpAny_pyHash_str h
 eqBool:=λ hu hv h=>by
  rcases eZ hu with ⟨i,t,rfl,rfl⟩|⟨x,t,rfl,rfl⟩
  ·rcases eZ hv with ⟨j,u,rfl,rfl⟩|⟨y,u,rfl,rfl⟩
   ·rw[aNL]at h;exact wpAny_eqBool_int h
   ·rw[aNK]at h;exact SeqAt.EqAt.int_str i t y u _ _ _ _ h
  ·rcases eZ hv with ⟨j,u,rfl,rfl⟩|⟨y,u,rfl,rfl⟩
   ·rw[aNJ]at h;exact SeqAt.EqAt.str_int x t j u _ _ _ _ h
   ·rw[aNI]at h;exact wpAny_eqBool_str h
 «strs»:=λ k x t v h=>by
  rcases eZ h with ⟨i,u,rfl,e⟩|⟨y,u,rfl,e⟩
  ·exact nomatch e
  ·injection e with e1 _
   subst e1;cases v<;>rfl
inductive V where
 |non|bl (b:Bool)|int (i:Int)|str (x:Str)|byt (b:Array UInt8)|flt (b:UInt64)|ref (a:Addr)|ty (n:String)
 deriving DecidableEq
def RelV:V->Value->Prop
 | .non,u=>u=Value.none
 | .bl b,u=>u=Value.bool b
 | .int i,u=>∃t,u=Value.int i t
 | .str x,u=>∃t,u=Value.str x t
 | .byt b,u=>∃t,u=Value.bytes b t
 | .flt b,u=>∃t,u=Value.float b t
 | .ref a,u=>u=Value.ref a
 | .ty n,u=>u=Value.type n
abbrev Vals:List V->List Value->Prop:=Paired RelV
theorem Vals.length(r:Vals xs us):xs.length=us.length:=Paired.length r
theorem Vals.get:∀{xs:List V} {us:List Value} {i:Nat} {x:V},Vals xs us->xs[i]? =some x->∃u,us[i]? =some u/\RelV x u
 |_,_,_,_,.nil,e=>by simp at e
 |_,_,0,_,.cons r _,e=>by simp at e;subst e;exact⟨_,rfl,r⟩
 |_,_,i+1,x,.cons _ t,e=>by
  obtain⟨u,h1,h2⟩:=Vals.get (i:=i) (x:=x) t (by simpa using e);exact⟨u,by simpa using h1,h2⟩
theorem Vals.append:∀{xs ys:List V} {us ws:List Value},Vals xs us->Vals ys ws->Vals (xs++ys) (us++ws)
 |_,_,_,_,.nil,s=>s
 |_,_,_,_,.cons r t,s=>.cons r (Vals.append t s)
theorem Vals.take:∀{xs:List V} {us:List Value} (n:Nat),Vals xs us->Vals (xs.take n) (us.take n)
 |_,_,0,_=>.nil
 |_,_,_+1,.nil=>.nil
 |_,_,n+1,.cons r t=>.cons r (Vals.take n t)
theorem Vals.drop:∀{xs:List V} {us:List Value} (n:Nat),Vals xs us->Vals (xs.drop n) (us.drop n)
 |_,_,0,r=>r
 |_,_,_+1,.nil=>.nil
 |_,_,n+1,.cons _ t=>Vals.drop n t
def aGo:Option V->Option Value->Prop
 |some v,some u=>RelV v u
 |none,none=>True
 |_,_=>False
def KV{κ:Type}:List (κ×V)->List (κ×Value)->Prop:=Paired λ(p:κ×V) (q:κ×Value)=>p.1=q.1/\RelV p.2 q.2
def kV:Key->V
 | .inl i=>.int i
 | .inr x=>.str x
inductive HO where
 |lst (xs:List V)
 |tup (xs:List V)
 |dK (kvs:List (Key×V))|dT (kvs:List (List Key×V))
 |set (S:Int->Bool) (n:Nat)
 |ins (C dx:Addr) (fs:List (Str×V))
 |own (x:Addr)
 |xd (fs:List (Str×V))
 |met (f x:Addr)
 |rng (lo hi:Int)
 |frz (o:Obj) (u:HO)
 |tbl (ps:Array Value)
 |ext (φ:Heap->Prop)
abbrev Hp:=Addr->Option HO
def upd(H:Hp)(a:Addr)(o:HO):Hp:=λ b=>if b=a then some o else H b
theorem bI:upd H a o a=some o:=by unfold upd;rw[if_pos rfl]
theorem bZ(h:b≠a):upd H a o b=H b:=by unfold upd;rw[if_neg h]
theorem dw{H:Hp}(h:H a=some o)(h':H b=none):a≠b:=by
 intro e;subst e;rw[h]at h';cases h'
section
variable(P:Program)(w:World)
def gm(H:Hp)(h:Heap)(a:Addr):HO->Prop
 | .lst xs=>xs.length<=sizeLine/\∃(its:List Value) (n:Nat),Vals xs its/\h.get? a=some {cls:=.type "list",data:=.seq its.toArray n}
 | .tup xs=>xs.length<=sizeLine/\∃its:List Value,Vals xs its/\IsTup h a its.toArray
 | .dK kvs=>kvs.length<=sizeLine/\(a==sysModules)=false/\∃vs,KV kvs vs/\h.DictOf (aBx P w) a vs
 | .dT kvs=>kvs.length<=sizeLine/\(a==sysModules)=false/\∃xs:List (List Key×Addr×Value),
   Paired (λ(p:List Key×V) (q:List Key×Addr×Value)=>p.1=q.1/\H q.2.1=some (.tup (p.1.map kV))/\RelV p.2 q.2.2) kvs xs/\
   ∃o es ep,h.get? a=some o/\o.ExactDict/\o.data= .dict es ep/\es.toList=xs.map (entryOfKey (tupleKind (aBx P w)))/\(xs.map (·.1)).Nodup
 | .set S n=>h.SetOf (intKind P w) a S n
 | .ins C dx fs=>H dx=some (.own a)/\fs.length<=1000/\dx≠a/\h.get? a=some (PySem.W.instObj C dx)/\
   ∃mA,h.Ns1 dx mA/\(∀f,aGo (fs.lookup f) (mA f))/\PySem.Within mA (fs.map (·.1))
 | .own _=>∃o,h.get? a=some o
 | .xd fs=>∃mA,h.Ns1 a mA/\∀f,aGo (fs.lookup f) (mA f)
 | .rng lo hi=>∃t u v,h.get? a=some {cls:=.type "range",data:=.fields #[.int lo t,.int hi u,.int 1 v]}
 | .frz o u=>h.get? a=some o/\gm H h a u
 | .tbl ps=>h.get? a=some {cls:=.none,data:=.fields ps}
 | .met f x=>h.get? a=some (PySem.W.methodObj (.ref f) (.ref x))
 | .ext φ=>φ h/\(∃o,h.get? a=some o)/\∀h1 h2:Heap,φ h1->(∀o,h1.get? a=some o->h2.get? a=some o)->φ h2
def HOk(H:Hp)(h:Heap):Prop:=∀a o,H a=some o->gm P w H h a o
end
section
variable{P:Program}{w:World}{H H':Hp}{h h':Heap}{a:Addr}{o:HO}
theorem gm.lt(x:gm P w H h a o):a<h.objs.size:=by
 cases o with
 |lst xs=>obtain⟨_,_,_,_,e⟩:=x;exact Heap.lt_size e
 |tup xs=>obtain⟨_,_,_,p⟩:=x;exact p.lt
 |dK kvs=>obtain⟨_,_,_,_,o,_,_,e,_⟩:=x;exact Heap.lt_size e
 |dT kvs=>obtain⟨_,_,_,_,o,_,_,e,_⟩:=x;exact Heap.lt_size e
 |set S n=>obtain⟨o,_,_,_,e,_⟩:=x;exact Heap.lt_size e
 |ins C dx fs=>obtain⟨_,_,_,e,_⟩:=x;exact Heap.lt_size e
 |own y=>obtain⟨_,e⟩:=x;exact Heap.lt_size e
 |xd fs=>obtain⟨_,⟨_,_,_,e,_⟩,_⟩:=x;exact Heap.lt_size e
 |rng lo hi=>obtain⟨_,_,_,e⟩:=x;exact Heap.lt_size e
 |frz ob u=>obtain⟨e,_⟩:=x;exact Heap.lt_size e
 |tbl ps=>exact Heap.lt_size (show h.get? a=some _ from x)
 |met f y=>exact Heap.lt_size (show h.get? a=some _ from x)
 |ext φ=>obtain⟨_,⟨_,e⟩,_⟩:=x;exact Heap.lt_size e
theorem Paired.mapP:∀{l₁:List α} {l₂:List β},Paired F l₁ l₂->(∀a b,F a b->G a b)->Paired G l₁ l₂
 |_,_,.nil,_=>.nil
 |_,_,.cons r t,f=>.cons (f _ _ r) (Paired.mapP t f)
theorem gm.stay(x:gm P w H h a o)(k:∀b u,(b=a\/H b=some (.own a))->h.get? b=some u->h'.get? b=some u)
  (ho:∀b,H b=some (.own a)->H' b=some (.own a))(ht:∀b xs,H b=some (.tup xs)->H' b=some (.tup xs)):gm P w H' h' a o:=by
 induction o with
 |lst xs=>obtain⟨z,its,n,r,e⟩:=x;exact⟨z,its,n,r,k _ _ (.inl rfl) e⟩
 |tup xs=>obtain⟨z,its,r,ob,e,c⟩:=x;exact⟨z,its,r,ob,k _ _ (.inl rfl) e,c⟩
 |dK kvs=>obtain⟨z,y,vs,r,ob,es,ep,e,c⟩:=x;exact⟨z,y,vs,r,ob,es,ep,k _ _ (.inl rfl) e,c⟩
 |dT kvs=>
  obtain⟨z,y,xs,r,ob,es,ep,e,c⟩:=x;exact⟨z,y,xs,Paired.mapP r λ p q z=>⟨z.1,ht _ _ z.2.1,z.2.2⟩,ob,es,ep,k _ _ (.inl rfl) e,c⟩
 |set S n=>obtain⟨ob,es,ep,t,e,c⟩:=x;exact⟨ob,es,ep,t,k _ _ (.inl rfl) e,c⟩
 |ins C dx fs=>
  obtain⟨d,z,ne,e,mA,⟨od,es,ep,e2,c⟩,r⟩:=x;exact⟨ho _ d,z,ne,k _ _ (.inl rfl) e,mA,⟨od,es,ep,k _ _ (.inr d) e2,c⟩,r⟩
 |own y=>obtain⟨ob,e⟩:=x;exact⟨ob,k _ _ (.inl rfl) e⟩
 |xd fs=>obtain⟨mA,⟨od,es,ep,e,c⟩,r⟩:=x;exact⟨mA,⟨od,es,ep,k _ _ (.inl rfl) e,c⟩,r⟩
 |rng lo hi=>obtain⟨t,u,v,e⟩:=x;exact⟨t,u,v,k _ _ (.inl rfl) e⟩
 |frz ob u ih=>obtain⟨e,q⟩:=x;exact⟨k _ _ (.inl rfl) e,ih q⟩
 |tbl ps=>
  have e:h.get? a=some {cls:=.none,data:=.fields ps}:=x;show h'.get? a=some {cls:=.none,data:=.fields ps};exact k a _ (.inl rfl) e
 |met f y=>
  have e:h.get? a=some (PySem.W.methodObj (.ref f) (.ref y)):=x;show h'.get? a=some (PySem.W.methodObj (.ref f) (.ref y));exact k a _ (.inl rfl) e
 |ext φ=>obtain⟨p,⟨o,e⟩,st⟩:=x;exact⟨st _ _ p λ o q=>k _ _ (.inl rfl) q,⟨o,k _ _ (.inl rfl) e⟩,st⟩
theorem HOk.lt(x:HOk P w H h)(e:H a=some o):a<h.objs.size:=(x a o e).lt
theorem HOk.fresh(x:HOk P w H h)(e:h.objs.size<=a):H a=none:=by
 cases q:H a with
 |none=>rfl
 |some u=>exact absurd (Nat.lt_of_lt_of_le (x.lt q) e) (Nat.lt_irrefl _)
theorem HOk.kept(x:HOk P w H h)(k:∀b u,h.get? b=some u->h'.get? b=some u):HOk P w H h':=λ a o e=>
 (x a o e).stay (λ b u _ q=>k b u q) (λ _ q=>q) λ _ _ q=>q
theorem HOk.laid(x:HOk P w H h)(k:∀b u,h.get? b=some u->h'.get? b=some u)(hp:h.objs.size<=a)(new:gm P w (upd H a o) h' a o):HOk P w (upd H a o) h':=λ b u e=>by
 have hn:=x.fresh hp;by_cases hb:b=a
 ·subst hb;rw[bI]at e;cases e;exact new
 ·rw[bZ hb]at e
  exact(x b u e).stay (λ c v _ q=>k c v q) (λ c q=>by rw[bZ (dw q hn)];exact q) λ c xs q=>by rw[bZ (dw q hn)];exact q
end
def Rd(H:Hp)(a:Addr)(u:HO):Prop:=H a=some u\/∃o,H a=some (.frz o u)
theorem Rd.ok(r:Rd H a u)(x:HOk P w H h):gm P w H h a u:=by
 rcases r with r|⟨o,r⟩
 ·exact x a u r
 ·obtain⟨_,q⟩:=x a _ r
  exact q
def Mut:Option HO->Prop
 |some (.lst _)=>True
 |some (.dK _)=>True
 |some (.dT _)=>True
 |some (.set _ _)=>True
 |some (.ins _ _ _)=>True
 |some (.ext _)=>True
 |_=>False
section
variable{P:Program}{w:World}{H:Hp}{h h':Heap}{x e:Addr}{o':HO}
theorem HOk.write(ok:HOk P w H h)(mu:Mut (H x))(he:e=x\/H e=some (.own x))(k:∀b u,b≠e->h.get? b=some u->h'.get? b=some u)(heo:∃u,h'.get? e=some u)
  (new:gm P w (upd H x o') h' x o'):HOk P w (upd H x o') h':=λ b u q=>by
 have nown:∀c y,H c=some (.own y)->c≠x:=λ c y r z=>by subst z;rw[r]at mu;exact mu
 have ntup:∀c xs,H c=some (.tup xs)->c≠x:=λ c xs r z=>by subst z;rw[r]at mu;exact mu
 by_cases hb:b=x
 ·subst hb;rw[bI]at q;cases q;exact new
 ·rw[bZ hb]at q
  by_cases hbe:b=e
  ·have q':H b=some (.own x):=by
    rcases he with z|z
    ·exact absurd (hbe.trans z) hb
    ·rw[hbe];exact z
   rw[q]at q';cases q';obtain⟨v,hv⟩:=heo;exact⟨v,by rw[hbe];exact hv⟩
  ·refine(ok b u q).stay (λ c v hc r=>k c v ?_ r) (λ c r=>by rw[bZ (nown c b r)];exact r) λ c xs r=>by rw[bZ (ntup c xs r)];exact r
   rcases hc with rfl|hc
   ·exact hbe
   ·rintro rfl
    rcases he with z|z
    ·exact nown c b hc z
    ·rw[hc]at z;cases z;exact hb rfl
end
structure Un(fs ex:List Addr)(H H':Hp)(h h':Heap):Prop where
 keep:∀b o,h.get? b=some o->H b=none->b∉fs->b∉ex->h'.get? b=some o
 slot:∀b o,h.get? b=some o->H b=none->b∈fs->b∉ex->∃sl,h'.get? b=some {o with slots:=sl}
 free:∀b o,h.get? b=some o->H b=none->b∉ex->H' b=none
 there:∀b o,h.get? b=some o->b∉ex->∃o',h'.get? b=some o'
 tups:∀b xs,H b=some (.tup xs)->H' b=some (.tup xs)
 frzs:∀b o u,H b=some (.frz o u)->H' b=some (.frz o u)
 tbls:∀b ps,H b=some (.tbl ps)->∃more,H' b=some (.tbl (ps++more))
section
variable{fs fs' ex ex':List Addr}{H H1 H2:Hp}{h h1 h2 h':Heap}{a x e:Addr}{o:HO}
theorem Un.any(u:Un fs ex H H1 h h1)(q:h.get? b=some ob)(n:H b=none)(hx:b∉ex):∃sl,h1.get? b=some {ob with slots:=sl}:=by
 by_cases hb:b∈fs
 ·exact u.slot b ob q n hb hx
 ·exact⟨ob.slots,u.keep b ob q n hb hx⟩
theorem Un.kept(k:∀b u,h.get? b=some u->h'.get? b=some u):Un fs ex H H h h':=
 ⟨λ b ob q _ _ _=>k b ob q,λ b ob q _ _ _=>⟨ob.slots,k b ob q⟩,λ _ _ _ n _=>n,λ b ob q _=>⟨ob,k b ob q⟩,λ _ _ q=>q,λ _ _ _ q=>q,λ _ ps q=>⟨#[],by rw[q];simp⟩⟩
theorem Un.refl:Un fs ex H H h h:=Un.kept λ _ _ q=>q
theorem Un.laid(k:∀b u,h.get? b=some u->h'.get? b=some u)(hp:h.objs.size<=a)(hn:H a=none):Un fs ex H (upd H a o) h h' where
 keep:=λ b u q _ _ _=>k b u q
 slot:=λ b u q _ _ _=>⟨u.slots,k b u q⟩
 free:=λ b u q n _=>by rw[bZ (Nat.ne_of_lt (Nat.lt_of_lt_of_le (Heap.lt_size q) hp))];exact n
 there:=λ b u q _=>⟨u,k b u q⟩
 tups:=λ b xs q=>by rw[bZ (dw q hn)];exact q
 frzs:=λ b u xs q=>by rw[bZ (dw q hn)];exact q
 tbls:=λ b ps q=>⟨#[],by rw[bZ (dw q hn),q];simp⟩
theorem Un.write(mu:Mut (H x))(he:e=x\/H e=some (.own x))(k:∀b u,b≠e->h.get? b=some u->h'.get? b=some u)(heo:∃u,h'.get? e=some u):Un fs ex H (upd H x o) h h':=by
 have hx:∀b,H b=none->b≠x:=λ b n z=>by subst z;rw[n]at mu;exact mu
 have hb:∀b,H b=none->b≠e:=λ b n z=>by
  subst z;rcases he with r|r
  ·exact hx b n r
  ·rw[n]at r;cases r
 have hm:∀b u,H b=some u->¬Mut (some u)->b≠x:=λ b u q nm z=>by subst z;rw[q]at mu;exact nm mu
 refine⟨λ b u q n _ _=>k b u (hb b n) q,λ b u q n _ _=>⟨u.slots,k b u (hb b n) q⟩,λ b u q n _=>by rw[bZ (hx b n)];exact n,λ b u q _=>?_,
  λ b xs q=>by rw[bZ (hm b _ q λ z=>z)];exact q,λ b u xs q=>by rw[bZ (hm b _ q λ z=>z)];exact q,λ b ps q=>⟨#[],by rw[bZ (hm b _ q λ z=>z),q];simp⟩⟩
 by_cases hbe:b=e
 ·subst hbe;exact heo
 ·exact⟨u,k b u hbe q⟩
end
def trk(h:Heap)(H:Hp):List Addr:=(List.range h.objs.size).filter λ a=>(H a).isSome
def aCK(h:Heap)(H:Hp):Heap:=PySem.W.hideAll h (trk h H)
theorem aG6(h:Heap)(H:Hp):(aCK h H).objs.size=h.objs.size:=PySem.W.hideAll_size _ _
theorem aIc(e:h.get? b=some o)(n:H b=none):(aCK h H).get? b=some o:=
 PySem.W.hideAll_get _ e λ hm=>by
  have q:(H b).isSome=true:=(List.mem_filter.mp hm).2;rw[n]at q;simp at q
theorem aKQ(e:(aCK h H).get? b=some o):h.get? b=some o/\H b=none:=by
 have e':h.get? b=some o:=PySem.W.of_hideAll (trk h H) e;refine⟨e',?_⟩;cases q:H b with
 |none=>rfl
 |some x=>
  have hm:b∈trk h H:=List.mem_filter.mpr ⟨List.mem_range.mpr (Heap.lt_size e'),by simp[q]⟩;have z:(aCK h H).get? b=none:=PySem.W.hideAll_none (trk h H) hm;rw[z]at e;cases e
def aLH(g h:Heap)(L:Addr):List (Addr×Obj):=(List.range h.objs.size).filterMap λ a=>if a=L\/(g.get? a).isSome=true then none else(h.get? a).map λ o=>(a,o)
def rest(g h:Heap)(L d:Addr):List (Addr×Obj):=(aLH g h L).filter λ p=>decide (p.1≠d)
structure Mod(K:PySem.W.Frag)(mg:Str->Option Value)(base:Heap):Prop where
 kin:K.In base
 glob:base.Ns mainGlobals mg
 blt:∃mb,base.Ns builtinsNs mb/\∀x:Str,x≠"__name__"->mb x=bootBuiltins x
 nolimit:base.NoLimit
structure Cx where
 prog:Program
 w:World
 K:PySem.W.Frag
 mg:Str->Option Value
 base:Heap
 A:Around
 N:List Str
 s₀:Shared
 H₀:Hp
 env:Env
 outer:List Env
 stack:List Env
 ex:List Addr
 fn:Str->Bool
 calm:Bool
 pn:List (Addr×Obj)
 xe:Value->Shared->Prop
def frs(l:List Env):List Addr:=l.filterMap (·.frame)
abbrev Cx.fs(X:Cx):List Addr:=frs X.outer
def Vis(sc:Scope)(x:Str):Prop:=sc.names.lookup x=some .local\/sc.names.lookup x=some .cell\/sc.names.lookup x=some .free
def Loc(sc:Scope)(x:Str):Prop:=sc.names.lookup x=some .local\/sc.names.lookup x=some .cell
def Look(env:Env)(h:Heap)(m:Str->Option Value)(x:Str)(u:Value):Prop:=
 (env.kindOf x=some .local/\m x=some u)\/((env.kindOf x=some .cell\/env.kindOf x=some .free)/\∃c,env.cells.lookup x=some c/\h.IsCell c (some u))
structure Cx.Ok(X:Cx):Prop where
 mod:Mod X.K X.mg X.base
 kind:X.env.scope.kind= .function
 glob:X.env.globals=mainGlobals
 blt:X.env.builtins=builtinsNs
 above:X.s₀.heap.objs.size<=X.env.locals
 inj:∀x y c,X.env.cells.lookup x=some c->X.env.cells.lookup y=some c->x=y
 has:∀x,(X.env.kindOf x=some .cell\/X.env.kindOf x=some .free)->∃c,X.env.cells.lookup x=some c
 cab:∀x c,X.fn x=true->X.env.cells.lookup x=some c->X.s₀.heap.objs.size<=c
 hd:X.calm=true->X.A.handled=none
 frames:X.A.frames=some X.stack
 stk:X.stack=X.outer\/(X.stack=X.env::X.outer/\X.env.frame=some X.env.locals)
 exf:∀b∈X.ex,b≠X.env.locals/\∀x c,X.env.cells.lookup x=some c->c≠b
 bs:∀b o,X.base.get? b=some o->X.s₀.heap.get? b=some o/\X.H₀ b=none
 bsz:X.base.objs.size<=X.s₀.heap.objs.size
 noex:∀b o,X.base.get? b=some o->b∉X.ex
 exfs:∀b∈X.ex,b∉X.fs
 funs:X.s₀.heap.FunFrames X.base X.outer
 frf:∀b∈X.fs,X.H₀ b=none
structure Inv(X:Cx)(pins:List (Addr×Obj))(σ:List (Option V))(H:Hp)(s:Shared):Prop where
 ok:X.Ok
 os:s.os=X.s₀.os
 bare:AllBare s.gens
 base:Un X.fs X.ex X.H₀ H X.s₀.heap s.heap
 loc:∃m,s.heap.Ns X.env.locals m/\∀(i:Nat) (x:Str) (v:V),X.N[i]? =some x->σ[i]? =some (some v)->Vis X.env.scope x->∃u,RelV v u/\Look X.env s.heap m x u
 cell:∀x c,X.env.cells.lookup x=some c->∃v,s.heap.IsCell c v
 free:H X.env.locals=none
 freeC:∀x c,X.env.cells.lookup x=some c->H c=none
 pin:∀p∈X.pn++pins,s.heap.get? p.1=some p.2/\H p.1=none/\p.1≠X.env.locals/\p.1∉X.fs/\∀v,p.2.data≠.cell v
 hok:HOk X.prog X.w H s.heap
 len:σ.length=X.N.length
section
variable{X:Cx}{pins:List (Addr×Obj)}{σ:List (Option V)}{H H':Hp}{s:Shared}{h':Heap}
theorem Cx.Ok.nofr(ok:X.Ok)(e:X.base.get? b=some o):b∉X.fs:=λ hb=>by
 have:=(ok.funs.mem hb).1
 rw[e]at this;cases this
theorem Inv.bs(I:Inv X pins σ H s):∀b o,X.base.get? b=some o->s.heap.get? b=some o/\H b=none:=λ b o e=>
 ⟨I.base.keep b o (I.ok.bs b o e).1 (I.ok.bs b o e).2 (I.ok.nofr e) (I.ok.noex b o e),I.base.free b o (I.ok.bs b o e).1 (I.ok.bs b o e).2 (I.ok.noex b o e)⟩
theorem Inv.bk(I:Inv X pins σ H s):∀b o,X.base.get? b=some o->s.heap.get? b=some o:=λ b o e=>(I.bs b o e).1
theorem Inv.mod(I:Inv X pins σ H s):Mod X.K X.mg X.base:=I.ok.mod
theorem Inv.kIn(I:Inv X pins σ H s):X.K.In s.heap:=I.ok.mod.kin.keeps I.bk
theorem Inv.fr(I:Inv X pins σ H s):∃m,Fr X.base X.env.locals s.heap m:=
 let⟨m,hn,_⟩:=I.loc
 ⟨m,hn,I.bk,Nat.le_trans I.ok.bsz I.ok.above⟩
theorem Inv.lt(I:Inv X pins σ H s):X.env.locals<s.heap.objs.size:=let⟨_,hn,_⟩:=I.loc;hn.lt
theorem Inv.sz(I:Inv X pins σ H s):X.s₀.heap.objs.size<=s.heap.objs.size:=Nat.le_trans I.ok.above (Nat.le_of_lt I.lt)
theorem Inv.nofs(I:Inv X pins σ H s)(h:s.heap.objs.size<=a):a∉X.fs:=λ hb=>by
 obtain⟨_,o,ho,_⟩:=I.ok.funs.mem hb;exact absurd (Nat.lt_of_lt_of_le (Heap.lt_size ho) (Nat.le_trans I.sz h)) (Nat.lt_irrefl _)
theorem Inv.cne(I:Inv X pins σ H s):∀x c,X.env.cells.lookup x=some c->c≠X.env.locals:=λ x c e z=>by
 obtain⟨v,o,ho,hd⟩:=I.cell x c e;obtain⟨m,⟨o',es,ep,ho',hd',_⟩,_⟩:=I.loc;rw[z,ho']at ho;cases ho;rw[hd']at hd;cases hd
theorem Inv.funs(I:Inv X pins σ H s):s.heap.FunFrames X.base X.outer:=by
 have all:∀(l:List Env),(∀b∈frs l,b∈X.fs)->X.s₀.heap.FunFrames X.base l->s.heap.FunFrames X.base l:=by
  intro l;induction l with
  |nil=>intro _ _;trivial
  |cons env r ih=>
   intro hs hl;obtain⟨hk,⟨L,o,hf,hn,ho,hd⟩,hr⟩:=hl;have hL:L∈X.fs:=hs L (by unfold frs;rw[List.filterMap_cons,hf];exact List.mem_cons_self);obtain⟨sl,e⟩:=I.base.slot L o ho (I.ok.frf L hL) hL λ z=>I.ok.exfs L z hL
   exact⟨hk,⟨L,_,hf,hn,e,hd⟩,ih (λ b hb=>hs b (by unfold frs;rw[List.filterMap_cons,hf];exact List.mem_cons_of_mem _ hb)) hr⟩
 exact all X.outer (λ _ hb=>hb) I.ok.funs
theorem Inv.stack(I:Inv X pins σ H s):s.heap.FunFrames X.base X.stack:=by
 rcases I.ok.stk with e|⟨e,hf⟩
 ·rw[e];exact I.funs
 ·rw[e]
  obtain⟨m,hn,_⟩:=I.loc;refine .cons (by rw[I.ok.kind];decide) hf hn ?_ I.funs;exact Heap.get?_none_of_le (Nat.le_trans I.ok.bsz I.ok.above)
theorem Inv.stkSub(I:Inv X pins σ H s):∀b∈frs X.stack,b∈X.env.locals::X.fs:=λ b hb=>by
 rcases I.ok.stk with e|⟨e,hf⟩
 ·rw[e]at hb;exact List.mem_cons_of_mem _ hb
 ·rw[e]at hb
  unfold frs at hb;rw[List.filterMap_cons,hf]at hb;exact hb
theorem Inv.stkFree(I:Inv X pins σ H s):∀b∈frs X.stack,H b=none:=λ b hb=>by
 rcases List.mem_cons.mp (I.stkSub b hb)with e|hb
 ·rw[e];exact I.free
 ·obtain⟨_,o,ho,_⟩:=I.ok.funs.mem hb
  exact I.base.free b o ho (I.ok.frf b hb) λ z=>I.ok.exfs b z hb
theorem Inv.step{ch:List Addr}(I:Inv X pins σ H s)
  (hch:∀b∈ch,(b∈X.ex\/X.s₀.heap.objs.size<=b)/\b≠X.env.locals/\(∀x c,X.env.cells.lookup x=some c->c≠b)/\∀p∈X.pn++pins,p.1≠b)
  (keep:∀b o,b≠X.env.locals->b∉X.fs->b∉ch->s.heap.get? b=some o->H b=none->h'.get? b=some o)
  (slot:∀b o,b≠X.env.locals->b∈X.fs->b∉ch->s.heap.get? b=some o->H b=none->∃sl,h'.get? b=some {o with slots:=sl})(free:∀b o,b∉ch->s.heap.get? b=some o->H b=none->H' b=none)
  (there:∀b o,b∉ch->s.heap.get? b=some o->∃o',h'.get? b=some o')
  (tups:∀b xs,H b=some (.tup xs)->H' b=some (.tup xs))(frzs:∀b o u,H b=some (.frz o u)->H' b=some (.frz o u))(tbls:∀b ps,H b=some (.tbl ps)->∃more,H' b=some (.tbl (ps++more)))
  (ns:∀m,s.heap.Ns X.env.locals m->h'.Ns X.env.locals m)(hok:HOk X.prog X.w H' h')(hg:AllBare g'):
  Inv X pins σ H' {s with heap:=h',gens:=g',drawn:=d',toks:=t'}:=by
 have neL:∀b o,X.s₀.heap.get? b=some o->b≠X.env.locals:=λ b o e=>Nat.ne_of_lt (Nat.lt_of_lt_of_le (Heap.lt_size e) I.ok.above)
 have neC:∀b o,X.s₀.heap.get? b=some o->b∉X.ex->b∉ch:=λ b o e hx hb=>by
  rcases(hch b hb).1 with z|z
  ·exact hx z
  ·exact absurd (Nat.lt_of_lt_of_le (Heap.lt_size e) z) (Nat.lt_irrefl _)
 have cellK:∀x c,X.env.cells.lookup x=some c->∀v,s.heap.IsCell c v->h'.IsCell c v:=λ x c e v ⟨o,ho,hd⟩=>by
  have nch:c∉ch:=λ z=>(hch c z).2.2.1 x c e rfl
  by_cases hc:c∈X.fs
  ·obtain⟨sl,q⟩:=slot c o (I.cne x c e) hc nch ho (I.freeC x c e)
   exact⟨_,q,hd⟩
  ·exact⟨o,keep c o (I.cne x c e) hc nch ho (I.freeC x c e),hd⟩
 refine⟨I.ok,I.os,hg,⟨λ b o e n hb hx=>?_,λ b o e n hb hx=>?_,λ b o e n hx=>?_,λ b o e hx=>?_,λ b xs e=>tups b xs (I.base.tups b xs e),λ b o xs e=>frzs b o xs (I.base.frzs b o xs e),λ b ps e=>?_⟩,?_,λ x c e=>?_,?_,λ x c e=>?_,λ p hp=>?_,hok,I.len⟩
 ·exact keep b o (neL b o e) hb (neC b o e hx) (I.base.keep b o e n hb hx) (I.base.free b o e n hx)
 ·obtain⟨sl,e1⟩:=I.base.slot b o e n hb hx
  obtain⟨sl',e2⟩:=slot b _ (neL b o e) hb (neC b o e hx) e1 (I.base.free b o e n hx);exact⟨sl',e2⟩
 ·obtain⟨o',e1⟩:=I.base.there b o e hx
  exact free b o' (neC b o e hx) e1 (I.base.free b o e n hx)
 ·obtain⟨o',e1⟩:=I.base.there b o e hx
  exact there b o' (neC b o e hx) e1
 ·obtain⟨m1,e1⟩:=I.base.tbls b ps e
  obtain⟨m2,e2⟩:=tbls b _ e1;exact⟨m1++m2,by rw[e2,Array.append_assoc]⟩
 ·obtain⟨m,hn,hl⟩:=I.loc
  refine⟨m,ns m hn,λ i x v e1 e2 e3=>?_⟩;obtain⟨u,r,l⟩:=hl i x v e1 e2 e3;refine⟨u,r,?_⟩;rcases l with l|⟨k,c,e,z⟩
  ·exact .inl l
  ·exact .inr ⟨k,c,e,cellK x c e _ z⟩
 ·obtain⟨v,z⟩:=I.cell x c e
  exact⟨v,cellK x c e v z⟩
 ·obtain⟨m,⟨o,_,_,ho,_⟩,_⟩:=I.loc
  exact free _ o (λ z=>(hch _ z).2.1 rfl) ho I.free
 ·obtain⟨v,o,ho,hd⟩:=I.cell x c e
  exact free c o (λ z=>(hch c z).2.2.1 x c e rfl) ho (I.freeC x c e)
 ·obtain⟨e,n,ne,nf,d⟩:=I.pin p hp
  have nch:p.1∉ch:=λ z=>(hch p.1 z).2.2.2 p hp rfl
  exact⟨keep p.1 p.2 ne nf nch e n,free p.1 p.2 nch e n,ne,nf,d⟩
theorem Inv.un(I:Inv X pins σ H s)(u:Un X.fs [] H H' s.heap h')(hok:HOk X.prog X.w H' h'):Inv X pins σ H' {s with heap:=h',toks:=t'}:=by
 obtain⟨m,⟨o,es,ep,ho,r⟩,_⟩:=id I.loc;obtain⟨sl,hL⟩:=u.any ho I.free (by simp);exact I.step (g':=s.gens) (d':=s.drawn) (ch:=[]) (λ _ z=>nomatch z) (λ b o _ hb _ e n=>u.keep b o e n hb (by simp)) (λ b o _ hb _ e n=>u.slot b o e n hb (by simp)) (λ b o _ e n=>u.free b o e n (by simp)) (λ b o _ e=>u.there b o e (by simp)) u.tups u.frzs u.tbls (λ m' hm=>by
  obtain⟨o',es',ep',ho',r'⟩:=hm;rw[ho]at ho';cases ho';exact⟨_,es',ep',hL,r'⟩) hok I.bare
theorem Inv.call{ch:List Addr}(I:Inv X pins σ H s)(u:Un (frs X.stack) ch H H' s.heap h')(hok:HOk X.prog X.w H' h')(hg:AllBare g')
  (hch:∀b∈ch,(b∈X.ex\/X.s₀.heap.objs.size<=b)/\b≠X.env.locals/\(∀x c,X.env.cells.lookup x=some c->c≠b)/\∀p∈X.pn++pins,p.1≠b):
  Inv X pins σ H' {s with heap:=h',gens:=g',drawn:=d',toks:=t'}:=by
 obtain⟨m,⟨o,es,ep,ho,r⟩,_⟩:=id I.loc;obtain⟨sl,hL⟩:=u.any ho I.free λ z=>(hch _ z).2.1 rfl
 exact I.step (ch:=ch) hch (λ b o hL hb hc e n=>u.keep b o e n (λ z=>(List.mem_cons.mp (I.stkSub b z)).elim hL hb) hc) (λ b o _ _ hc e n=>u.any e n hc) (λ b o hc e n=>u.free b o e n hc) (λ b o hc e=>u.there b o e hc) u.tups u.frzs u.tbls (λ m' hm=>by
  obtain⟨o',es',ep',ho',r'⟩:=hm;rw[ho]at ho';cases ho';exact⟨_,es',ep',hL,r'⟩) hok hg
theorem Inv.turned(I:Inv X pins σ H s)(k:∀b o,b≠it->s.heap.get? b=some o->h'.get? b=some o)(hn:H it=none)(hL:it≠X.env.locals)
  (h1:it∈X.ex\/X.s₀.heap.objs.size<=it)(h2:∀x c,X.env.cells.lookup x=some c->c≠it)(h3:∀p∈X.pn++pins,p.1≠it):Inv X pins σ H {s with heap:=h',toks:=t'}:=by
 have nit:∀b u,H b=some u->b≠it:=λ b u e z=>by rw[z,hn]at e;cases e
 refine I.step (g':=s.gens) (d':=s.drawn) (ch:=[it]) (λ b hb=>?_) (λ b o _ _ hc e _=>k b o (λ z=>hc (by simp[z])) e) (λ b o _ _ hc e _=>⟨o.slots,k b o (λ z=>hc (by simp[z])) e⟩) (λ _ _ _ _ n=>n)
  (λ b o hc e=>⟨o,k b o (λ z=>hc (by simp[z])) e⟩) (λ _ _ e=>e) (λ _ _ _ e=>e) (λ b ps e=>⟨#[],by rw[e];simp⟩) (λ m hm=>?_) (λ b u e=>?_) I.bare
 ·have e:b=it:=by simpa using hb
  subst e;exact⟨h1,hL,h2,h3⟩
 ·obtain⟨o,es,ep,ho,r⟩:=hm
  exact⟨o,es,ep,k _ o (Ne.symm hL) ho,r⟩
 ·refine(I.hok b u e).stay (λ c v hc q=>k c v ?_ q) (λ _ q=>q) λ _ _ q=>q
  rcases hc with z|z
  ·rw[z];exact nit b u e
  ·exact nit c _ z
theorem Inv.tok(I:Inv X pins σ H s)(t:Nat):Inv X pins σ H {s with toks:=t}:=I.un (h':=s.heap) (t':=t) Un.refl I.hok
theorem Inv.kept(I:Inv X pins σ H s)(k:∀b u,s.heap.get? b=some u->h'.get? b=some u):Inv X pins σ H {s with heap:=h',toks:=t'}:=I.un (Un.kept k) (I.hok.kept k)
theorem Inv.laid(I:Inv X pins σ H s)(k:∀b u,s.heap.get? b=some u->h'.get? b=some u)(hp:s.heap.objs.size<=a)(new:gm X.prog X.w (upd H a o) h' a o):
  Inv X pins σ (upd H a o) {s with heap:=h',toks:=t'}:=I.un (Un.laid k hp (I.hok.fresh hp)) (I.hok.laid k hp new)
theorem Inv.write(I:Inv X pins σ H s)(mu:Mut (H x))(he:e=x\/H e=some (.own x))(k:∀b u,b≠e->s.heap.get? b=some u->h'.get? b=some u)(heo:∃u,h'.get? e=some u)
  (new:gm X.prog X.w (upd H x o) h' x o):Inv X pins σ (upd H x o) {s with heap:=h',toks:=t'}:=I.un (Un.write mu he k heo) (I.hok.write mu he k heo new)
theorem Inv.weak(I:Inv X pins σ H s)(hl:σ'.length=σ.length)(w:∀(i:Nat) v,σ'[i]? =some (some v)->σ[i]? =some (some v)):Inv X pins σ' H s:=
 ⟨I.ok,I.os,I.bare,I.base,let⟨m,hn,hl'⟩:=I.loc;⟨m,hn,λ i x v e1 e2 e3=>hl' i x v e1 (w i v e2) e3⟩,I.cell,I.free,I.freeC,I.pin,I.hok,hl.trans I.len⟩
theorem Inv.pins_of(I:Inv X pins σ H s)(h:∀p∈pins',s.heap.get? p.1=some p.2/\H p.1=none/\p.1≠X.env.locals/\p.1∉X.fs/\∀v,p.2.data≠.cell v):Inv X pins' σ H s:=
 ⟨I.ok,I.os,I.bare,I.base,I.loc,I.cell,I.free,I.freeC,λ p hp=>(List.mem_append.mp hp).elim (λ z=>I.pin p (List.mem_append_left _ z)) (h p),I.hok,I.len⟩
theorem aDE{N:List Str}(hN:N.Nodup){i j:Nat}(a:N[i]? =some x)(b:N[j]? =some x):i=j:=by
 obtain⟨h1,e1⟩:=List.getElem?_eq_some_iff.mp a;obtain⟨h2,e2⟩:=List.getElem?_eq_some_iff.mp b;exact(List.getElem_inj hN).mp (e1.trans e2.symm)
theorem aAp{M:Model}{A:Around}(I:Inv X pins σ H s)(hN:X.N.Nodup)(hi:X.N[i]? =some x)(hx:Loc X.env.scope x)(r:RelV v u)
  (h:∀s',Inv X pins (σ.set i (some v)) H s'->(∃a,Heap.SameBut a s.heap s'.heap/\(a=X.env.locals\/X.env.cells.lookup x=some a))->Q () s')(hf:X.fn x=true\/X.env.scope.names.lookup x=some .local:=by first|exact .inl rfl|exact .inr rfl|assumption):wpAny M A (storeName X.env x u) Q E s:=by
 obtain⟨m,hn,hl⟩:=id I.loc;have hcls:(X.env.scope.kind== .class||(X.env.scope.kind== .module&&X.env.locals !=X.env.globals))=false:=by rw[I.ok.kind];rfl
 have hiσ:i<σ.length:=by rw[I.len];exact(List.getElem?_eq_some_iff.mp hi).1
 have cne:=I.cne;have tracked:∀{a:Addr} {h':Heap},(∃o,s.heap.get? a=some o/\H a=none)->Heap.SameBut a s.heap h'->HOk X.prog X.w H h':=λ{a h'} ha hs b ob e=>by
  obtain⟨_,_,hfree⟩:=ha;refine(I.hok b ob e).stay (λ c w' hc q=>(hs.2 c ?_).trans q) (λ _ q=>q) λ _ _ q=>q
  rintro rfl;rcases hc with rfl|hc
  ·rw[hfree]at e;cases e
  ·rw[hfree]at hc;cases hc
 rcases hx with hk|hk
 ·refine wpAny_storeName_local hk hn (λ h' hn' hs=>?_) hcls
  obtain⟨oL,_,_,hoL,_⟩:=id hn;refine h _ ⟨I.ok,I.os,I.bare,⟨λ b o e n hb hx=>?_,λ b o e n hb hx=>?_,I.base.free,λ b o e hx=>?_,I.base.tups,I.base.frzs,I.base.tbls⟩,⟨_,hn',λ j y v' e1 e2 e3=>?_⟩,λ y c e=>?_,I.free,I.freeC,λ p hp=>?_,tracked ⟨oL,hoL,I.free⟩ hs,by simpa using I.len⟩ ⟨_,hs,.inl rfl⟩
  ·exact(hs.2 b (Nat.ne_of_lt (Nat.lt_of_lt_of_le (Heap.lt_size e) I.ok.above))).trans (I.base.keep b o e n hb hx)
  ·obtain⟨sl,e1⟩:=I.base.slot b o e n hb hx
   exact⟨sl,(hs.2 b (Nat.ne_of_lt (Nat.lt_of_lt_of_le (Heap.lt_size e) I.ok.above))).trans e1⟩
  ·obtain⟨o',e1⟩:=I.base.there b o e hx
   exact⟨o',(hs.2 b (Nat.ne_of_lt (Nat.lt_of_lt_of_le (Heap.lt_size e) I.ok.above))).trans e1⟩
  ·by_cases hj:j=i
   ·subst hj
    rw[hi]at e1;cases e1;rw[List.getElem?_set_self hiσ]at e2;cases e2;exact⟨u,r,.inl ⟨hk,by simp⟩⟩
   ·rw[List.getElem?_set_ne (Ne.symm hj)]at e2
    obtain⟨u',r',q⟩:=hl j y v' e1 e2 e3;refine⟨u',r',?_⟩;rcases q with ⟨k,e⟩|⟨k,c,e,z⟩
    ·refine .inl ⟨k,?_⟩
     have:y≠x:=λ e=>hj (aDE hN e1 (e▸hi))
     simp[this,e]
    ·exact .inr ⟨k,c,e,z.sameBut hs (cne y c e)⟩
  ·obtain⟨w',z⟩:=I.cell y c e
   exact⟨w',z.sameBut hs (cne y c e)⟩
  ·obtain⟨e,n,ne,nf,d⟩:=I.pin p hp
   exact⟨(hs.2 p.1 ne).trans e,n,ne,nf,d⟩
 ·have hfn:X.fn x=true:=by
   rcases hf with z|z
   ·exact z
   ·rw[z]at hk;cases hk
  obtain⟨c,hc⟩:=I.ok.has x (.inl hk);obtain⟨w',z⟩:=I.cell x c hc;refine wpAny_storeName_cell I.ok.kind hk hc z (λ h' hc' hs=>?_);obtain⟨oc,hoc,hocd⟩:=id z;refine h {s with heap:=h'} ⟨I.ok,I.os,I.bare,⟨λ b o e n hb hx=>?_,λ b o e n hb hx=>?_,I.base.free,λ b o e hx=>?_,I.base.tups,I.base.frzs,I.base.tbls⟩,⟨m,hn.sameBut hs (Ne.symm (cne x c hc)),λ j y v' e1 e2 e3=>?_⟩,λ y c' e=>?_,I.free,I.freeC,λ p hp=>?_,tracked ⟨oc,hoc,I.freeC x c hc⟩ hs,by simpa using I.len⟩ ⟨c,hs,.inr hc⟩
  ·exact(hs.2 b (Nat.ne_of_lt (Nat.lt_of_lt_of_le (Heap.lt_size e) (I.ok.cab x c hfn hc)))).trans (I.base.keep b o e n hb hx)
  ·obtain⟨sl,e1⟩:=I.base.slot b o e n hb hx
   exact⟨sl,(hs.2 b (Nat.ne_of_lt (Nat.lt_of_lt_of_le (Heap.lt_size e) (I.ok.cab x c hfn hc)))).trans e1⟩
  ·obtain⟨o',e1⟩:=I.base.there b o e hx
   exact⟨o',(hs.2 b (Nat.ne_of_lt (Nat.lt_of_lt_of_le (Heap.lt_size e) (I.ok.cab x c hfn hc)))).trans e1⟩
  ·by_cases hj:j=i
   ·subst hj
    rw[hi]at e1;cases e1;rw[List.getElem?_set_self hiσ]at e2;cases e2;exact⟨u,r,.inr ⟨.inl hk,c,hc,hc'⟩⟩
   ·rw[List.getElem?_set_ne (Ne.symm hj)]at e2
    obtain⟨u',r',q⟩:=hl j y v' e1 e2 e3;refine⟨u',r',?_⟩;rcases q with q|⟨k,c',e,z'⟩
    ·exact .inl q
    ·refine .inr ⟨k,c',e,z'.sameBut hs ?_⟩
     rintro rfl;exact hj (aDE hN e1 (I.ok.inj _ _ _ e hc▸hi))
  ·by_cases hcc:c'=c
   ·subst hcc;exact⟨_,hc'⟩
   ·obtain⟨w2,z2⟩:=I.cell y c' e
    exact⟨w2,z2.sameBut hs hcc⟩
  ·obtain⟨e,n,ne,nf,d⟩:=I.pin p hp
   refine⟨(hs.2 p.1 ?_).trans e,n,ne,nf,d⟩;intro q;rw[q,hoc]at e;have q':oc=p.2:=Option.some.inj e;exact d w' (by rw[<-q'];exact hocd)
theorem aC6(I:Inv X pins σ H s)(hN:X.N.Nodup)(hi:X.N[i]? =some x)(hx:Loc X.env.scope x)(r:RelV v u)
  (h:∀s',Inv X pins (σ.set i (some v)) H s'->Q () s')(hf:X.fn x=true\/X.env.scope.names.lookup x=some .local:=by first|exact .inl rfl|exact .inr rfl|assumption):wpAny M A (storeName X.env x u) Q E s:=
 aAp I hN hi hx r (λ s' I' _=>h s' I') hf
theorem Inv.call'(I:Inv X pins σ H s)(ho:s'.os=s.os)(u:Un (frs X.stack) ch H H' s.heap s'.heap)(hok:HOk X.prog X.w H' s'.heap)(hg:AllBare s'.gens)
  (hch:∀b∈ch,(b∈X.ex\/X.s₀.heap.objs.size<=b)/\b≠X.env.locals/\(∀x c,X.env.cells.lookup x=some c->c≠b)/\∀p∈X.pn++pins,p.1≠b):Inv X pins σ H' s':=by
 obtain⟨h',g',d',t',o'⟩:=s';have e:o'=s.os:=ho;subst e;exact I.call (g':=g') (t':=t') (d':=d') u hok hg hch
end
abbrev XK:=Value->Option Addr->Hp->Prop
abbrev St:=List (Option V)
abbrev VK:=V->Hp->Prop
abbrev TE:=St->Hp->VK->Prop
abbrev TT:=St->Hp->(Bool->Hp->Prop)->Prop
abbrev TA:=St->Hp->(List V->Hp->Prop)->Prop
structure Ends where
 nx:St->Hp->Prop
 rt:VK
 bk:St->Hp->Prop:=λ _ _=>False
 ct:St->Hp->Prop:=λ _ _=>False
abbrev TS:=Ends->St->Hp->Prop
def EP(X:Cx)(pins:List (Addr×Obj))(σ:St)(Q:VK)(u:Value)(s':Shared):Prop:=∃v H',Inv X pins σ H' s'/\RelV v u/\Q v H'
def TP(X:Cx)(pins:List (Addr×Obj))(σ:St)(Q:Bool->Hp->Prop)(b:Bool)(s':Shared):Prop:=∃H',Inv X pins σ H' s'/\Q b H'
def AP(X:Cx)(pins:List (Addr×Obj))(σ:St)(Q:List V->Hp->Prop)(us:List Value)(s':Shared):Prop:=∃vs H',Inv X pins σ H' s'/\Vals vs us/\Q vs H'
def SP(X:Cx)(pins:List (Addr×Obj))(D:Ends)(f:Flow)(s':Shared):Prop:=
 match f with
 | .next=>∃σ' H',Inv X pins σ' H' s'/\D.nx σ' H'
 | .brk=>∃σ' H',Inv X pins σ' H' s'/\D.bk σ' H'
 | .cont=>∃σ' H',Inv X pins σ' H' s'/\D.ct σ' H'
 | .ret u=>∃v σ' H',Inv X pins σ' H' s'/\RelV v u/\D.rt v H'
def PE(X:Cx)(e:Expr)(t:TE):Prop:=
 ∀(pins:List (Addr×Obj)) (s:Shared) (σ:St) (H:Hp) (Q:VK),Inv X pins σ H s->t σ H Q->wpAny (model X.prog X.w) X.A (eval e X.env) (EP X pins σ Q) X.xe s
def PT(X:Cx)(e:Expr)(t:TT):Prop:=
 ∀(pins:List (Addr×Obj)) (s:Shared) (σ:St) (H:Hp) (Q:Bool->Hp->Prop),Inv X pins σ H s->t σ H Q->wpAny (model X.prog X.w) X.A (isTrue e X.env (eval e X.env)) (TP X pins σ Q) X.xe s
def PW(X:Cx)(e:Expr)(t:TT):Prop:=
 ∀(whole:Sem Value) (pins:List (Addr×Obj)) (s:Shared) (σ:St) (H:Hp) (Q:Bool->Hp->Prop),Inv X pins σ H s->t σ H Q->wpAny (model X.prog X.w) X.A (isTrue e X.env whole) (TP X pins σ Q) X.xe s
theorem PW.pt(h:PW X e t):PT X e t:=h _
def PA(X:Cx)(es:List Expr)(t:TA):Prop:=
 ∀(pos:Pos) (pins:List (Addr×Obj)) (s:Shared) (σ:St) (H:Hp) (Q:List V->Hp->Prop),Inv X pins σ H s->t σ H Q->wpAny (model X.prog X.w) X.A (spliced (backTo pos (starEach es X.env))) (AP X pins σ Q) X.xe s
def PS(X:Cx)(st:Stmt)(t:TS):Prop:=
 ∀(pins:List (Addr×Obj)) (s:Shared) (σ:St) (H:Hp) (D:Ends),Inv X pins σ H s->t D σ H->wpAny (model X.prog X.w) X.A (exec st X.env) (SP X pins D) X.xe s
def PSs(X:Cx)(st:List Stmt)(t:TS):Prop:=
 ∀(pins:List (Addr×Obj)) (s:Shared) (σ:St) (H:Hp) (D:Ends),Inv X pins σ H s->t D σ H->wpAny (model X.prog X.w) X.A (execs st X.env) (SP X pins D) X.xe s
theorem thn(h:wpAny M A t Q E s)(hQ:∀a s,Q a s->Q' a s):wpAny M A t Q' E s:=wpAny_mono h hQ λ _ _ x=>x
section
variable{X:Cx}
def ym(i:Nat):TE:=λ σ H Q=>∃v,σ[i]? =some (some v)/\Q v H
def tC(v:V):TE:=λ _ H Q=>Q v H
theorem nj(hN:X.N[i]? =some x)(hv:Vis X.env.scope x)(hd:(x==("__debug__":Str))=false:=by decide)(hcd:(x==("__classdict__":Str))=false:=by decide):PE X (.Name x pos) (ym i):=by
 intro pins s σ H Q I h;obtain⟨v,e,h⟩:=h;obtain⟨m,hn,hl⟩:=I.loc;obtain⟨u,r,l⟩:=hl i x v hN e hv;have fin:EP X pins σ Q u s:=⟨v,H,I,r,h⟩;rcases l with ⟨hk,hm⟩|⟨hk,c,hc,hcell⟩
 ·exact wpAny_Name (wpAny_loadName_local I.ok.kind hk hn hm fin) hd
 ·rcases hk with hk|hk
  ·exact wpAny_Name (wpAny_loadName_cell I.ok.kind hk hc hcell fin) hd
  ·exact wpAny_Name (wpAny_loadName_free I.ok.kind hk hc hcell fin hcd) hd
theorem aBr{i j pos}:PE X (.Constant (.int i) j pos) (tC (.int i)):=λ _ _ _ H _ I h=>wpAny_Constant_int ⟨.int i,H,I.tok _,⟨_,rfl⟩,h⟩
theorem aOV{b j pos}:PE X (.Constant (.bool b) j pos) (tC (.bl b)):=λ _ _ _ H _ I h=>Constant_bool ⟨.bl b,H,I,rfl,h⟩
theorem aM6{j pos}:PE X (.Constant .none j pos) (tC .non):=λ _ _ _ H _ I h=>Constant_none ⟨.non,H,I,rfl,h⟩
theorem aM2{x j pos}:PE X (.Constant (.str x) j pos) (tC (.str x)):=λ _ _ _ H _ I h=>Calls.Constant_str ⟨.str x,H,I.tok _,⟨_,rfl⟩,h⟩
def Gl(X:Cx)(x:Str):Prop:=X.env.kindOf x=some .globalImplicit
theorem aCC(I:Inv X pins σ H s)(hg:Gl X x)(hm:X.mg x=some u)(h:Q u s)
  (hd:(x==("__debug__":Str))=false:=by decide):wpAny (model X.prog X.w) X.A (eval (.Name x pos) X.env) Q E s:=
 Calls.Name_function_global I.ok.kind hg (Calls.loadGlobal_global (by rw[I.ok.glob];exact I.mod.glob.keeps I.bk) hm h) hd
theorem wM(I:Inv X pins σ H s)(hg:Gl X x)(hm:X.mg x=none)(hv:bootBuiltins x=some u)(h:Q u s)
  (hn:x≠"__name__":=by decide)(hd:(x==("__debug__":Str))=false:=by decide):wpAny (model X.prog X.w) X.A (eval (.Name x pos) X.env) Q E s:=by
 obtain⟨mb,h1,h2⟩:=I.mod.blt;exact Calls.Name_function_global I.ok.kind hg (Calls.loadGlobal_builtin (by rw[I.ok.glob];exact I.mod.glob.keeps I.bk) hm (by rw[I.ok.blt];exact h1.keeps I.bk) ((h2 x hn).trans hv) h) hd
theorem aJz(hg:Gl X x)(hm:X.mg x=some u)(r:RelV v u)(hd:(x==("__debug__":Str))=false:=by decide):PE X (.Name x pos) (tC v):=
 λ _ _ _ H _ I h=>aCC I hg hm ⟨v,H,I,r,h⟩ hd
theorem aKD(hg:Gl X x)(hm:X.mg x=none)(hv:bootBuiltins x=some u)(r:RelV v u)(hn:x≠"__name__":=by decide)(hd:(x==("__debug__":Str))=false:=by decide):PE X (.Name x pos) (tC v):=
 λ _ _ _ H _ I h=>wM I hg hm hv ⟨v,H,I,r,h⟩ hn hd
variable{a b:Expr}{ta tb:TE}{pos:Pos}
variable{tA tB':TT}{rest:List Expr}
def aOz(t u:TT):TT:=λ σ H Q=>t σ H λ c H1=>if c=true then u σ H1 Q else Q false H1
def tOr(t u:TT):TT:=λ σ H Q=>t σ H λ c H1=>if c=true then Q true H1 else u σ H1 Q
def aOv(t:TT):TT:=λ σ H Q=>t σ H λ c H1=>Q (!c) H1
theorem aJn(ha:PT X a tA):PW X (.BoolOp .And [a] pos) tA:=by
 intro wh pins s σ H Q I h;refine isTrue_and (thn (ha pins s σ H Q I h) λ c s1 e=>?_);cases c with
 |true=>exact isTrue_and_nil e
 |false=>exact e
theorem aMN(ha:PT X a tA):PW X (.BoolOp .Or [a] pos) tA:=by
 intro wh pins s σ H Q I h;refine isTrue_or (thn (ha pins s σ H Q I h) λ c s1 e=>?_);cases c with
 |false=>exact isTrue_or_nil e
 |true=>exact e
theorem aMO(ha:PT X a tA)(hb:PW X (.BoolOp .And (b::rest) pos) tB'):PW X (.BoolOp .And (a::b::rest) pos) (aOz tA tB'):=by
 intro wh pins s σ H Q I h;refine isTrue_and (thn (ha pins s σ H _ I h) λ c s1 ⟨H1,I1,q1⟩=>?_);cases c with
 |true=>exact hb wh pins s1 σ H1 Q I1 q1
 |false=>exact⟨H1,I1,q1⟩
theorem aOQ(ha:PT X a tA)(hb:PW X (.BoolOp .Or (b::rest) pos) tB'):PW X (.BoolOp .Or (a::b::rest) pos) (tOr tA tB'):=by
 intro wh pins s σ H Q I h;refine isTrue_or (thn (ha pins s σ H _ I h) λ c s1 ⟨H1,I1,q1⟩=>?_);cases c with
 |true=>exact⟨H1,I1,q1⟩
 |false=>exact hb wh pins s1 σ H1 Q I1 q1
theorem aMQ(ha:PT X a tA):PT X (.UnaryOp .Not a pos) (aOv tA):=by
 intro pins s σ H Q I h;exact isTrue_not (ha pins s σ H (λ c H1=>Q (!c) H1) I h)
def aOC(ta tb:TE):TE:=λ σ H Q=>ta σ H λ x H1=>∃c,x= .bl c/\if c=true then tb σ H1 Q else Q (.bl false) H1
def aOu(ta tb:TE):TE:=λ σ H Q=>ta σ H λ x H1=>∃c,x= .bl c/\if c=true then Q (.bl true) H1 else tb σ H1 Q
def aNy(ta:TE):TE:=λ σ H Q=>ta σ H λ x H1=>∃c,x= .bl c/\Q (.bl (!c)) H1
theorem aM4{op}(h:PE X a t):PE X (.BoolOp op [a] pos) t:=λ pins s σ H Q I hw=>BoolOp_one (h pins s σ H Q I hw)
theorem aM8(ha:PE X a ta)(hb:PE X (.BoolOp .And (b::rest) pos) tb):PE X (.BoolOp .And (a::b::rest) pos) (aOC ta tb):=by
 intro pins s σ H Q I h;refine BoolOp_and (thn (ha pins s σ H _ I h) λ v s1 ⟨x,H1,I1,r1,q1⟩=>?_);obtain⟨c,rfl,q1⟩:=q1;cases r1;refine wpAny_truthy_bool ?_;cases c with
 |true=>exact hb pins s1 σ H1 Q I1 q1
 |false=>exact⟨.bl false,H1,I1,rfl,q1⟩
theorem aOS(ha:PE X a ta)(hb:PE X (.BoolOp .Or (b::rest) pos) tb):PE X (.BoolOp .Or (a::b::rest) pos) (aOu ta tb):=by
 intro pins s σ H Q I h;refine BoolOp_or (thn (ha pins s σ H _ I h) λ v s1 ⟨x,H1,I1,r1,q1⟩=>?_);obtain⟨c,rfl,q1⟩:=q1;cases r1;refine wpAny_truthy_bool ?_;cases c with
 |false=>exact hb pins s1 σ H1 Q I1 q1
 |true=>exact⟨.bl true,H1,I1,rfl,q1⟩
theorem aM5(ha:PE X a ta):PE X (.UnaryOp .Not a pos) (aNy ta):=by
 intro pins s σ H Q I h;refine UnaryOp_ (thn (ha pins s σ H _ I h) λ v s1 ⟨x,H1,I1,r1,q1⟩=>?_);obtain⟨c,rfl,q1⟩:=q1;cases r1;exact not_of (wpAny_truthy_bool ⟨.bl (!c),H1,I1,rfl,q1⟩)
end
def SqL(K:PySem.W.Frag)(H:Hp)(a:Addr)(xs:List V):Prop:=
 Rd H a (.lst xs)\/
  ∃(o:Obj) (its:Array Value) (n:Nat),K.lookup a=some o/\o.cls= .type "list"/\o.dict=none/\o.data= .seq its n/\its.size<=sizeLine/\Vals xs its.toList
def SqT(K:PySem.W.Frag)(H:Hp)(a:Addr)(xs:List V):Prop:=
 Rd H a (.tup xs)\/
  ∃(o:Obj) (its:Array Value) (n:Nat),K.lookup a=some o/\o.cls= .type "tuple"/\o.data= .seq its n/\its.size<=sizeLine/\Vals xs its.toList
def aPJ:Value->Option V
 | .none=>some .non
 | .bool b=>some (.bl b)
 | .int i _=>some (.int i)
 | .str x _=>some (.str x)
 | .bytes b _=>some (.byt b)
 | .float b _=>some (.flt b)
 | .ref a=>some (.ref a)
 | .type n=>some (.ty n)
 |_=>none
theorem RelV.abs(r:RelV x u):aPJ u=some x:=by
 cases x with
 |non=>cases r;rfl
 |bl _=>cases r;rfl
 |int _=>obtain⟨t,rfl⟩:=r;rfl
 |str _=>obtain⟨t,rfl⟩:=r;rfl
 |byt _=>obtain⟨t,rfl⟩:=r;rfl
 |flt _=>obtain⟨t,rfl⟩:=r;rfl
 |ref _=>cases r;rfl
 |ty _=>cases r;rfl
theorem RelV.inj(r:RelV x u)(q:RelV y u):x=y:=Option.some.inj (r.abs.symm.trans q.abs)
theorem Vals.inj:∀{xs ys:List V} {us:List Value},Vals xs us->Vals ys us->xs=ys
 |_,_,_,.nil,.nil=>rfl
 |_,_,_,.cons r t,.cons r' t'=>by rw[r.inj r',Vals.inj t t']
section
variable{X:Cx}{pins:List (Addr×Obj)}{σ:St}{H:Hp}{s:Shared}{a:Addr}{xs ys:List V}
theorem SqL.of{K:PySem.W.Frag}(h:H a=some (.lst xs)):SqL K H a xs:=.inl (.inl h)
theorem SqT.of{K:PySem.W.Frag}(h:H a=some (.tup xs)):SqT K H a xs:=.inl (.inl h)
theorem Inv.list(I:Inv X pins σ H s)(h:SqL X.K H a xs):∃its:List Value,Vals xs its/\PlainL s.heap a its.toArray/\xs.length<=sizeLine:=by
 rcases h with h|⟨o,its,n,hk,hc,hd,hs,hz,r⟩
 ·obtain⟨z,its,n,r,e⟩:=h.ok I.hok
  exact⟨its,r,⟨_,n,e,rfl,rfl,rfl⟩,z⟩
 ·refine⟨its.toList,r,⟨o,n,I.kIn a o hk,hc,hd,by simpa using hs⟩,?_⟩
  have e:=r.length;simp only[Array.length_toList]at e;omega
theorem Inv.tuple(I:Inv X pins σ H s)(h:SqT X.K H a xs):∃its:List Value,Vals xs its/\IsTup s.heap a its.toArray/\xs.length<=sizeLine:=by
 rcases h with h|⟨o,its,n,hk,hc,hs,hz,r⟩
 ·obtain⟨z,its,r,p⟩:=h.ok I.hok
  exact⟨its,r,p,z⟩
 ·refine⟨its.toList,r,⟨o,I.kIn a o hk,hc,n,by simpa using hs⟩,?_⟩
  have e:=r.length;simp only[Array.length_toList]at e;omega
theorem Inv.list_inj(I:Inv X pins σ H s)(h:SqL X.K H a xs)(h':SqL X.K H a ys):xs=ys:=by
 obtain⟨its,r,⟨o,n,e,_,_,d⟩,_⟩:=I.list h;obtain⟨its',r',⟨o',n',e',_,_,d'⟩,_⟩:=I.list h';rw[e]at e';cases e';rw[d]at d';injection d' with d1 _
 have:its=its':=by simpa using congrArg Array.toList d1
 subst this;exact r.inj r'
theorem Inv.tuple_inj(I:Inv X pins σ H s)(h:SqT X.K H a xs)(h':SqT X.K H a ys):xs=ys:=by
 obtain⟨its,r,⟨o,e,_,n,d⟩,_⟩:=I.tuple h;obtain⟨its',r',⟨o',e',_,n',d'⟩,_⟩:=I.tuple h';rw[e]at e';cases e';rw[d]at d';injection d' with d1 _
 have:its=its':=by simpa using congrArg Array.toList d1
 subst this;exact r.inj r'
end
section
variable{X:Cx}{pins:List (Addr×Obj)}{σ:St}{H:Hp}{s:Shared}{E:Value->Shared->Prop}
end
section
variable{X:Cx}{st:Stmt}{rest:List Stmt}{t u:TS}{e:Expr}{te:TE}{pos:Pos}
def aNz:TS:=λ D σ H=>D.nx σ H
def aOs(t u:TS):TS:=λ D σ H=>t {D with nx:=u D} σ H
theorem aJq:PSs X [] aNz:=λ _ _ σ H _ I h=>wpAny_execs_nil ⟨σ,H,I,h⟩
theorem aHh(h1:PS X st t)(h2:PSs X rest u):PSs X (st::rest) (aOs t u):=by
 intro pins s σ H D I h;refine wpAny_execs_cons (thn (h1 pins s σ H {D with nx:=u D} I h) λ f s1 q=>?_);cases f with
 |next=>
  obtain⟨σ',H',I',q⟩:=q;exact h2 pins s1 σ' H' D I' q
 |ret v=>exact q
 |brk=>exact q
 |cont=>exact q
theorem aJp(h1:PS X st t):PSs X [st] t:=by
 intro pins s σ H D I h;refine wpAny_execs_cons (thn (h1 pins s σ H D I h) λ f s1 q=>?_);cases f with
 |next=>exact wpAny_execs_nil q
 |ret v=>exact q
 |brk=>exact q
 |cont=>exact q
theorem Inv.quiet(I:Inv X pins σ H s):interactive X.env=false:=by simp[interactive,I.ok.kind]
def aAo(te:TE):TS:=λ D σ H=>te σ H λ _ H1=>D.nx σ H1
theorem rC(he:PE X e te)(hs:swapsWith e none pos.line X.env=pure false:=by rfl):PS X (.Expr e pos) (aAo te):=by
 intro pins s σ H D I h;exact wpAny_Expr_any (thn (he pins s σ H _ I h) λ v s1 ⟨x,H1,I1,r1,q1⟩=>⟨σ,H1,I1,q1⟩) I.quiet hs
def aOt(te:TE):TS:=λ D σ H=>te σ H D.rt
theorem aMR(he:PE X e te):PS X (.Return (some e) pos) (aOt te):=by
 intro pins s σ H D I h;exact wpAny_Return_some (thn (he pins s σ H _ I h) λ v s1 ⟨x,H1,I1,r1,q1⟩=>⟨x,σ,H1,I1,r1,q1⟩)
def aOx(c:TT)(t u:TS):TS:=λ D σ H=>c σ H λ b H1=>if b=true then t D σ H1 else u D σ H1
theorem aOR(hc:PT X c tc)(ha:PSs X a t)(hb:PSs X b u):PS X (.If c a b pos) (aOx tc t u):=by
 intro pins s σ H D I h;refine wpAny_If (thn (hc pins s σ H _ I h) λ d s1 ⟨H1,I1,q1⟩=>?_);cases d with
 |true=>exact ha pins s1 σ H1 D I1 q1
 |false=>exact hb pins s1 σ H1 D I1 q1
end
abbrev TG:=V->St->Hp->(St->Hp->Prop)->Prop
abbrev TGs:=List V->St->Hp->(St->Hp->Prop)->Prop
def PG(X:Cx)(target:Expr)(t:TG):Prop:=
 ∀(pins:List (Addr×Obj)) (s:Shared) (σ:St) (H:Hp) (v:V) (u:Value) (Q:St->Hp->Prop),Inv X pins σ H s->RelV v u->t v σ H Q->
  wpAny (model X.prog X.w) X.A (assign target X.env u) (λ _ s'=>∃σ' H',Inv X pins σ' H' s'/\Q σ' H') X.xe s
def PGs(X:Cx)(ts:List Expr)(t:TGs):Prop:=
 ∀(pins:List (Addr×Obj)) (s:Shared) (σ:St) (H:Hp) (vs:List V) (us:List Value) (Q:St->Hp->Prop),Inv X pins σ H s->Vals vs us->t vs σ H Q->
  wpAny (model X.prog X.w) X.A (assignInOrder ((assignEach ts X.env).map (·.2)) us) (λ _ s'=>∃σ' H',Inv X pins σ' H' s'/\Q σ' H') X.xe s
section
variable{X:Cx}{pos:Pos}
def xK(i:Nat):TG:=λ v σ H Q=>Q (σ.set i (some v)) H
theorem aJw(hN:X.N.Nodup)(hi:X.N[i]? =some x)(hx:Loc X.env.scope x)(hf:X.fn x=true\/X.env.scope.names.lookup x=some .local:=by first|exact .inl rfl|exact .inr rfl|assumption):PG X (.Name x pos) (xK i):=by
 intro pins s σ H v u Q I r h;exact wpAny_assign_Name (aC6 I hN hi hx r (λ s' I'=>⟨_,H,I',h⟩) hf)
def aNY:TGs:=λ vs σ H Q=>vs=[]/\Q σ H
def aIl(t:TG)(u:TGs):TGs:=λ vs σ H Q=>∃v r,vs=v::r/\t v σ H λ σ' H'=>u r σ' H' Q
theorem aJv:PGs X [] aNY:=by
 intro pins s σ H vs us Q I r h;obtain⟨e,h⟩:=h;subst e;cases r;exact assignInOrder_nil ⟨σ,H,I,h⟩
theorem aHn(h1:PG X e t)(h2:PGs X es u)
  (hs:(assignEach (e::es) X.env).map (·.2)=assign e X.env::(assignEach es X.env).map (·.2):=by rfl):PGs X (e::es) (aIl t u):=by
 intro pins s σ H vs us Q I r h;obtain⟨v,vr,e1,h⟩:=h;subst e1;cases r with
 |cons r rr=>
  rw[hs];refine assignInOrder_cons (thn (h1 pins s σ H _ _ _ I r h) λ _ s1 ⟨σ1,H1,I1,q1⟩=>?_);exact h2 pins s1 σ1 H1 _ _ Q I1 rr q1
def aKq(K:PySem.W.Frag)(n:Nat)(t:TGs):TG:=λ v σ H Q=>∃a xs,v= .ref a/\SqT K H a xs/\xs.length=n/\t xs σ H Q
theorem aMY(hc:X.calm=true)(h:PGs X es t)
  (hn:(assignEach es X.env).length=n:=by rfl)(hst:(assignEach es X.env).findIdx? (·.1)=none:=by rfl):PG X (.Tuple es k pos) (aKq X.K n t):=by
 intro pins s σ H v u Q I r hw;obtain⟨a,xs,e1,hq,hl,hw⟩:=hw;subst e1;cases r;obtain⟨its,rv,ht,hz⟩:=I.tuple hq;refine assign_Tuple_tuple (I.ok.hd hc) ht (by simp[hn,<-hl,rv.length]) hst λ h' hx=>?_
 have I1:Inv X pins σ H {s with heap:=h'}:=I.kept (t':=s.toks) λ b o e=>hx b o (Nat.ne_of_lt (Heap.lt_size e)) e
 exact h pins _ σ H xs _ Q I1 (by simpa using rv) hw
def aHG(te:TE)(g:TG):TS:=λ D σ H=>te σ H λ x H1=>g x σ H1 D.nx
theorem aMT(he:PE X e te)(hg:PG X tg g)(hs:swapsWithSole [tg] e pos.line X.env=pure false:=by rfl)(hw:swappedStores [tg] e X.env=pure none:=by rfl)
  (h1:(assignEach [tg] X.env).map (·.2)=[assign tg X.env]:=by rfl):PS X (.Assign [tg] e pos) (aHG te g):=by
 intro pins s σ H D I h;refine wpAny_Assign_stores (thn (he pins s σ H _ I h) λ v s1 ⟨x,H1,I1,r1,q1⟩=>?_) hs hw;rw[h1];exact thn (hg pins s1 σ H1 x v _ I1 r1 q1) λ _ s2 q=>q
theorem aEU(hN:X.N.Nodup)(hi:X.N[i]? =some x)(hx:Loc X.env.scope x)(he:PE X e te)(hs:swapsWith e (some (.Name x pos')) pos.line X.env=pure false:=by rfl)(hf:X.fn x=true\/X.env.scope.names.lookup x=some .local:=by first|exact .inl rfl|exact .inr rfl|assumption):
  PS X (.Assign [.Name x pos'] e pos) (aHG te (xK i)):=by
 intro pins s σ H D I h;refine wpAny_Assign_Name (thn (he pins s σ H _ I h) λ v s1 ⟨y,H1,I1,r1,q1⟩=>?_) hs;exact aC6 I1 hN hi hx r1 (λ s2 I2=>⟨_,H1,I2,q1⟩) hf
end
section
variable{X:Cx}{pos:Pos}
def aLr(c:TT)(tb:TS):TS:=λ D σ H=>∃W:Nat->St->Hp->Prop,(∃m,W m σ H)/\∀m σ H,W m σ H->
 c σ H λ b H1=>if b=true then∃N:St->Hp->Prop,(∀σ' H',N σ' H'->∃m',m'<m/\W m' σ' H')/\tb {D with nx:=N,ct:=N,bk:=D.nx} σ H1 else D.nx σ H1
theorem aHi(hp:PassesOwn (model X.prog X.w) X.A X.env X.xe)(hc:PT X c tc)(hb:PSs X body tb):PS X (.While c body [] pos) (aLr tc tb):=by
 intro pins s σ H D I h;obtain⟨W,⟨m0,w0⟩,turn⟩:=h;refine wpAny_While (codeAny_whileLoop (λ n s'=>∃σ' H',Inv X pins σ' H' s'/\W n σ' H') ?_ m0 ⟨σ,H,I,w0⟩);rintro n s1 ⟨σ1,H1,I1,w1⟩;refine wpAny_passesOwn hp (thn (hc pins s1 σ1 H1 _ I1 (turn n σ1 H1 w1)) λ b s2 ⟨H2,I2,q2⟩=>?_);cases b with
 |true=>
  obtain⟨N,hN,q2⟩:=q2;rw[if_pos rfl];refine wpAny_passesOwn hp (thn (hb pins s2 σ1 H2 _ I2 q2) λ f s3 q3=>?_);cases f with
  |next=>
   obtain⟨σ3,H3,I3,n3⟩:=q3;obtain⟨m',hm,w3⟩:=hN σ3 H3 n3;exact⟨m',hm,σ3,H3,I3,w3⟩
  |cont=>
   obtain⟨σ3,H3,I3,n3⟩:=q3;obtain⟨m',hm,w3⟩:=hN σ3 H3 n3;exact⟨m',hm,σ3,H3,I3,w3⟩
  |brk=>exact q3
  |ret v=>exact q3
 |false=>
  rw[if_neg Bool.false_ne_true];exact wpAny_execs_nil ⟨σ1,H2,I2,q2⟩
end
structure It where
 go:Nat->Hp->Prop
 yld:Nat->Hp->V->Hp->Prop
 stop:Nat->Hp->Prop
def uO(X:Cx)(pins:List (Addr×Obj))(H:Hp)(b:Addr):Prop:=
 H b=none/\b≠X.env.locals/\b∉X.fs/\(b∈X.ex\/X.s₀.heap.objs.size<=b)/\(∀x c,X.env.cells.lookup x=some c->c≠b)/\∀p∈X.pn++pins,p.1≠b
theorem Inv.fpOk(I:Inv X pins σ H s)(hb:s.heap.objs.size<=b)(hn:H' b=none):uO X pins H' b:=by
 refine⟨hn,Nat.ne_of_gt (Nat.lt_of_lt_of_le I.lt hb),I.nofs hb,.inr (Nat.le_trans I.sz hb),λ x c e z=>?_,λ p hp z=>?_⟩
 ·obtain⟨v,q⟩:=I.cell x c e
  exact absurd (Nat.lt_of_lt_of_le q.lt (by rw[z];exact hb)) (Nat.lt_irrefl _)
 ·exact absurd (Nat.lt_of_lt_of_le (Heap.lt_size (I.pin p hp).1) (by rw[z];exact hb)) (Nat.lt_irrefl _)
structure Turn(P:Program)(w:World)(K:PySem.W.Frag)(tg:Expr)(J:It)(fp:List Addr)(it:Addr)(tn:Nat->Heap->Prop):Prop where
 mem:it∈fp
 obj:∀i h,tn i h->∀b∈fp,∃o,h.get? b=some o/\∀v,o.data≠.cell v
 keep:∀i h h',tn i h->(∀b∈fp,∀o,h.get? b=some o->h'.get? b=some o)->tn i h'
 item:∀(X:Cx),X.prog=P->X.w=w->X.K=K->X.calm=true->∀(i:Nat) (pins:List (Addr×Obj)) (s:Shared) (σ:St) (H:Hp) (E:Value->Shared->Prop),Inv X pins σ H s->(∀b∈fp,uO X pins H b)->tn i s.heap->J.go i H->
  wpAny (model P w) X.A (pyNext (.ref it)) (λ r s1=>∃u,r=some u/\
   wpAny (model P w) X.A (letOwnedTupleGo tg (.ref it) u) (λ _ s2=>∃x H',Inv X pins σ H' s2/\RelV x u/\J.yld i H x H'/\tn (i+1) s2.heap/\∀b∈fp,H' b=none) E s1) E s
 done:∀(X:Cx),X.prog=P->X.w=w->X.K=K->X.calm=true->∀(i:Nat) (pins:List (Addr×Obj)) (s:Shared) (σ:St) (H:Hp) (E:Value->Shared->Prop),Inv X pins σ H s->(∀b∈fp,uO X pins H b)->tn i s.heap->J.stop i H->
  wpAny (model P w) X.A (pyNext (.ref it)) (λ r s1=>r=none/\Inv X pins σ H s1) E s
 self:∀(A:Around) (i:Nat) (s:Shared) (Q:Value->Shared->Prop) (E:Value->Shared->Prop),tn i s.heap->Q (.ref it) s->wpAny (model P w) A (pyIter (.ref it)) Q E s
abbrev TI:=St->Hp->(It->Hp->Prop)->Prop
def PIE(X:Cx)(pins:List (Addr×Obj))(σ:St)(tg:Expr)(R:It->Hp->Prop)(itv:Value)(s2:Shared):Prop:=
 ∃(it:Addr) (fp:List Addr) (tn:Nat->Heap->Prop) (J:It) (H':Hp),itv= .ref it/\Inv X pins σ H' s2/\Turn X.prog X.w X.K tg J fp it tn/\tn 0 s2.heap/\(∀b∈fp,uO X pins H' b)/\R J H'
def PI(X:Cx)(tg iter:Expr)(wi:TI):Prop:=
 ∀(pins:List (Addr×Obj)) (s:Shared) (σ:St) (H:Hp) (R:It->Hp->Prop),Inv X pins σ H s->wi σ H R->
  wpAny (model X.prog X.w) X.A (eval iter X.env) (λ v s1=>wpAny (model X.prog X.w) X.A (pyIter v) (PIE X pins σ tg R) X.xe s1) X.xe s
theorem aIi(ho:s.heap.get? it=some o)(hc:o.cls= .type n)(hd:o.data= .fields vs)
    (hn:["enumerate","zip","dict_itemiterator","dict_reverseitemiterator","odict_iterator","itertools.zip_longest","itertools.pairwise"].contains n=false)(hQ:Q () s):wpAny M A (letOwnedTupleGo tg (.ref it) u) Q E s:=by
  unfold letOwnedTupleGo;cases tg<;>first
    |exact wpAny_pure hQ
    | (cases u <;> first
        |exact wpAny_pure hQ
        | (refine wpAny_bind (wpAny_load ho ?_)
           rw[hc,hd];show wpAny M A (if (["enumerate","zip","dict_itemiterator","dict_reverseitemiterator","odict_iterator","itertools.zip_longest","itertools.pairwise"].contains n&&vs[0]? ==some (rawInt _))=true then _ else _) Q E s;rw[if_neg (by intro h;rw[hn,Bool.false_and]at h;cases h)];exact wpAny_pure hQ))
def Itl(K:PySem.W.Frag)(a:Addr):It:=
 ⟨λ i H=>∃xs x,SqL K H a xs/\xs[i]? =some x,λ i H x H'=>H'=H/\∀xs,SqL K H a xs->xs[i]? =some x,λ i H=>∃xs,SqL K H a xs/\xs.length<=i⟩
def Itt(K:PySem.W.Frag)(a:Addr):It:=
 ⟨λ i H=>∃xs x,SqT K H a xs/\xs[i]? =some x,λ i H x H'=>H'=H/\∀xs,SqT K H a xs->xs[i]? =some x,λ i H=>∃xs,SqT K H a xs/\xs.length<=i⟩
def Itr(lo:Int)(n:Nat):It:=⟨λ i _=>i<n,λ i H x H'=>H'=H/\x= .int (lo+i),λ i _=>n<=i⟩
theorem aFu{K:PySem.W.Frag}(a it:Addr):Turn P w K tg (Itl K a) [it] it (λ i h=>h.IsListIter it a i) where
 mem:=by simp
 obj:=λ i h st b hb=>by
  have e:b=it:=by simpa using hb
  subst e;obtain⟨o,e,c,d⟩:=st;exact⟨o,e,λ v z=>by rw[d]at z;cases z⟩
 keep:=λ i h h' st k=>st.at λ o e=>k it (by simp) o e
 item:=by
  intro X hP hw hK hc i pins s σ H E I hf st hg;subst hP hw hK;obtain⟨xs,x,hq,hx⟩:=hg;obtain⟨its,rv,p,hz⟩:=I.list hq;obtain⟨u,hu,ru⟩:=rv.get hx;obtain⟨f0,f1,f2,f3,f4,f5⟩:=hf it (by simp);refine wpAny_pyNext_list_item st p.isList (x:=u) (by simpa using hu) λ h' st' sb=>?_
  have I1:Inv X pins σ H {s with heap:=h'}:=I.turned (t':=s.toks) (λ b o hb e=>(sb.2 b hb).trans e) f0 f1 f3 f4 f5;obtain⟨o,e,c,d⟩:=id st';exact⟨u,rfl,aIi (s:={s with heap:=h'}) e c d (by decide) ⟨x,H,I1,ru,⟨rfl,λ ys hy=>by rw[I.list_inj hy hq];exact hx⟩,st',λ b hb=>(hf b hb).1⟩⟩
 done:=by
  intro X hP hw hK hc i pins s σ H E I hf st hg;subst hP hw hK;obtain⟨xs,hq,hx⟩:=hg;obtain⟨its,rv,p,hz⟩:=I.list hq;obtain⟨f0,f1,f2,f3,f4,f5⟩:=hf it (by simp);have hl:=rv.length;exact wpAny_pyNext_list_end (I.ok.hd hc) st p.isList (by simp;omega) λ h' eb=>⟨rfl,I.turned (t':=s.toks) (λ b o hb e=>eb b o hb e) f0 f1 f3 f4 f5⟩
 self:=λ _ _ _ _ _ st h=>wpAny_pyIter_listiter st h
theorem aDw{K:PySem.W.Frag}(a it:Addr):Turn P w K tg (Itt K a) [it] it (λ i h=>h.IsTupleIter it a i) where
 mem:=by simp
 obj:=λ i h st b hb=>by
  have e:b=it:=by simpa using hb
  subst e;obtain⟨o,e,c,d⟩:=st;exact⟨o,e,λ v z=>by rw[d]at z;cases z⟩
 keep:=λ i h h' st k=>st.at λ o e=>k it (by simp) o e
 item:=by
  intro X hP hw hK hc i pins s σ H E I hf st hg;subst hP hw hK;obtain⟨xs,x,hq,hx⟩:=hg;obtain⟨its,rv,p,hz⟩:=I.tuple hq;obtain⟨u,hu,ru⟩:=rv.get hx;obtain⟨f0,f1,f2,f3,f4,f5⟩:=hf it (by simp);refine wpAny_pyNext_tuple_item st (show s.heap.IsTuple a its.toArray from p) (x:=u) (by simpa using hu) λ h' st' sb=>?_
  have I1:Inv X pins σ H {s with heap:=h'}:=I.turned (t':=s.toks) (λ b o hb e=>(sb.2 b hb).trans e) f0 f1 f3 f4 f5;obtain⟨o,e,c,d⟩:=id st';exact⟨u,rfl,aIi (s:={s with heap:=h'}) e c d (by decide) ⟨x,H,I1,ru,⟨rfl,λ ys hy=>by rw[I.tuple_inj hy hq];exact hx⟩,st',λ b hb=>(hf b hb).1⟩⟩
 done:=by
  intro X hP hw hK hc i pins s σ H E I hf st hg;subst hP hw hK;obtain⟨xs,hq,hx⟩:=hg;obtain⟨its,rv,p,hz⟩:=I.tuple hq;obtain⟨f0,f1,f2,f3,f4,f5⟩:=hf it (by simp);have hl:=rv.length;exact wpAny_pyNext_tuple_end (I.ok.hd hc) st (show s.heap.IsTuple a its.toArray from p) (by simp;omega) λ h' eb=>⟨rfl,I.turned (t':=s.toks) (λ b o hb e=>eb b o hb e) f0 f1 f3 f4 f5⟩
 self:=λ _ _ _ _ _ st h=>wpAny_pyIter_tupleiter st h
theorem aDx{K:PySem.W.Frag}(it:Addr)(lo:Int)(n:Nat):Turn P w K tg (Itr lo n) [it] it (λ i h=>IsRangeIter h it (lo+(i:Nat)*1) ((n:Int)-(i:Nat)) 1) where
 mem:=by simp
 obj:=λ i h st b hb=>by
  have e:b=it:=by simpa using hb
  subst e;exact⟨_,st,λ v z=>by
   have z':Data.fields _=Data.cell v:=z;cases z'⟩
 keep:=λ i h h' st k=>k it (by simp) _ st
 item:=by
  intro X hP hw hK hc i pins s σ H E I hf st hg;subst hP hw hK;obtain⟨f0,f1,f2,f3,f4,f5⟩:=hf it (by simp);have W:=Walks.range (prog:=X.prog) (w:=X.w) (I.ok.hd hc) it lo 1 n;refine W.item i s _ _ hg st λ v h' tk hv st' kk=>?_
  obtain⟨t,rfl⟩:=hv;have I1:Inv X pins σ H {s with heap:=h',toks:=tk}:=I.turned (λ b o hb e=>kk b o (by simpa using hb) e) f0 f1 f3 f4 f5;refine⟨_,rfl,aIi (s:={s with heap:=h',toks:=tk}) (n:="range_iterator") st' rfl rfl (by decide) ⟨.int (lo+i),H,I1,⟨t,?_⟩,⟨rfl,rfl⟩,st',λ b hb=>(hf b hb).1⟩⟩;rw[Int.mul_one]
 done:=by
  intro X hP hw hK hc i pins s σ H E I hf st hg;subst hP hw hK;obtain⟨f0,f1,f2,f3,f4,f5⟩:=hf it (by simp);exact wpAny_pyNext_range_end (I.ok.hd hc) st (by have:n<=i:=hg;omega) λ h' eb=>⟨rfl,I.turned (t':=s.toks) (λ b o hb e=>eb b o hb e) f0 f1 f3 f4 f5⟩
 self:=λ _ _ _ _ _ st h=>wpAny_pyIter_rangeiter st h
section
variable{X:Cx}{tg:Expr}
theorem aCs{lo hi:Int}(I:Inv X pins σ H s)(h1: -(2^62)<=lo)(h2:lo<2^62)(h3: -(2^62)<=hi)(h4:hi<2^62)
  (q:R (Itr lo (hi-lo).toNat) H):wpAny (model X.prog X.w) X.A (pyIter (.ref s.heap.objs.size)) (PIE X pins σ tg R) E {s with heap:=s.heap.push {cls:=.type "range",data:=.fields #[.int lo t,.int hi u,.int 1 v]},toks:=tk}:=by
 refine wpAny_pyIter_range (IsRange.new ..) (small_one h1 h2 h3 h4) ?_;have I1:Inv X pins σ H {s with heap:=s.heap.push {cls:=.type "range",data:=.fields #[.int lo t,.int hi u,.int 1 v]},toks:=tk}:=I.kept λ b o e=>Heap.get?_push_of_some _ e
 refine⟨(s.heap.push {cls:=.type "range",data:=.fields #[.int lo t,.int hi u,.int 1 v]}).objs.size,[(s.heap.push {cls:=.type "range",data:=.fields #[.int lo t,.int hi u,.int 1 v]}).objs.size],_,_,H,rfl,
  I1.kept (t':=tk) λ b o e=>Heap.get?_push_of_some _ e,aDx _ lo (hi-lo).toNat,?_,λ b hb=>?_,q⟩
 ·have e1:lo+((0:Nat):Int)*1=lo:=by simp
  have e2:(((hi-lo).toNat:Nat):Int)-((0:Nat):Int)=Builtin.Range.rangeSize lo hi 1:=by rw[rangeSize_one];split<;>omega
  show IsRangeIter _ _ (lo+((0:Nat):Int)*1) ((((hi-lo).toNat:Nat):Int)-((0:Nat):Int)) 1;rw[e1,e2];exact Heap.get?_push_size _ rfl
 ·have e:b=(s.heap.push {cls:=.type "range",data:=.fields #[.int lo t,.int hi u,.int 1 v]}).objs.size:=by simpa using hb
  subst e;exact I1.fpOk (Nat.le_refl _) (I1.hok.fresh (Nat.le_refl _))
def aOb(ta:TA):TI:=λ σ H R=>ta σ H λ vs H1=>∃j:Int,vs=[.int j]/\-(2^62)<=j/\j<2^62/\R (Itr 0 j.toNat) H1
def aOa(ta:TA):TI:=λ σ H R=>ta σ H λ vs H1=>∃i j:Int,vs=[.int i,.int j]/\(-(2^62)<=i/\i<2^62/\-(2^62)<=j/\j<2^62)/\R (Itr i (j-i).toNat) H1
theorem aGK(hg:Gl X "range")(hm:X.mg "range"=none)(ha:PA X [a] ta)(hs:starEach [a] X.env=[(false,eval a X.env)]:=by rfl):PI X tg (.Call (.Name "range" p) [a] [] pos) (aOb ta):=by
 intro pins s σ H R I h;refine Call_ (wM I hg hm boot_range (PyProof.Rows.callWith_type1 (thn (ha pos pins s σ H _ I h) λ us s1 ⟨vs,H1,I1,r1,q1⟩=>?_) hs rfl));obtain⟨j,e,q1,q2,q⟩:=q1;subst e;cases r1 with
 |cons r rr=>
  cases rr;obtain⟨t,rfl⟩:=r;exact call_range_1 (aCs I1 (by omega) (by omega) q1 q2 (by simpa using q))
theorem aGJ(hg:Gl X "range")(hm:X.mg "range"=none)(ha:PA X [a,b] ta)(hs:starEach [a,b] X.env=[(false,eval a X.env),(false,eval b X.env)]:=by rfl)(hs2:starEach [b] X.env=[(false,eval b X.env)]:=by rfl):
  PI X tg (.Call (.Name "range" p) [a,b] [] pos) (aOa ta):=by
 intro pins s σ H R I h;refine Call_ (wM I hg hm boot_range (PyProof.Rows.callWith_type1 (thn (ha pos pins s σ H _ I h) λ us s1 ⟨vs,H1,I1,r1,q1⟩=>?_) (by rw[hs,hs2]) (by rw[hs2];rfl)));obtain⟨i,j,e,⟨q1,q2,q3,q4⟩,q⟩:=q1;subst e;cases r1 with
 |cons r rr=>
  cases rr with
  |cons r' rr=>
   cases rr;obtain⟨t,rfl⟩:=r;obtain⟨t',rfl⟩:=r';exact call_range_2 (aCs I1 q1 q2 q3 q4 q)
def aOy(wi:TI)(g:TG)(tb:TS):TS:=λ D σ H=>wi σ H λ J H1=>∃W:Nat->Nat->St->Hp->Prop,(∃m,W 0 m σ H1)/\∀i m σ H,W i m σ H->
 (J.stop i H/\D.nx σ H)\/(J.go i H/\∃N:St->Hp->Prop,(∀σ' H',N σ' H'->∃m',m'<m/\W (i+1) m' σ' H')/\∀x H',J.yld i H x H'->g x σ H' λ σ2 H2=>tb {D with nx:=N,ct:=N,bk:=D.nx} σ2 H2)
def uD(fp:List Addr)(h:Heap):List (Addr×Obj):=fp.filterMap λ b=>(h.get? b).map λ o=>(b,o)
theorem mO(hb:b∈fp)(e:h.get? b=some o):(b,o)∈uD fp h:=List.mem_filterMap.mpr ⟨b,hb,by rw[e];rfl⟩
theorem aGP(hp:p∈uD fp h):p.1∈fp/\h.get? p.1=some p.2:=by
 obtain⟨b,hb,e⟩:=List.mem_filterMap.mp hp;cases q:h.get? b with
 |none=>rw[q]at e;cases e
 |some o=>
  rw[q]at e;have e':(b,o)=p:=Option.some.inj e;subst e';exact⟨hb,q⟩
theorem Inv.pinned(I:Inv X pins σ H s)(hf:∀b∈fp,uO X pins H b)(ho:∀b∈fp,∃o,s.heap.get? b=some o/\∀v,o.data≠.cell v):Inv X (pins++uD fp s.heap) σ H s:=
 I.pins_of λ p hp=>(List.mem_append.mp hp).elim (λ z=>I.pin p (List.mem_append_right _ z)) λ z=>by
  obtain⟨hb,e⟩:=aGP z;obtain⟨f0,f1,f2,_⟩:=hf p.1 hb;obtain⟨o,e',d⟩:=ho p.1 hb;rw[e]at e';cases e';exact⟨e,f0,f1,f2,d⟩
theorem Inv.unpinned(I:Inv X (pins++pl) σ H s):Inv X pins σ H s:=I.pins_of λ p hp=>I.pin p (List.mem_append_right _ (List.mem_append_left _ hp))
theorem aMS(hp:PassesOwn (model X.prog X.w) X.A X.env X.xe)(hc:X.calm=true)(hi:PI X tg iter wi)(hg:PG X tg g)(hb:PSs X body tb)
  (hs:∀x,foldedSetIterable iter X.env x=pure x:=by intro _;rfl):PS X (.For tg iter body [] pos) (aOy wi g tb):=by
 intro pins s σ H D I h;refine wpAny_For (thn (hi pins s σ H _ I h) λ v s1 h1=>thn h1 λ itv s2 h2=>?_) hs;obtain⟨it,fp,tn,J,H2,e,I2,T,st2,f2,W,⟨m0,w0⟩,turn⟩:=h2;subst e;have stat:∀{H':Hp},(∀b∈fp,H' b=none)->∀b∈fp,uO X pins H' b:=λ hn b hb=>⟨hn b hb,(f2 b hb).2⟩
 refine codeAny_forLoop_any (λ n s'=>∃i σ' H',Inv X pins σ' H' s'/\tn i s'.heap/\(∀b∈fp,H' b=none)/\W i n σ' H') ?_ m0 ⟨0,σ,H2,I2,st2,λ b hb=>(f2 b hb).1,w0⟩;rintro n s3 ⟨i,σ3,H3,I3,st3,fr3,w3⟩;rcases turn i n σ3 H3 w3 with ⟨stop,qn⟩|⟨go,N,hN,step⟩
 ·refine wpAny_passesOwn hp (thn (T.done X rfl rfl rfl hc i pins s3 σ3 H3 X.xe I3 (stat fr3) st3 stop) λ r s4 ⟨hr,I4⟩=>?_)
  subst hr;exact wpAny_execs_nil ⟨σ3,H3,I4,qn⟩
 ·refine wpAny_passesOwn hp (thn (T.item X rfl rfl rfl hc i pins s3 σ3 H3 X.xe I3 (stat fr3) st3 go) λ r s4 ⟨u,hr,h4⟩=>?_)
  subst hr;refine wpAny_passesOwn hp (thn h4 λ _ s5 ⟨x,H5,I5,r5,y5,st5,fr5⟩=>?_);have I5':=I5.pinned (stat fr5) (T.obj _ _ st5);refine wpAny_passesOwn hp (thn (hg _ s5 σ3 H5 x u _ I5' r5 (step x H5 y5)) λ _ s6 ⟨σ6,H6,I6,q6⟩=>?_);refine wpAny_passesOwn hp (thn (hb _ s6 σ6 H6 _ I6 q6) λ f s7 q7=>?_);have again:∀{σ7:St} {H7:Hp},Inv X (pins++uD fp s5.heap) σ7 H7 s7->N σ7 H7->∃m,m<n/\∃i σ' H',Inv X pins σ' H' s7/\tn i s7.heap/\(∀b∈fp,H' b=none)/\W i m σ' H':=λ{σ7 H7} I7 n7=>by
   obtain⟨m',hm,w7⟩:=hN σ7 H7 n7;refine⟨m',hm,i+1,σ7,H7,I7.unpinned,T.keep _ _ _ st5 λ b hb o e=>(I7.pin (b,o) (List.mem_append_right _ (List.mem_append_right _ (mO hb e)))).1,λ b hb=>?_,w7⟩;obtain⟨o,e,d⟩:=T.obj _ _ st5 b hb;exact(I7.pin (b,o) (List.mem_append_right _ (List.mem_append_right _ (mO hb e)))).2.1
  cases f with
  |next=>obtain⟨σ7,H7,I7,n7⟩:=q7;exact again I7 n7
  |cont=>obtain⟨σ7,H7,I7,n7⟩:=q7;exact again I7 n7
  |brk=>obtain⟨σ7,H7,I7,q7⟩:=q7;exact⟨σ7,H7,I7.unpinned,q7⟩
  |ret v=>obtain⟨x7,σ7,H7,I7,r7,q7⟩:=q7;exact⟨x7,σ7,H7,I7.unpinned,r7,q7⟩
end
abbrev R2:=V->V->Hp->VK->Prop
def OpR(X:Cx)(f:Value->Value->Sem Value)(r:R2):Prop:=
 ∀(pins:List (Addr×Obj)) (s:Shared) (σ:St) (H:Hp) (x y:V) (v u:Value) (Q:VK),Inv X pins σ H s->RelV x v->RelV y u->r x y H Q->
  wpAny (model X.prog X.w) X.A (f v u) (EP X pins σ Q) X.xe s
def UnR(X:Cx)(f:Value->Sem Value)(r:V->Hp->VK->Prop):Prop:=
 ∀(pins:List (Addr×Obj)) (s:Shared) (σ:St) (H:Hp) (x:V) (v:Value) (Q:VK),Inv X pins σ H s->RelV x v->r x H Q->
  wpAny (model X.prog X.w) X.A (f v) (EP X pins σ Q) X.xe s
def dR(X:Cx)(f:Value)(r:List V->Hp->VK->Prop):Prop:=
 ∀(pins:List (Addr×Obj)) (s:Shared) (σ:St) (H:Hp) (xs:List V) (us:List Value) (Q:VK),Inv X pins σ H s->Vals xs us->r xs H Q->
  wpAny (model X.prog X.w) X.A (call f us) (EP X pins σ Q) X.xe s
def aPK(X:Cx)(r:V->Hp->(Bool->Hp->Prop)->Prop):Prop:=
 ∀(pins:List (Addr×Obj)) (s:Shared) (σ:St) (H:Hp) (x:V) (v:Value) (Q:Bool->Hp->Prop),Inv X pins σ H s->RelV x v->r x H Q->
  wpAny (model X.prog X.w) X.A (truthy v) (TP X pins σ Q) X.xe s
def tOp(r:R2)(ta tb:TE):TE:=λ σ H Q=>ta σ H λ x H1=>tb σ H1 λ y H2=>r x y H2 Q
def tUn(r:V->Hp->VK->Prop)(ta:TE):TE:=λ σ H Q=>ta σ H λ x H1=>r x H1 Q
def rI(C:Int->Int->Prop)(g:Int->Int->V):R2:=λ x y H Q=>∃i j,x= .int i/\y= .int j/\C i j/\Q (g i j) H
def rI0(g:Int->Int->V):R2:=λ x y H Q=>∃i j,x= .int i/\y= .int j/\Q (g i j) H
def rU(g:Int->V):V->Hp->VK->Prop:=λ x H Q=>∃i,x= .int i/\Q (g i) H
section
variable{X:Cx}{a b c:Expr}{ta tb tc:TE}{pos:Pos}
theorem aNb(ha:PE X a ta)(hb:PE X b tb){R:V->V->Hp->Prop}(I:Inv X pins σ H s)
  (h:ta σ H λ x H1=>tb σ H1 λ y H2=>R x y H2){f:Value->Value->Sem Value}
  (hf:∀v u s2 x y H2,Inv X pins σ H2 s2->RelV x v->RelV y u->R x y H2->wpAny (model X.prog X.w) X.A (f v u) Q X.xe s2):
  wpAny (model X.prog X.w) X.A (eval a X.env) (λ v s₁=>wpAny (model X.prog X.w) X.A (eval b X.env) (λ u s₂=>wpAny (model X.prog X.w) X.A (f v u) Q X.xe s₂) X.xe s₁) X.xe s:=by
 refine thn (ha pins s σ H _ I h) λ v s1 ⟨x,H1,I1,r1,q1⟩=>?_
 refine thn (hb pins s1 σ H1 _ I1 q1) λ u s2 ⟨y,H2,I2,r2,q2⟩=>?_
 exact hf v u s2 x y H2 I2 r1 r2 q2
theorem aL7(ho:OpR X (binaryOp op) r)(ha:PE X a ta)(hb:PE X b tb):PE X (.BinOp a op b pos) (tOp r ta tb):=by
 intro pins s σ H Q I h;exact wpAny_BinOp (aNb ha hb I h λ v u s2 x y H2 I2 rx ry q=>ho pins s2 σ H2 x y v u Q I2 rx ry q)
theorem aHo(ho:UnR X (unaryOp op) r)(ha:PE X a ta):PE X (.UnaryOp op a pos) (tUn r ta):=by
 intro pins s σ H Q I h;exact UnaryOp_ (thn (ha pins s σ H _ I h) λ v s1 ⟨x,H1,I1,r1,q1⟩=>ho pins s1 σ H1 x v Q I1 r1 q1)
theorem opI{g:Int->Int->Int}
  (rule:∀(i j:Int) (t u:Tok) (s:Shared) (Q:Value->Shared->Prop) (E:Value->Shared->Prop),C i j->Q (.int (g i j) s.toks) {s with toks:=s.toks+1}->wpAny (model X.prog X.w) X.A (f (.int i t) (.int j u)) Q E s):
  OpR X f (rI C λ i j=>.int (g i j)):=by
 intro pins s σ H x y v u Q I rx ry h;obtain⟨i,j,rfl,rfl,hc,q⟩:=h;obtain⟨t,rfl⟩:=rx;obtain⟨t',rfl⟩:=ry;exact rule i j t t' s _ _ hc ⟨.int (g i j),H,I.tok _,⟨_,rfl⟩,q⟩
theorem aO2{g:Int->Int->Int}
  (rule:∀(i j:Int) (t u:Tok) (s:Shared) (Q:Value->Shared->Prop) (E:Value->Shared->Prop),Q (.int (g i j) s.toks) {s with toks:=s.toks+1}->wpAny (model X.prog X.w) X.A (f (.int i t) (.int j u)) Q E s):
  OpR X f (rI0 λ i j=>.int (g i j)):=by
 intro pins s σ H x y v u Q I rx ry h;obtain⟨i,j,rfl,rfl,q⟩:=h;obtain⟨t,rfl⟩:=rx;obtain⟨t',rfl⟩:=ry;exact rule i j t t' s _ _ ⟨.int (g i j),H,I.tok _,⟨_,rfl⟩,q⟩
theorem aKP{g:Int->Int->Bool}
  (rule:∀(i j:Int) (t u:Tok) (s:Shared) (Q:Value->Shared->Prop) (E:Value->Shared->Prop),Q (.bool (g i j)) s->wpAny (model X.prog X.w) X.A (f (.int i t) (.int j u)) Q E s):
  OpR X f (rI0 λ i j=>.bl (g i j)):=by
 intro pins s σ H x y v u Q I rx ry h;obtain⟨i,j,rfl,rfl,q⟩:=h;obtain⟨t,rfl⟩:=rx;obtain⟨t',rfl⟩:=ry;exact rule i j t t' s _ _ ⟨.bl (g i j),H,I,rfl,q⟩
def aOp(i j:Int):Prop:=0<j/\j<1073741824
def aPM(i j:Int):Prop:=0<=j/\j<=1000000/\i.natAbs<2^64
def aLQ(i j:Int):Prop:=(-(2^64)<i/\i<2^64)\/(-(2^64)<j/\j<2^64)
theorem aLQ.ok(h:aLQ i j):IntMulOk i j:=by
 rcases h with ⟨h1,h2⟩|⟨h1,h2⟩
 ·exact .of_left (intBits_le_64 h1 h2)
 ·exact .of_right (intBits_le_64 h1 h2)
theorem aMr:OpR X (binaryOp .Add) (rI0 λ i j=>.int (i+j)):=aO2 λ _ _ _ _ _ _ _ q=>add_int q
theorem aMc:OpR X (binaryOp .Sub) (rI0 λ i j=>.int (i-j)):=aO2 λ _ _ _ _ _ _ _ q=>sub_int q
theorem aMg:OpR X (binaryOp .Mult) (rI aLQ λ i j=>.int (i*j)):=opI λ _ _ _ _ _ _ _ hc q=>mul_int q hc.ok
theorem aKK:OpR X (binaryOp .FloorDiv) (rI aOp λ i j=>.int (i / j)):=opI λ i j _ _ _ _ _ hc q=>by
 have h1:(0:Int)<j:=hc.1;have h2:j<1073741824:=hc.2;exact floordiv_int (by omega) (by rw[Int.fdiv_eq_ediv_of_nonneg i (by omega)];exact q) (.inl (PyProof.noPylong_small (by omega)))
theorem aMh:OpR X (binaryOp .Mod) (rI (λ _ j=>0<j) λ i j=>.int (i%j)):=opI λ i j _ _ _ _ _ hc q=>by
 have h1:(0:Int)<j:=hc;exact mod_int' (by omega) (by rw[Int.fmod_eq_emod_of_nonneg i (by omega)];exact q)
theorem aMe:OpR X (binaryOp .Pow) (rI aPM λ i j=>.int (i^j.toNat)):=opI λ _ _ _ _ _ _ _ hc q=>pow_int_small hc.1 hc.2.1 hc.2.2 q
theorem unI{g:Int->Int}
  (rule:∀(i:Int) (t:Tok) (s:Shared) (Q:Value->Shared->Prop) (E:Value->Shared->Prop),Q (.int (g i) s.toks) {s with toks:=s.toks+1}->wpAny (model X.prog X.w) X.A (f (.int i t)) Q E s):
  UnR X f (rU λ i=>.int (g i)):=by
 intro pins s σ H x v Q I rx h;obtain⟨i,rfl,q⟩:=h;obtain⟨t,rfl⟩:=rx;exact rule i t s _ _ ⟨.int (g i),H,I.tok _,⟨_,rfl⟩,q⟩
theorem aDu:UnR X (unaryOp .USub) (rU λ i=>.int (-i)):=unI λ _ _ _ _ _ q=>neg_int q
end
section
variable{X:Cx}{a b c:Expr}{ta tb tc:TE}{pos:Pos}
theorem aIp(I:Inv X pins σ H s)(q:Q (.bl k) H)(e:k=k'):EP X pins σ Q (.bool k') s:=by
 subst e;exact⟨.bl k,H,I,rfl,q⟩
theorem aOY:OpR X (compareOp .Lt) (rI0 λ i j=>.bl (decide (i<j))):=aKP λ _ _ _ _ _ _ _ q=>lt_int q
theorem aOZ:OpR X (compareOp .LtE) (rI0 λ i j=>.bl (decide (i<=j))):=aKP λ _ _ _ _ _ _ _ q=>le_int q
theorem aO0:OpR X (compareOp .Gt) (rI0 λ i j=>.bl (decide (j<i))):=aKP λ _ _ _ _ _ _ _ q=>gt_int q
theorem aO1:OpR X (compareOp .GtE) (rI0 λ i j=>.bl (decide (j<=i))):=aKP λ _ _ _ _ _ _ _ q=>ge_int q
theorem aMn:OpR X (compareOp .Is) (λ x y H Q=>y= .non/\Q (.bl (decide (x= .non))) H):=by
 intro pins s σ H x y v u Q I rx ry h;obtain⟨rfl,q⟩:=h;cases ry;refine is_none_gen (aIp I q ?_);cases x<;>first
  |(cases rx;rfl)
  |(obtain⟨t,rfl⟩:=rx;rfl)
def isObj:HO->Bool
 | .lst _=>true
 | .ins _ _ _=>true
 |_=>false
theorem OpR.or(h:OpR X f r)(h':OpR X f r'):OpR X f (λ x y H Q=>r x y H Q\/r' x y H Q):=by
 intro pins s σ H x y v u Q I rx ry q;rcases q with q|q
 ·exact h pins s σ H x y v u Q I rx ry q
 ·exact h' pins s σ H x y v u Q I rx ry q
theorem aIC(b:Expr)(h:op≠.In:=by decide)(h2:op≠.NotIn:=by decide):behindInMarks op b=false:=by
 have e1:(op==CmpOp.In)=false:=by cases op<;>first|rfl|exact absurd rfl h
 have e2:(op==CmpOp.NotIn)=false:=by cases op<;>first|rfl|exact absurd rfl h2
 cases b<;>simp[behindInMarks,e1,e2]
theorem aKB(ho:OpR X (compareOp op) r)(ha:PE X a ta)(hb:PE X b tb)(hm:behindInMarks op b=false):PE X (.Compare a [op] [b] pos) (tOp r ta tb):=by
 intro pins s σ H Q I h;exact wpAny_Compare1 (aNb ha hb I h λ v u s2 x y H2 I2 rx ry q=>ho pins s2 σ H2 x y v u Q I2 rx ry q) hm
def aLT(t:TE):TT:=λ σ H Q=>t σ H λ x H'=>∃k,x= .bl k/\Q k H'
theorem aJo(ho:OpR X (compareOp op) r)(ha:PE X a ta)(hb:PE X b tb)(hm:behindInMarks op b=false):PT X (.Compare a [op] [b] pos) (aLT (tOp r ta tb)):=by
 intro pins s σ H Q I h;refine wpAny_isTrue_Compare1 (thn (ha pins s σ H _ I h) λ v s1 ⟨x,H1,I1,r1,q1⟩=>thn (hb pins s1 σ H1 _ I1 q1) λ u s2 ⟨y,H2,I2,r2,q2⟩=>
  thn (ho pins s2 σ H2 x y v u _ I2 r1 r2 q2) λ c s3 ⟨z,H3,I3,r3,k,e,q3⟩=>?_) hm
 subst e;cases r3;exact wpAny_truthy_bool ⟨H3,I3,q3⟩
def aHE(r r':R2)(ta tb tc:TE):TE:=λ σ H Q=>ta σ H λ x H1=>tb σ H1 λ y H2=>r x y H2 λ z H3=>∃k,z= .bl k/\
 (if k=true then tc σ H3 λ w' H4=>r' y w' H4 Q else Q (.bl false) H3)
theorem aHr(ho:OpR X (compareOp op) r)(ho':OpR X (compareOp op') r')(ha:PE X a ta)(hb:PE X b tb)(hc:PE X c tc)
  (hm:lastMarks [op,op'] [b,c]=false:=by with_unfolding_all rfl):PE X (.Compare a [op,op'] [b,c] pos) (aHE r r' ta tb tc):=by
 intro pins s σ H Q I h;refine Compare_chain (thn (ha pins s σ H _ I h) λ v s1 ⟨x,H1,I1,r1,q1⟩=>chain_link (thn (hb pins s1 σ H1 _ I1 q1) λ u s2 ⟨y,H2,I2,r2,q2⟩=>
  thn (ho pins s2 σ H2 x y v u _ I2 r1 r2 q2) λ d s3 ⟨z,H3,I3,r3,k,e,q3⟩=>?_)) hm
 subst e;cases r3;refine wpAny_truthy_bool ?_;cases k with
 |false=>exact ite_ff ⟨.bl false,H3,I3,rfl,q3⟩
 |true=>exact ite_tt (chain_last (thn (hc pins s3 σ H3 _ I3 q3) λ w' s4 ⟨z',H4,I4,r4,q4⟩=>ho' pins s4 σ H4 y z' u w' Q I4 r2 r4 q4))
def aNh(K:PySem.W.Frag)(x:V)(H:Hp)(k:Bool):Prop:=
 match x with
 | .non=>k=false
 | .bl b=>k=b
 | .int i=>k=(i !=0)
 | .str y=>y.length<=sizeLine/\k=((y.length:Int)!=0)
 | .byt y=>y.size<=sizeLine/\k=((y.size:Int)!=0)
 | .ref p=>(∃xs,SqL K H p xs/\k= !xs.isEmpty)\/(∃xs,SqT K H p xs/\k= !xs.isEmpty)\/∃kvs,H p=some (.dK kvs)/\k= !kvs.isEmpty
 |_=>False
theorem aEm(r:KV kvs vs):(!vs.isEmpty)= !kvs.isEmpty:=by
 cases r<;>rfl
theorem zf(r:Vals xs its):(!its.toArray.isEmpty)= !xs.isEmpty:=by
 cases r<;>simp
theorem zY:(sizeLine:Nat)<2^63:=by rw[sizeLine_eq];decide
theorem aLp:aPK X (λ x H Q=>∃k,aNh X.K x H k/\Q k H):=by
 intro pins s σ H x v Q I rx h;obtain⟨k,e,q⟩:=h;have hl:=zY;have hs:sizeLine=16777216:=sizeLine_eq;cases x with
 |non=>
  cases rx;have e':k=false:=e;subst e';exact truthy_none ⟨H,I,q⟩
 |bl b=>
  cases rx;have e':k=b:=e;subst e';exact wpAny_truthy_bool ⟨H,I,q⟩
 |int i=>
  obtain⟨t,rfl⟩:=rx;have e':k=(i !=0):=e;subst e';exact PySem.P.truthy_int ⟨H,I,q⟩
 |str y=>
  obtain⟨t,rfl⟩:=rx;obtain⟨hy,e'⟩:y.length<=sizeLine/\k=((y.length:Int)!=0):=e;subst e';exact PySem.P.truthy_str (by omega) ⟨H,I.tok _,q⟩
 |byt y=>
  obtain⟨t,rfl⟩:=rx;obtain⟨hy,e'⟩:y.size<=sizeLine/\k=((y.size:Int)!=0):=e;subst e';exact PySem.W.truthy_bytes (by omega) ⟨H,I.tok _,q⟩
 |ref p=>
  cases rx;have e':(∃xs,SqL X.K H p xs/\k= !xs.isEmpty)\/(∃xs,SqT X.K H p xs/\k= !xs.isEmpty)\/∃kvs,H p=some (.dK kvs)/\k= !kvs.isEmpty:=e
  rcases e' with ⟨xs,hx,e'⟩|⟨xs,hx,e'⟩|⟨kvs,hx,e'⟩
  ·subst e'
   obtain⟨its,r,pl,hz⟩:=I.list hx;have hlen:=r.length;exact wpAny_truthy_list pl.isList (by simp only[List.size_toArray];omega) ⟨H,I.tok _,by rw[zf r];exact q⟩
  ·subst e'
   obtain⟨its,r,pl,hz⟩:=I.tuple hx;have hlen:=r.length;exact truthy_tuple pl (by simp only[List.size_toArray];omega) ⟨H,I.tok _,by rw[zf r];exact q⟩
  ·subst e'
   obtain⟨hz,hS,vs,r,m⟩:kvs.length<=sizeLine/\(p==sysModules)=false/\∃vs,KV kvs vs/\s.heap.DictOf (aBx X.prog X.w) p vs:=I.hok p _ hx
   have hlen:kvs.length=vs.length:=Paired.length r;exact wpAny_truthy_dict hS m (by omega) ⟨H,I.tok _,by rw[aEm r];exact q⟩
 |_=>exact(show False from e).elim
theorem aHg(ha:PE X a ta)(he:∀whole,isTrue a X.env whole=(do let v <-whole;standAt a.pos;holding [v] (truthy v))):
  PT X a (λ σ H Q=>ta σ H λ x H'=>∃k,aNh X.K x H' k/\Q k H'):=by
 intro pins s σ H Q I h;exact isTrue_plain (thn (ha pins s σ H _ I h) λ v s1 ⟨x,H1,I1,r1,q1⟩=>aLp pins s1 σ H1 x v Q I1 r1 q1) (he _)
theorem vals1(r:Vals [x] us):∃u,us=[u]/\RelV x u:=by
 cases r with
 |cons r1 r2=>cases r2;exact⟨_,rfl,r1⟩
theorem vals2(r:Vals [x,y] us):∃u w',us=[u,w']/\RelV x u/\RelV y w':=by
 cases r with
 |cons r1 r2=>
  cases r2 with
  |cons r3 r4=>cases r4;exact⟨_,_,rfl,r1,r3⟩
theorem aGk(hc:X.calm=true):dR X (.builtin "max") (λ xs H Q=>∃i j,xs=[.int i,.int j]/\Q (.int (if j>i then j else i)) H):=by
 intro pins s σ H xs us Q I r h;obtain⟨i,j,rfl,q⟩:=h;obtain⟨u,w',rfl,⟨t,rfl⟩,⟨t',rfl⟩⟩:=vals2 r;refine max_two_ints (I.ok.hd hc) λ h' tk k=>⟨_,H,I.kept k,?_,q⟩
 by_cases hj:j>i
 ·rw[if_pos hj,if_pos hj];exact⟨_,rfl⟩
 ·rw[if_neg hj,if_neg hj];exact⟨_,rfl⟩
theorem aGh(hc:X.calm=true):dR X (.builtin "min") (λ xs H Q=>∃i j,xs=[.int i,.int j]/\Q (.int (if j<i then j else i)) H):=by
 intro pins s σ H xs us Q I r h;obtain⟨i,j,rfl,q⟩:=h;obtain⟨u,w',rfl,⟨t,rfl⟩,⟨t',rfl⟩⟩:=vals2 r;refine min_two_ints (I.ok.hd hc) λ h' tk k=>⟨_,H,I.kept k,?_,q⟩
 by_cases hj:j<i
 ·rw[if_pos hj,if_pos hj];exact⟨_,rfl⟩
 ·rw[if_neg hj,if_neg hj];exact⟨_,rfl⟩
end
structure aLL(h:Heap)(x dx C:Addr)(mA:Str->Option Value):Prop where
 obj:h.get? x=some (PySem.W.instObj C dx)
 ns:h.Ns1 dx mA
 ne:dx≠x
theorem aGW{h:Heap}(n:h.Ns1 dx mA):∃od,h.get? dx=some od/\∀name,PySem.W.lookIn name od=some (mA name):=by
 obtain⟨o,es,ep,ho,hd,hk,_,hm⟩:=n;refine⟨o,ho,λ name=>?_⟩;have e:=hm name;unfold nsFind findBy at e;rw[<-Array.find?_toList]at e;unfold PySem.W.lookIn;rw[hd];dsimp only;split
 ·rename_i y q
  rw[q]at e;exact congrArg some e
 ·rename_i q
  rw[q]at e;have a:es.toList.any (·.refKey)=false:=by
   rw[List.any_eq_false];intro y hy;obtain⟨z,t,hkey⟩:=hk y (Array.mem_toList_iff.mp hy);simp[DictEntry.refKey,hkey]
  have a':¬es.toList.any (·.refKey)=true:=by rw[a];exact Bool.false_ne_true
  rw[if_neg a'];exact congrArg some e
theorem aLL.look(I:aLL h x dx C mA):∃od,PySem.W.InstAt h x (PySem.W.instObj C dx) C (some od)/\∀name,PySem.W.lookIn name od=some (mA name):=
 let⟨od,ho,hl⟩:=aGW I.ns
 ⟨od,⟨I.obj,rfl,rfl,ho⟩,hl⟩
section
variable{prog:Program}{w:World}{A:Around}{E:Value->Shared->Prop}{s:Shared}{K:PySem.W.Frag}{x dx C f:Addr}{mA:Str->Option Value}{name:Str}{v:Value}
theorem aIk(X:K.In s.heap)(I:aLL s.heap x dx C mA)(hg:PySem.W.plainGet K C name=true)
  (hf:PySem.W.findIn K (.ref C) name=some (some (.ref f)))(ht:PySem.W.isFn K (.ref f)=true)(hv:mA name=none)(h:Q (.ref f,[.ref x]) s):
  wpAny (model prog w) A (getMethod (.ref x) name pl) Q E s:=by
 obtain⟨od,J,hl⟩:=I.look;exact PySem.W.method_fn X J (PySem.W.plainGet_of hg).1 (PySem.W.plainGet_of hg).2 hf (beq_iff_eq.mp ht) (by show(PySem.W.lookIn name od).map (·.isSome)=some false;rw[hl,hv];rfl) h
theorem make_map(X:K.In s.heap)(hm:PySem.W.makesIn K C=true)
  (hi:PySem.W.findIn K (.ref C) "__init__"=some (some (.ref f)))(hf:PySem.W.typeIn K (.ref f)=some (.type "function"))
  (h:codeAny (model prog w) (A.under (.builtin "type.__call__" ⟨.ref C::vs,kw⟩)) (.call (.ref f) ⟨.ref (s.heap.objs.size+1)::vs,kw⟩) (PySem.W.InitBack (s.heap.objs.size+1) R)
   {s with heap:=(s.heap.push PySem.W.emptyDict).push (PySem.W.instObj C s.heap.objs.size)}):
  codeAny (model prog w) A (.call (.ref C) ⟨vs,kw⟩) R s:=by
 obtain⟨hh,g,d,t,os⟩:=s;exact PySem.W.make_core (PySem.W.makes_of X hm) (PySem.W.looks_findIn X hi) (λ self=>PySem.W.bind_fn X self hf) (.inl rfl) h
end
theorem aGo.none_of(r:aGo none o):o=none:=by
 cases o with
 |none=>rfl
 |some u=>exact(show False from r).elim
section
variable{P:Program}{w:World}{H H':Hp}{h h':Heap}{a C dx:Addr}{fs fs':List (Str×V)}
theorem yX(hok:HOk P w H h)(e:H a=some (.ins C dx fs)):∃mA,aLL h a dx C mA/\(∀f,aGo (fs.lookup f) (mA f))/\PySem.Within mA (fs.map (·.1))/\fs.length<=1000/\H dx=some (.own a):=by
 obtain⟨d,z,ne,ob,mA,n,r,q⟩:=(show gm P w H h a (.ins C dx fs)from hok a _ e);exact⟨mA,⟨ob,n,ne⟩,r,q,z,d⟩
end
structure Cls(K:PySem.W.Frag)(C:Addr):Prop where
 pg:PySem.W.plainGet K C Str.empty=true
 hd:PySem.W.hasDictIn K C=true
 po:PySem.W.plainOver K C=true
 sa:PySem.W.findIn K (.ref C) "__setattr__"=some (some (.builtin "object.__setattr__"))
theorem Cls.get{K:PySem.W.Frag}(c:Cls K C)(f:Str):PySem.W.plainGet K C f=true:=c.pg
def aNk(K:PySem.W.Frag)(C:Addr)(f:Str):Prop:=PySem.W.findIn K (.ref C) f=some none
structure Meth(K:PySem.W.Frag)(C:Addr)(m:Str)(f:Addr):Prop where
 at_:PySem.W.findIn K (.ref C) m=some (some (.ref f))
 fn:PySem.W.isFn K (.ref f)=true
 kp:PySem.W.keepIn K (.ref f)=true
section
variable{X:Cx}{pins:List (Addr×Obj)}{σ:St}{H:Hp}{s:Shared}{a C dx:Addr}{fs:List (Str×V)}{f:Str}{v:V}{A:Around}{E:Value->Shared->Prop}
theorem aEp(I:Inv X pins σ H s)(e:H a=some (.ins C dx fs))(c:Cls X.K C)(k:Meth X.K C m g)(l:fs.lookup m=none)
  (h:Q (.ref g,[.ref a]) s):wpAny (model X.prog X.w) A (getMethod (.ref a) m pl) Q E s:=by
 obtain⟨mA,O,r,_,_,_⟩:=yX I.hok e;have hn:mA m=none:=aGo.none_of (by rw[<-l];exact r m);exact aIk I.kIn O (c.get m) k.at_ k.fn hn h
theorem Inv.made(I:Inv X pins σ H s):Inv X pins σ (upd (upd H s.heap.objs.size (.own (s.heap.objs.size+1))) (s.heap.objs.size+1) (.ins C s.heap.objs.size []))
  {s with heap:=(s.heap.push PySem.W.emptyDict).push (PySem.W.instObj C s.heap.objs.size)}:=by
 have e1:(s.heap.push PySem.W.emptyDict).get? s.heap.objs.size=some PySem.W.emptyDict:=Heap.get?_push_size s.heap rfl;have e2:((s.heap.push PySem.W.emptyDict).push (PySem.W.instObj C s.heap.objs.size)).get? (s.heap.objs.size+1)=some (PySem.W.instObj C s.heap.objs.size):=by
  have:=Heap.get?_push_size (s.heap.push PySem.W.emptyDict) (o:=PySem.W.instObj C s.heap.objs.size) rfl
  rwa [Heap.size_push]at this
 have e3:(s.heap.push PySem.W.emptyDict).Ns s.heap.objs.size (λ _=>none):=⟨PySem.W.emptyDict,#[],_,e1,rfl,(λ e he=>absurd he (by simp)),λ _=>rfl⟩;have I1:=I.laid (a:=s.heap.objs.size) (o:=.own (s.heap.objs.size+1)) (h':=s.heap.push PySem.W.emptyDict) (t':=s.toks) (λ b u q=>Heap.get?_push_of_some _ q) (Nat.le_refl _) ⟨_,e1⟩;refine I1.laid (a:=s.heap.objs.size+1) (o:=.ins C s.heap.objs.size []) (t':=s.toks) (λ b u q=>Heap.get?_push_of_some _ q) (Nat.le_of_eq (Heap.size_push _ _)) ?_;have ne:s.heap.objs.size≠s.heap.objs.size+1:=Nat.ne_of_lt (Nat.lt_succ_self _);refine⟨by rw[bZ ne,bI],Nat.zero_le _,ne,e2,λ _=>none,(Heap.Ns1.of_empty e3).at λ o q=>Heap.get?_push_of_some _ q,λ _=>True.intro,λ y hy=>absurd rfl hy⟩
end
def tFld(K:PySem.W.Frag)(ta:TE)(f:Str):TE:=λ σ H Q=>ta σ H λ x H1=>∃a C dx fs v,x= .ref a/\H1 a=some (.ins C dx fs)/\Cls K C/\aNk K C f/\fs.lookup f=some v/\Q v H1
section
variable{X:Cx}{o e value:Expr}{f:Str}{pos pos' tpos:Pos}{ta tv:TE}
theorem methcall_of(he:PE X e te)(I:Inv X pins σ H s)
  (h:te σ H λ x H1=>∃a C dx fs g,x= .ref a/\H1 a=some (.ins C dx fs)/\Cls X.K C/\Meth X.K C m g/\fs.lookup m=none/\
   ∀s1,Inv X pins σ H1 s1->wpAny (model X.prog X.w) X.A (callWith pos (.ref g) [.ref a] (backTo pos (starEach args X.env)) (backToKw pos (keywordEach [] X.env))) Q X.xe s1)
  (ht:eval (.Call (.Attribute e m apos) args [] pos) X.env=(do
   let ov <-eval e X.env
   standAt apos.atName
   let(f,first) <-holding [ov] (getMethod ov m pl)
   callWith pos f first (backTo pos (starEach args X.env)) (backToKw pos (keywordEach [] X.env)))):
  wpAny (model X.prog X.w) X.A (eval (.Call (.Attribute e m apos) args [] pos) X.env) Q X.xe s:=by
 refine PySem.W.methodCall_KW (pl:=pl) (thn (he pins s σ H _ I h) λ u s1 ⟨x,H1,I1,rx,a,C,dx,fs,g,ex,ea,c,k,l,q⟩=>?_) ht;subst ex;obtain rfl:u=Value.ref a:=rx;exact aEp I1 ea c k l (q s1 I1)
end
section
variable{X:Cx}{pins:List (Addr×Obj)}{σ:St}{H:Hp}{s:Shared}{A:Around}{E:Value->Shared->Prop}{Q:Value->Shared->Prop}{c:Value}{b:Bool}
inductive wZ(K:PySem.W.Frag)(H:Hp):V->Value->Prop where
 |non:wZ K H .non (.type "NoneType")
 |bl (x:Bool):wZ K H (.bl x) (.type "bool")
 |int (i:Int):wZ K H (.int i) (.type "int")
 |str (x:Str):wZ K H (.str x) (.type "str")
 |flt (x:UInt64):wZ K H (.flt x) (.type "float")
 |lst {a:Addr} {xs:List V} (e:H a=some (.lst xs)):wZ K H (.ref a) (.type "list")
 |frz {a:Addr} {o:Obj} {xs:List V} (e:H a=some (.frz o (.lst xs))):wZ K H (.ref a) (.type "list")
 |tup {a:Addr} {xs:List V} (e:H a=some (.tup xs)):wZ K H (.ref a) (.type "tuple")
 |dK {a:Addr} {kvs:List (Key×V)} (e:H a=some (.dK kvs)):wZ K H (.ref a) (.type "dict")
 |dT {a:Addr} {kvs:List (List Key×V)} (e:H a=some (.dT kvs)):wZ K H (.ref a) (.type "dict")
 |ins {a C dx:Addr} {fs:List (Str×V)} (e:H a=some (.ins C dx fs)) (cl:Cls K C) (ha:PySem.W.findIn K (.ref C) "__class__"=some (some (.builtin "object.__class__")))
   (hn:PySem.W.specialIn K (.builtin "object.__class__") "__get__"=some (some (.builtin "getset_descriptor.__get__"))) (htk:PySem.W.takesIn K (.builtin "object.__class__")=some true)
   (hm:PySem.W.mroIn K C (.type "object")=some true):wZ K H (.ref a) (.ref C)
theorem aG1(I:Inv X pins σ H s)(rx:RelV x u)(ty:wZ X.K H x t)(e:PySem.W.kitOne X.K t c=some b)(h:∀tk,Q (.bool b) {s with toks:=tk}):
  wpAny (model X.prog X.w) A (call (.builtin "isinstance") [u,c]) Q E s:=by
 cases ty with
 |non=>cases (show u=Value.none from rx);exact PySem.W.kia_one PySem.W.kitx_none I.kIn True.intro e (λ z=>nomatch z) h
 |bl y=>cases (show u=Value.bool y from rx);exact PySem.W.kia_one PySem.W.kitx_bool I.kIn True.intro e (λ z=>nomatch z) h
 |int i=>obtain⟨t,q⟩:=(show∃t,u=Value.int i t from rx);cases q;exact PySem.W.kia_one PySem.W.kitx_int I.kIn True.intro e (λ z=>nomatch z) h
 |str y=>obtain⟨t,q⟩:=(show∃t,u=Value.str y t from rx);cases q;exact PySem.W.kia_one PySem.W.kitx_str I.kIn True.intro e (λ z=>nomatch z) h
 |flt y=>obtain⟨t,q⟩:=(show∃t,u=Value.float y t from rx);cases q;exact PySem.W.kia_one PySem.W.kitx_float I.kIn True.intro e (λ z=>nomatch z) h
 |@lst a xs ea=>
  cases (show u=Value.ref a from rx);obtain⟨_,_,n,_,h1⟩:=(show gm X.prog X.w H s.heap a (.lst xs)from I.hok a _ ea);exact PySem.W.kia_one PySem.W.kitx_list I.kIn ⟨_,h1,rfl⟩ e (λ z=>nomatch z) h
 |@frz a ob xs ea=>
  cases (show u=Value.ref a from rx);obtain⟨_,_,_,n,_,h1⟩:=(show gm X.prog X.w H s.heap a (.frz ob (.lst xs))from I.hok a _ ea);exact PySem.W.kia_one PySem.W.kitx_list I.kIn ⟨_,h1,rfl⟩ e (λ z=>nomatch z) h
 |@tup a xs ea=>
  cases (show u=Value.ref a from rx);obtain⟨_,_,_,p⟩:=(show gm X.prog X.w H s.heap a (.tup xs)from I.hok a _ ea);obtain⟨o,h1,h2,_⟩:=p;exact PySem.W.kia_one PySem.W.kitx_tuple I.kIn ⟨o,h1,h2⟩ e (λ z=>nomatch z) h
 |@dK a kvs ea=>
  cases (show u=Value.ref a from rx);obtain⟨_,_,vs,_,p⟩:=(show gm X.prog X.w H s.heap a (.dK kvs)from I.hok a _ ea);obtain⟨o,es,ep,h1,h2,_⟩:=p;exact PySem.W.kia_one PySem.W.kitx_dict I.kIn ⟨o,h1,h2.1⟩ e (λ z=>nomatch z) h
 |@dT a kvs ea=>
  cases (show u=Value.ref a from rx);obtain⟨_,_,xs,_,o,es,ep,h1,h2,_⟩:=(show gm X.prog X.w H s.heap a (.dT kvs)from I.hok a _ ea);exact PySem.W.kia_one PySem.W.kitx_dict I.kIn ⟨o,h1,h2.1⟩ e (λ z=>nomatch z) h
 |@ins a C dx fs ea cl ha hn htk hm=>
  cases (show u=Value.ref a from rx);obtain⟨mA,O,_⟩:=yX I.hok ea;obtain⟨od,J,_⟩:=O.look;exact PySem.W.kia_one (PySem.W.kitx_own (cl.get _) cl.hd ha hn htk hm) I.kIn J e (λ z=>nomatch z) h
end
structure nH(k:Nat)(A:Around):Prop where
 hd:A.handled=none
 dp:A.depth+3*k+5<recursionLimit
 un:A.units+16*k+200<cLine
theorem nH.mono(r:nH k A)(h:j<=k):nH j A:=⟨r.hd,by have:=r.dp;omega,by have:=r.un;omega⟩
theorem nH.deeper(r:nH (k+1) A)(env:Env):nH k (A.deeper env):=
 ⟨r.hd,by have:=r.dp;show A.depth+1+3*k+5<_;omega,by have:=r.un;show A.units+3+16*k+200<_;omega⟩
theorem nH.depth(r:nH k A):A.depth<recursionLimit:=by have:=r.dp;omega
theorem nH.units(r:nH k A):A.units+64<cLine:=by have:=r.un;omega
theorem nH.units0(r:nH k A):A.units<cLine:=by have:=r.un;omega
def tH:TA:=λ _ H Q=>Q [] H
def lr(ta:TE)(tr:TA):TA:=λ σ H Q=>ta σ H λ x H1=>tr σ H1 λ xs H2=>Q (x::xs) H2
section
variable{X:Cx}{e:Expr}{es:List Expr}{te:TE}{t:TA}{pos:Pos}
theorem jK:PA X [] tH:=λ _ _ _ _ H Q I h=>Calls.spliced_nil ⟨[],H,I,.nil,h⟩
theorem gF(ha:PE X e te)(hr:PA X es t)(hs:starEach (e::es) X.env=(false,eval e X.env)::starEach es X.env:=by rfl):PA X (e::es) (lr te t):=by
 intro pos pins s σ H Q I h;rw[hs];show wpAny _ _ (spliced ((false,eval e X.env)::backTo pos (starEach es X.env))) _ _ s;refine Calls.spliced_cons (thn (ha pins s σ H _ I h) λ u s1 ⟨x,H1,I1,r1,q1⟩=>?_);exact thn (hr pos pins s1 σ H1 _ I1 q1) λ us s2 ⟨xs,H2,I2,r2,q2⟩=>⟨x::xs,H2,I2,.cons r1 r2,q2⟩
def aOr(t:TA):TE:=λ σ H Q=>t σ H λ xs H1=>xs.length<=sizeLine/\∀p,H1 p=none->Q (.ref p) (upd H1 p (.tup xs))
def aOw(t:TA):TE:=λ σ H Q=>t σ H λ xs H1=>xs.length<=sizeLine/\∀p,H1 p=none->Q (.ref p) (upd H1 p (.lst xs))
theorem aM1{x1}(h:PA X es t):PE X (.Tuple es x1 pos) (aOr t):=by
 intro pins s σ H Q I hq;refine wpAny_Tuple_spliced (thn (h pos pins s σ H _ I hq) λ us s1 ⟨xs,H1,I1,r,z,q⟩=>⟨by rw[<-r.length];exact z,?_⟩);have hf:H1 s1.heap.objs.size=none:=I1.hok.fresh (Nat.le_refl _);refine⟨.ref s1.heap.objs.size,upd H1 s1.heap.objs.size (.tup xs),I1.laid (t':=s1.toks) (λ b u e=>Heap.get?_push_of_some _ e) (Nat.le_refl _) ?_,rfl,q _ hf⟩;exact⟨z,us,r,⟨_,Heap.get?_push_size _ rfl,rfl,_,rfl⟩⟩
theorem aM7(h:PA X es t):PE X (.List es pos) (aOw t):=by
 intro pins s σ H Q I hq;refine wpAny_List_spliced (thn (h pos pins s σ H _ I hq) λ us s1 ⟨xs,H1,I1,r,z,q⟩=>⟨by rw[<-r.length];exact z,?_⟩);have hf:H1 s1.heap.objs.size=none:=I1.hok.fresh (Nat.le_refl _);refine⟨.ref s1.heap.objs.size,upd H1 s1.heap.objs.size (.lst xs),I1.laid (t':=s1.toks) (λ b u e=>Heap.get?_push_of_some _ e) (Nat.le_refl _) ?_,rfl,q _ hf⟩;exact⟨z,us,0,r,Heap.get?_push_size _ rfl⟩
end
abbrev Sp:=List V->Hp->VK->XK->Prop
abbrev CXT:=List Env->Hp->Shared->XK->Value->Shared->Prop
structure aLO(P:Program)(w:World)(K:PySem.W.Frag)(mg:Str->Option Value)(base:Heap)(A:Around)(outer:List Env)(s:Shared)(H:Hp):Prop where
 frames:A.frames=some outer
 mod:Mod K mg base
 bs:∀b o,base.get? b=some o->s.heap.get? b=some o/\H b=none
 bsz:base.objs.size<=s.heap.objs.size
 funs:s.heap.FunFrames base outer
 frf:∀b∈frs outer,H b=none
 hok:HOk P w H s.heap
 bare:AllBare s.gens
def CE(outer:List Env)(P:Program)(w:World)(H:Hp)(s:Shared)(Q:VK)(u:Value)(s':Shared):Prop:=
 ∃v H',s'.os=s.os/\AllBare s'.gens/\Un (frs outer) [] H H' s.heap s'.heap/\HOk P w H' s'.heap/\RelV v u/\Q v H'
def CR(CX:CXT)(outer:List Env)(P:Program)(w:World)(H:Hp)(s:Shared)(Q:VK)(E:XK)(r:Result)(s':Shared):Prop:=
 match r with
 | .ok (.ret u)=>CE outer P w H s Q u s'
 | .ok _=>False
 | .error e=>CX outer H s E e s'
structure dJ(P:Program)(w:World)(K:PySem.W.Frag)(mg:Str->Option Value)(base:Heap)(CX:CXT)(k:Nat)(f:Addr)(fd:FuncData)(ps:List Str)(sp:Sp):Prop where
 len:∀vs H Q E,sp vs H Q E->vs.length=ps.length
 run:∀(A:Around) (outer:List Env) (s:Shared) (H:Hp) (args:Args) (us:List Value) (vs:List V) (Q:VK) (E:XK),nH k A->aLO P w K mg base A outer s H->BindsTo s fd args (ps.zip us)->Vals vs us->sp vs H Q E->
  codeAny (model P w) A (.call (.ref f) args) (CR CX outer P w H s Q E) s
theorem dJ.imp{K:PySem.W.Frag}(F:dJ P w K mg base CX k f fd ps sp)
  (h:∀vs H Q E,sp' vs H Q E->sp vs H Q E):dJ P w K mg base CX k f fd ps sp':=
 ⟨λ vs H Q E q=>F.len vs H Q E (h _ _ _ _ q),λ A outer s H args us vs Q E hr he hb hv hs=>F.run A outer s H args us vs Q E hr he hb hv (h _ _ _ _ hs)⟩
section
variable{X:Cx}{pins:List (Addr×Obj)}{σ:St}{H:Hp}{s s':Shared}
theorem Inv.env0(I:Inv X pins σ H s):aLO X.prog X.w X.K X.mg X.base X.A X.stack s H:=
 ⟨I.ok.frames,I.ok.mod,I.bs,Nat.le_trans I.ok.bsz I.sz,I.stack,I.stkFree,I.hok,I.bare⟩
theorem Inv.after(I:Inv X pins σ H s)(h:CE X.stack X.prog X.w H s Q u s'):EP X pins σ Q u s':=by
 obtain⟨v,H',os,bare,un,hok,r,q⟩:=h;obtain⟨hh,g,d,t,os'⟩:=s';obtain rfl:os'=s.os:=os;exact⟨v,H',I.call (h':=hh) (g':=g) (d':=d) (t':=t) (ch:=[]) un hok bare (λ b z=>absurd z (by simp)),r,q⟩
end
def aHF(sp:Sp)(dvs:List V)(E:XK)(t:TA):TE:=λ σ H Q=>t σ H λ vs H1=>sp (vs++dvs) H1 Q E
def tMeth(C:Addr)(m:Str)(sp:Sp)(dvs:List V)(E:XK)(ta:TE)(t:TA):TE:=λ σ H Q=>ta σ H λ x H1=>∃a dx fs,x= .ref a/\H1 a=some (.ins C dx fs)/\fs.lookup m=none/\
 t σ H1 λ vs H2=>sp (x::(vs++dvs)) H2 Q E
def tMake(C:Addr)(sp:Sp)(dvs:List V)(E:XK)(t:TA):TE:=λ σ H Q=>t σ H λ vs H1=>∀x dx,H1 x=none->H1 dx=none->dx≠x->
 sp (.ref x::(vs++dvs)) (upd (upd H1 dx (.own x)) x (.ins C dx [])) (λ v H2=>v= .non/\Q (.ref x) H2) E
def Binds(K:PySem.W.Frag)(fd:FuncData)(ps:List Str)(ds:List Value):Prop:=
 ∀(s:Shared) (us:List Value),K.In s.heap->(us++ds).length=ps.length->BindsTo s fd ⟨us,[]⟩ (ps.zip (us++ds))
theorem Binds.all{K:PySem.W.Frag}(h:∀us:List Value,us.length=ps.length->bindArgs fd ⟨us,[]⟩=pure (ps.zip us)):Binds K fd ps []:=λ s us _ hl=>by
 rw[List.append_nil]at hl ⊢;exact .of_eq (h us hl)
def aC1(CX:CXT)(X:Cx)(E:XK):Prop:=∀(pins:List (Addr×Obj)) (σ:St) (H:Hp) (s:Shared) (e:Value) (s':Shared),Inv X pins σ H s->CX X.stack H s E e s'->X.xe e s'
section
variable{X:Cx}{CX:CXT}{k:Nat}{f C:Addr}{fd:FuncData}{ps:List Str}{sp:Sp}{dvs:List V}{ds:List Value}{E:XK}{x m:Str}{p pos apos:Pos}{e o:Expr}{es:List Expr}{ta:TE}{t:TA}
theorem aH1(F:dJ X.prog X.w X.K X.mg X.base CX k f fd ps sp)(hr:nH k X.A)(hb:Binds X.K fd ps ds)(hd:Vals dvs ds)(hx:aC1 CX X E)
  (I:Inv X pins σ H s)(r:Vals vs us)(h:sp (vs++dvs) H Q E):wpAny (model X.prog X.w) X.A (call (.ref f) us) (EP X pins σ Q) X.xe s:=by
 have r2:Vals (vs++dvs) (us++ds):=r.append hd;have hl:(us++ds).length=ps.length:=by rw[<-r2.length];exact F.len _ _ _ _ h
 refine wpAny_call (codeAny_mono (F.run X.A X.stack s H ⟨us,[]⟩ (us++ds) (vs++dvs) Q E hr I.env0 (hb s us I.kIn hl) r2 h) λ r s' hq=>?_);cases r with
 |error e=>exact hx pins σ H s e s' I hq
 |ok fl=>
  cases fl with
  |ret u=>exact I.after hq
  |next=>exact False.elim hq
  |brk=>exact False.elim hq
  |cont=>exact False.elim hq
theorem aKC(F:dJ X.prog X.w X.K X.mg X.base CX k f fd ps sp)(hr:nH k X.A)(hg:Gl X x)(hm:X.mg x=some (.ref f))(hk:PySem.W.keepIn X.K (.ref f)=true)(hb:Binds X.K fd ps ds)(hd:Vals dvs ds)(hx:aC1 CX X E)
  (ha:PA X (e::es) t)(hdb:(x==("__debug__":Str))=false:=by decide)(he:starEach (e::es) X.env=(false,eval e X.env)::starEach es X.env:=by rfl)(hpl:(backTo pos (starEach es X.env)).any (·.1)=false:=by rfl):
  PE X (.Call (.Name x p) (e::es) [] pos) (aHF sp dvs E t):=by
 intro pins s σ H Q I h;refine wpAny_Call_Name_kw (aCC I hg hm ?_ hdb);refine PySem.W.callWith_K (h₀:=X.base) I.ok.mod.kin hk (thn (ha pos pins s σ H _ I h) λ us s1 ⟨vs,H1,I1,r,q⟩=>⟨I1.kIn,?_⟩) he hpl;exact aH1 F hr hb hd hx I1 r q
end
section
variable{X:Cx}{CX:CXT}{k:Nat}{f C:Addr}{fd:FuncData}{ps ks:List Str}{sp:Sp}{E:XK}{x m:Str}{p pos apos kpos:Pos}{e o:Expr}{es:List Expr}{kws:List Keyword}{te ta:TE}{t tk:TA}{nm:Option Str}
variable{g:List Value->List Value->List Value}{gV:List V->List V->List V}
end
structure bD(N P:List Str)(sc:Scope):Prop where
 kind:sc.kind= .function
 co:sc.isCoroutine=false
 gen:sc.isGenerator=false
 nd:N.Nodup
 pre:N.take P.length=P
 par:∀x∈P,sc.names.lookup x=some .local\/sc.names.lookup x=some .cell
 nofree:∀y∈sc.names,y.2≠.free
theorem aBY{kindOf:Str->Option NameKind}:∀{binds:List (Str×Value)} {m:Str->Option Value},(∀v,(x,v)∉binds)->bindL kindOf binds m x=m x
 |[],_,_=>rfl
 |(n,v)::r,m,h=>by
  unfold bindL;rw[aBY λ w hw=>h w (List.mem_cons_of_mem _ hw)];split
  ·have:x≠n:=by rintro rfl;exact h v List.mem_cons_self
   simp[this]
  ·rfl
theorem aB0{kindOf:Str->Option NameKind}:∀{binds:List (Str×Value)} {m:Str->Option Value},(∀v,(x,v)∉binds)->bindC kindOf binds m x=m x
 |[],_,_=>rfl
 |(n,v)::r,m,h=>by
  unfold bindC;rw[aB0 λ w hw=>h w (List.mem_cons_of_mem _ hw)];split
  ·rfl
  ·have:x≠n:=by rintro rfl;exact h v List.mem_cons_self
   simp[this]
theorem aBZ{kindOf:Str->Option NameKind}:∀{P:List Str} {vs:List Value} {i:Nat} {m:Str->Option Value},P.Nodup->P[i]? =some x->vs[i]? =some v->kindOf x=some .local->
  bindL kindOf (P.zip vs) m x=some v
 |[],_,_,_,_,h,_,_=>by simp at h
 |_::_,[],_,_,_,_,h,_=>by simp at h
 |p::P,w::vs,0,m,nd,h1,h2,hk=>by
  simp at h1 h2;subst h1;subst h2;show bindL kindOf ((p,w)::P.zip vs) m p=_;unfold bindL;rw[aBY λ v hv=>(List.nodup_cons.mp nd).1 (List.of_mem_zip hv).1,if_pos hk];simp
 |p::P,w::vs,i+1,m,nd,h1,h2,hk=>by
  show bindL kindOf ((p,w)::P.zip vs) m x=_;unfold bindL;exact aBZ (i:=i) (List.nodup_cons.mp nd).2 (by simpa using h1) (by simpa using h2) hk
theorem aB1{kindOf:Str->Option NameKind}:∀{P:List Str} {vs:List Value} {i:Nat} {m:Str->Option Value},P.Nodup->P[i]? =some x->vs[i]? =some v->kindOf x≠some .local->
  bindC kindOf (P.zip vs) m x=some v
 |[],_,_,_,_,h,_,_=>by simp at h
 |_::_,[],_,_,_,_,h,_=>by simp at h
 |p::P,w::vs,0,m,nd,h1,h2,hk=>by
  simp at h1 h2;subst h1;subst h2;show bindC kindOf ((p,w)::P.zip vs) m p=_;unfold bindC;rw[aB0 λ v hv=>(List.nodup_cons.mp nd).1 (List.of_mem_zip hv).1,if_neg hk];simp
 |p::P,w::vs,i+1,m,nd,h1,h2,hk=>by
  show bindC kindOf ((p,w)::P.zip vs) m x=_;unfold bindC;exact aB1 (i:=i) (List.nodup_cons.mp nd).2 (by simpa using h1) (by simpa using h2) hk
def start(N:List Str)(vs:List V):St:=vs.map some++List.replicate (N.length-vs.length) none
def aDa(CX:CXT)(P:Program)(w:World)(K:PySem.W.Frag)(mg:Str->Option Value)(base:Heap)(N:List Str)(qual:Str)(scope:Scope)(f:Addr)(cd:Value)(A:Around)(outer:List Env)(s:Shared)(H:Hp)(E:XK):Cx where
 prog:=P
 w:=w
 K:=K
 mg:=mg
 base:=base
 A:=A.deeper (envOfC qual scope s.heap.objs.size f cd)
 N:=N
 s₀:=s
 H₀:=H
 env:=envOfC qual scope s.heap.objs.size f cd
 outer:=outer
 stack:=envOfC qual scope s.heap.objs.size f cd::outer
 ex:=[]
 calm:=true
 fn:=λ _=>true
 pn:=[]
 xe:=λ e s'=>wpAny (model P w) (A.deeper (envOfC qual scope s.heap.objs.size f cd)) (leaving (envOfC qual scope s.heap.objs.size f cd) e) (λ _ s''=>CX outer H s E e s'') (λ e' s''=>CX outer H s E e' s'') s'
theorem aDf{sc:Scope}(h:sc.names.lookup x=some .cell):∃c,(cellsFrom n sc.names []).lookup x=some c:=by
 have q:=PySem.W.cellsFrom_some sc.names n [] (.inl h);exact Option.isSome_iff_exists.mp q
theorem aG3{CX:CXT}{K:PySem.W.Frag}
  (S:bD N ps scope)(hd:A.handled=none)(e0:aLO P w K mg base A outer s H)(hl:vs.length=ps.length)(r:Vals vs us)
  (x:InCallC s s.heap.objs.size (bindL (envOfC qual scope s.heap.objs.size f cd).kindOf (ps.zip us) λ _=>none) (cellsFrom (s.heap.objs.size+1) scope.names []) (bindC (envOfC qual scope s.heap.objs.size f cd).kindOf (ps.zip us) λ _=>none) s1):
  Inv (aDa CX P w K mg base N qual scope f cd A outer s H E) [] (start N vs) H s1:=by
 have hpl:ps.length<=N.length:=by have:=congrArg List.length S.pre;rw[List.length_take]at this;omega
 obtain⟨h1,tk,rfl,hk⟩:=x.done;have noA:∀b:Addr,b∉(aDa CX P w K mg base N qual scope f cd A outer s H E).ex:=λ b z=>absurd (show b∈([]:List Addr)from z) (by simp)
 refine⟨⟨e0.mod,S.kind,rfl,rfl,Nat.le_refl _,λ y z c h1 h2=>?_,λ y hy=>?_,λ y c _ h=>?_,λ _=>hd,Around.frames_deeper e0.frames,.inr ⟨rfl,rfl⟩,λ b z=>absurd z (noA b),e0.bs,e0.bsz,λ b _ _=>noA b,λ b z=>absurd z (noA b),e0.funs,e0.frf⟩,
  rfl,e0.bare,Un.kept hk,⟨_,x.toInCall.ns,λ i y v h1 h2 h3=>?_⟩,λ y c h=>⟨_,x.cell y c h⟩,e0.hok.fresh (Nat.le_refl _),λ y c h=>?_,λ p hp=>absurd (show p∈([]:List (Addr×Obj))from hp) (by simp),e0.hok.kept hk,?_⟩
 ·exact name_of_addr x.apart (PySem.mem_of_lookup h1) (PySem.mem_of_lookup h2)
 ·have hy:scope.names.lookup y=some .cell\/scope.names.lookup y=some .free:=hy
  rcases hy with hy|hy
  ·exact aDf hy
  ·exact absurd rfl (S.nofree _ (PySem.mem_of_lookup hy))
 ·exact Nat.le_of_lt (x.above y c (PySem.mem_of_lookup h))
 ·have hi:i<vs.length:=by
   unfold start at h2;by_cases hi:i<vs.length
   ·exact hi
   ·rw[List.getElem?_append_right (by simpa using hi)]at h2
    rw[List.getElem?_replicate]at h2;split at h2<;>cases h2
  have ha:vs[i]? =some v:=by
   unfold start at h2;rw[List.getElem?_append_left (by simpa using hi),List.getElem?_map]at h2;cases e:vs[i]? with
   |none=>rw[e]at h2;cases h2
   |some a=>rw[e]at h2;cases h2;rfl
  obtain⟨u,hu,rv⟩:=r.get ha;have hp:ps[i]? =some y:=by
   rw[<-S.pre,List.getElem?_take_of_lt (by omega)];exact h1
  have ndP:ps.Nodup:=by rw[<-S.pre];exact S.nd.sublist (List.take_sublist _ _)
  refine⟨u,rv,?_⟩;rcases S.par y (List.mem_of_getElem? hp)with k|k
  ·exact .inl ⟨k,aBZ ndP hp hu k⟩
  ·obtain⟨c,e⟩:=aDf (n:=s.heap.objs.size+1) k
   refine .inr ⟨.inl k,c,e,?_⟩;have q:=x.cell y c e;rw[aB1 ndP hp hu (by show scope.names.lookup y≠_;rw[k];decide)]at q;exact q
 ·exact e0.hok.fresh (Nat.le_of_lt (x.above y c (PySem.mem_of_lookup h)))
 ·unfold start
  show _=N.length;rw[List.length_append,List.length_map,List.length_replicate];omega
theorem aOd{K:PySem.W.Frag}{dV kV doc pm cdv ct oc:Value}
  (lk:K.lookup f=some ⟨oc,od,.func (PySem.W.fnOf name qual params body scope dV kV doc pm an cdv ct),osl⟩)(hcd:PySem.W.codeIn K cdv qual=true)(S:bD N ps scope)
  (len:∀vs H Q E,sp vs H Q E->vs.length=ps.length)
  (hbody:∀(A:Around) (outer:List Env) (s:Shared) (H:Hp) (vs:List V) (Q:VK) (E:XK),nH k (A.deeper (envOfC qual scope s.heap.objs.size f cdv))->sp vs H Q E->
   ∃t,PSs (aDa CX P w K mg base N qual scope f cdv A outer s H E) body t/\t {nx:=λ _ H'=>Q .non H',rt:=Q} (start N vs) H):
  dJ P w K mg base CX (k+1) f (PySem.W.fnOf name qual params body scope dV kV doc pm an cdv ct) ps sp:=by
 refine⟨len,λ A outer s H args us vs Q E hr e0 hb r hsp=>?_⟩;have hl:=len _ _ _ _ hsp;have KX:K.In s.heap:=e0.mod.kin.keeps λ b o e=>(e0.bs b o e).1
 have lim:s.heap.NoLimit:=e0.mod.nolimit.keeps λ b o e=>(e0.bs b o e).1
 have hkind:∀y∈ps.zip us,scope.names.lookup y.1=some .local\/(scope.names.lookup y.1=some .cell/\((cellsFrom (s.heap.objs.size+1) scope.names []).lookup y.1).isSome=true):=λ⟨n,v⟩ hy=>by
  rcases S.par n (List.of_mem_zip hy).1 with q|q
  ·exact .inl q
  ·exact .inr ⟨q,PySem.W.cellsFrom_some _ _ _ (.inl q)⟩
 refine codeAny_call_function hr.depth (KX _ _ lk) rfl S.co S.gen rfl (PySem.W.codeRec_of KX hcd) (hb _ _ _ _ ?_);refine wpAny_newFunctionEnv_cells S.kind hkind λ env he s1 x=>?_
 subst he;refine⟨lim.keeps x.toInCall.keep,codeAny_func ?_⟩;obtain⟨t,ht,hq⟩:=hbody A outer s H vs Q E (hr.deeper _) hsp;have I:Inv (aDa CX P w K mg base N qual scope f cdv A outer s H E) [] (start N vs) H s1:=aG3 S hr.hd e0 hl r x;refine wpAny_mono (ht [] s1 (start N vs) H _ I hq) (λ fl s' hs=>?_) λ e s' hs=>hs
 have fin:∀{σ':St} {H':Hp} {v:V} {u:Value},Inv (aDa CX P w K mg base N qual scope f cdv A outer s H E) [] σ' H' s'->RelV v u->Q v H'->CE outer P w H s Q u s':=
  λ{σ' H' v u} J rv q=>⟨v,H',J.os,J.bare,J.base,J.hok,rv,q⟩
 cases fl with
 |ret u=>
  obtain⟨v,σ',H',J,rv,q⟩:=hs;exact fin J rv q
 |next=>
  obtain⟨σ',H',J,q⟩:=hs;exact fin (v:=V.non) (u:=Value.none) J rfl q
 |brk=>
  obtain⟨_,_,_,q⟩:=hs;exact False.elim q
 |cont=>
  obtain⟨_,_,_,q⟩:=hs;exact False.elim q
section
variable{X:Cx}{x:Str}{p pos:Pos}{e:Expr}{es:List Expr}{t:TA}{id T:String}{r:List V->Hp->VK->Prop}
def tCB(r:List V->Hp->VK->Prop)(t:TA):TE:=λ σ H Q=>t σ H λ vs H1=>r vs H1 Q
theorem uf(hc:dR X (.builtin id) r)(hg:Gl X x)(hm:X.mg x=none)(hv:bootBuiltins x=some (.builtin id))(ha:PA X (e::es) t)(hn:x≠"__name__":=by decide)(hdb:(x==("__debug__":Str))=false:=by decide)
  (he:starEach (e::es) X.env=(false,eval e X.env)::starEach es X.env:=by rfl)(hpl:(backTo pos (starEach es X.env)).any (·.1)=false:=by rfl):PE X (.Call (.Name x p) (e::es) [] pos) (tCB r t):=by
 intro pins s σ H Q I h;refine wpAny_Call_Name_kw (wM I hg hm hv ?_ hn hdb);exact PyProof.Rows.callWith_builtin1 (thn (ha pos pins s σ H _ I h) λ us s1 ⟨vs,H1,I1,r1,q1⟩=>hc pins s1 σ H1 vs us Q I1 r1 q1) he hpl
theorem jf(hc:dR X (.type T) r)(hg:Gl X x)(hm:X.mg x=none)(hv:bootBuiltins x=some (.type T))(ha:PA X (e::es) t)(hn:x≠"__name__":=by decide)(hdb:(x==("__debug__":Str))=false:=by decide)
  (he:starEach (e::es) X.env=(false,eval e X.env)::starEach es X.env:=by rfl)(hpl:(backTo pos (starEach es X.env)).any (·.1)=false:=by rfl):PE X (.Call (.Name x p) (e::es) [] pos) (tCB r t):=by
 intro pins s σ H Q I h;refine wpAny_Call_Name_kw (wM I hg hm hv ?_ hn hdb);exact PyProof.Rows.callWith_type1 (thn (ha pos pins s σ H _ I h) λ us s1 ⟨vs,H1,I1,r1,q1⟩=>hc pins s1 σ H1 vs us Q I1 r1 q1) he hpl
end
end L2
namespace HT
open PySem PyProof.Rows
def lexLt:List Int->List Int->Bool
 |[],[]=>false
 |[],_::_=>true
 |_::_,[]=>false
 |x::xs,y::ys=>if x=y then lexLt xs ys else decide (x<y)
theorem jL(x y:Int)(xs ys:List Int):lexLt (x::xs) (y::ys)=if x=y then lexLt xs ys else decide (x<y):=rfl
theorem aAd:lexLt [] []=false:=rfl
theorem zZ(y:Int)(ys:List Int):lexLt [] (y::ys)=true:=rfl
theorem z7(x:Int)(xs:List Int):lexLt (x::xs) []=false:=rfl
theorem aD4(A:Around)(s:Shared)(a:Int)(t:Tok)(c:Int)(u:Tok):∃e,SeqAt.EqAt A s (.int a t) (.int c u) e/\(e=true↔a=c):=
 ⟨(a==c),SeqAt.EqAt.int_int a t c u,by simp⟩
theorem aH9(A:Around)(s:Shared)(a:Int)(t:Tok)(c:Int)(u:Tok)(prog:Program)(w:World)(E:Value->Shared->Prop)(Q:Value->Shared->Prop)(h:Q (.bool (decide (a<c))) s):
  wpAny (model prog w) A (richCompare .Lt (.int a t) (.int c u)) Q E s:=
 (PyProof.Rows.lt_int h:wpAny (model prog w) A (compareOp .Lt (.int a t) (.int c u)) Q E s)
section
open PySem.SeqAt
open PySem.AutoSeq1(wpAny_loadPart')
open PySem.MeetsSeq PySem.MeetsSeq2 PySem.MeetsSeq3
theorem aA2(l b:Addr)(items items2:Array Value)(n n2:Nat)(dd dd2:Option Addr)(sl sl2:Array (Option Value))(ns ms:List Int)(hi:IntsAre items.toList ns)(hj:IntsAre items2.toList ms):
  Meets (Builtin.«tuple.__lt__» ⟨[.ref l,.ref b],[]⟩)
   (λ _ R s=>s.heap.get? l=some {cls:=.type "tuple",dict:=dd,data:=.seq items n,slots:=sl}/\s.heap.get? b=some {cls:=.type "tuple",dict:=dd2,data:=.seq items2 n2,slots:=sl2}/\
    R (.ok (.ret (.bool (lexLt ns ms)))) s):=
 .of_wp λ prog w A R s h=>by
  obtain⟨hp,g,d,tk,os⟩:=s;obtain⟨hl,hb,h⟩:=h;have f2:=AutoSeq1.sub_tuple_tuple;have z1:items.size=ns.length:=by rw[<-hi.length];simp
  have z2:items2.size=ms.length:=by rw[<-hj.length];simp
  wp_walk using wpAny_loadPart' hl,wpAny_loadPart' hb,wpAny_forIn_list _ (λ rest b s'=>b.1=none/\s'=⟨hp,g,d,tk,os⟩/\∃(vs ws:List Value) (ns' ms':List Int),rest=vs.zip ws/\
   IntsAre vs ns'/\IntsAre ws ms'/\ns'.length+items2.size=ms'.length+items.size/\R (.ok (.ret (.bool (lexLt ns' ms')))) ⟨hp,g,d,tk,os⟩) _
  case turn=>
   rintro⟨y,x⟩ rest b s' ⟨hb',rfl,vs,ws,ns',ms',hz,hvi,hwi,hlen,hR⟩;cases hvi with
   |nil=>rw[List.zip_nil_left]at hz;cases hz
   |cons a t hvi'=>
    cases hwi with
    |nil=>rw[List.zip_nil_right]at hz;cases hz
    |cons c u hwi'=>
     rw[List.zip_cons_cons]at hz;injection hz with hyx hrest
     injection hyx with hy hx
     subst hy hx;rw[jL]at hR;simp only[List.length_cons]at hlen;obtain⟨e,he,hiff⟩:=aD4 A.in1 ⟨hp,g,d,tk,os⟩ a t c u;refine wpAny_bind (he prog w _ _ ?_);cases e with
     |true=>
      rw[if_pos (hiff.mp rfl)]at hR;wp_walk;exact⟨rfl,rfl,_,_,_,_,hrest,hvi',hwi',by omega,hR⟩
     |false=>
      rw[if_neg (λ q=>absurd (hiff.mpr q) Bool.false_ne_true)]at hR;have hri:=aH9 A.in1 ⟨hp,g,d,tk,os⟩ a t c u prog w;wp_walk using hri;exact⟨_,rfl,by simpa using hR⟩
  case fin=>
   rintro⟨b1,b2⟩ s' ⟨hb',rfl,vs,ws,ns',ms',hz,hvi,hwi,hlen,hR⟩;simp only at hb';subst hb';have hv:lexLt ns' ms'=decide (items.size<items2.size):=by
    cases hvi with
    |nil=>
     cases hwi with
     |nil=>
      simp only[List.length_nil]at hlen;rw[aAd];exact(decide_eq_false (by omega)).symm
     |cons c u hw=>
      simp only[List.length_nil,List.length_cons]at hlen;rw[zZ];exact(decide_eq_true (by omega)).symm
    |cons a t hv=>
     cases hwi with
     |nil=>
      simp only[List.length_nil,List.length_cons]at hlen;rw[z7];exact(decide_eq_false (by omega)).symm
     |cons c u hw=>
      rw[List.zip_cons_cons]at hz;cases hz
   rw[hv]at hR;wp_walk;exact⟨_,rfl,by simpa[Builtin.Tuple.tupleCompareSizes]using hR⟩
  case h=>
   exact⟨rfl,rfl,items.toList,items2.toList,ns,ms,rfl,hi,hj,by omega,h⟩
end
section
variable{prog:Program}{w:World}{A:Around}{E:Value->Shared->Prop}{s:Shared}
theorem zX(hl:IsTup s.heap l items)(hb:IsTup s.heap b items2)(hi:IntsAre items.toList ns)(hj:IntsAre items2.toList ms)
  (hu:A.units<cLine)(h:Q (.bool (lexLt ns ms)) s):wpAny (model prog w) A (compareOp .Lt (.ref l) (.ref b)) Q E s:=by
 obtain⟨⟨cls,dd,data,sl⟩,ho,hc,n,hd⟩:=id hl;obtain⟨⟨cls2,dd2,data2,sl2⟩,ho2,hc2,n2,hd2⟩:=id hb;simp only at hc hd hc2 hd2;subst hc hd hc2 hd2;exact richCompare_meets_room (op:=.Lt) ⟨_,ho,rfl⟩ ⟨_,ho2,rfl⟩ PySem.F.slot_tuple_lt PySem.F.entry_tuple_lt (PySem.F.args_tuple_lt_2 _ _) (aA2 l b items items2 n n2 dd dd2 sl sl2 ns ms hi hj)
  ⟨ho,ho2,show Value.bool (lexLt ns ms)≠Value.notImplemented/\Q (.bool (lexLt ns ms)) s from⟨(λ x=>nomatch x),h⟩⟩ hu
theorem aLC(ht:IsTup s.heap t vs.toArray)(hb:IsTup s.heap b ws.toArray)(hv:vs≠[])
  (h1:ws=[]->Q (.ref t) s)(h2:ws≠[]->Q (.ref s.heap.objs.size) {s with heap:=s.heap.push {cls:=.type "tuple",data:=.seq (vs++ws).toArray}})
  (hsz:vs.length+ws.length<=sizeLine):wpAny (model prog w) A (binaryOp .Add (.ref t) (.ref b)) Q E s:=by
 obtain⟨⟨cls,dd,data,sl⟩,ho,hc,n,hd⟩:=id ht;obtain⟨⟨cls2,dd2,data2,sl2⟩,ho2,hc2,n2,hd2⟩:=id hb;simp only at hc hd hc2 hd2;subst hc hd hc2 hd2;have e:vs.toArray++ws.toArray=(vs++ws).toArray:=by simp
 by_cases hw:ws=[]
 ·exact concat_meets ⟨_,ho,rfl⟩ ⟨_,ho2,rfl⟩ noFill_tuple_add seq_tuple_add PySem.F.slot_tuple_add PySem.F.entry_tuple_add (PySem.F.args_tuple_add_2 _ _)
   (tuple_addW1 t b vs.toArray ws.toArray n n2 dd dd2 sl sl2 (by simpa using hv) (by simp[hw])) ⟨ho,ho2,h1 hw⟩
 ·refine concat_meets ⟨_,ho,rfl⟩ ⟨_,ho2,rfl⟩ noFill_tuple_add seq_tuple_add PySem.F.slot_tuple_add PySem.F.entry_tuple_add (PySem.F.args_tuple_add_2 _ _)
   (tuple_addW2 t b vs.toArray ws.toArray n n2 dd dd2 sl sl2 (by simpa using hv) (by simpa using hw) (by rw[List.size_toArray,List.size_toArray];exact hsz)) ⟨ho,ho2,?_⟩
  rw[e];exact h2 hw
def sIx(n d:Nat):Option Int->Nat
 |none=>d
 |some v=>if v<0 then(v+(n:Int)).toNat else min v.toNat n
theorem aFO(n d k:Nat):sIx n d (some (k:Int))=min k n:=by
 show(if (k:Int)<0 then((k:Int)+(n:Int)).toNat else min (k:Int).toNat n)=min k n
 rw[if_neg (by omega),Int.toNat_natCast]
theorem aMG(n d:Nat)(hd:d<=n)(o:Option Int):sIx n d o<=n:=by
 cases o with
 |none=>exact hd
 |some v=>
  show(if v<0 then(v+(n:Int)).toNat else min v.toNat n)<=n
  by_cases hv:v<0
  ·rw[if_pos hv];omega
  ·rw[if_neg hv];exact Nat.min_le_right _ _
theorem aFp(v:Int)(n d:Nat):(if v<0 then max (v+(n:Int)) 0 else min v (n:Int))=((sIx n d (some v):Nat):Int):=by
 show(if v<0 then max (v+(n:Int)) 0 else min v (n:Int))=(((if v<0 then(v+(n:Int)).toNat else min v.toNat n):Nat):Int)
 by_cases hv:v<0
 ·simp only[if_pos hv];omega
 ·simp only[if_neg hv];omega
theorem aFA(lo hi:Option Int)(n:Nat):Builtin.Slice.sliceAdjust lo hi 1 (n:Int)=(((sIx n 0 lo:Nat):Int),((sIx n n hi:Nat):Int)):=by
 have h1:¬((1:Int)<0):=by omega
 unfold Builtin.Slice.sliceAdjust;simp only[h1,if_false];refine Prod.ext ?_ ?_
 ·cases lo with
  |none=>rfl
  |some v=>exact aFp v n 0
 ·cases hi with
  |none=>rfl
  |some v=>exact aFp v n n
theorem aEW(i j:Nat):Builtin.Slice.slicePlaces (i:Int) (j:Int) 1=j-i:=by
 unfold Builtin.Slice.slicePlaces;have h1:(1:Int)>0:=by omega
 simp only[h1,if_true,Int.ediv_one];split<;>omega
theorem yw(p:IsPart v o)(h:Q o s):wpAny (model prog w) A (Builtin.Slice.slicePartIndex v) Q E s:=by
 cases p with
 |none=>exact slicePart_none h
 |int i t=>exact slicePart_int h
theorem oF{lo hi:Option Int}{Q:Int×Int×Nat->Shared->Prop}(hs:s.heap.IsSliceOf sl vl vu .none)(pl:IsPart vl lo)(pu:IsPart vu hi)
  (h:Q (((sIx n 0 lo:Nat):Int),1,sIx n n hi-sIx n 0 lo) s):wpAny (model prog w) A (Builtin.Slice.sliceApplied (.ref sl) (pure (n:Int))) Q E s:=by
 obtain⟨os,hos,hcs,hds⟩:=id hs;unfold Builtin.Slice.sliceApplied Builtin.Slice.sliceFields;refine wpAny_bind (wpAny_bind (wpAny_field hos hds (x:=vl) rfl (wpAny_bind (wpAny_field hos hds (x:=vu) rfl (wpAny_bind (wpAny_field hos hds (x:=.none) rfl (wpAny_pure ?_)))))));refine wpAny_bind (slicePart_none ?_);show wpAny _ _ (if ((1:Int)==0)=true then _ else _) _ _ s;rw[if_neg (by decide)];refine wpAny_bind (yw pl (wpAny_bind (yw pu (wpAny_bind (wpAny_pure ?_)))));show wpAny _ _ (match Builtin.Slice.sliceAdjust lo hi 1 (n:Int)with|(lo,hi)=>pure (lo,(1:Int),Builtin.Slice.slicePlaces lo hi 1)) _ _ s;rw[aFA lo hi n];show wpAny _ _ (pure (((sIx n 0 lo:Nat):Int),(1:Int),Builtin.Slice.slicePlaces ((sIx n 0 lo:Nat):Int) ((sIx n n hi:Nat):Int) 1)) _ _ s;rw[aEW];exact wpAny_pure h
theorem aHl(xs:Array Value)(i k:Nat):((List.range k).filterMap λ(m:Nat)=>xs[((i:Int)+(m:Int)*1).toNat]?).toArray=((xs.toList.drop i).take k).toArray:=by
 have e:(λ(m:Nat)=>xs[((i:Int)+(m:Int)*1).toNat]?)=λ m=>xs[i+m]?:=by
  funext m
  have:((i:Int)+(m:Int)*1).toNat=i+m:=by omega
  rw[this]
 rw[e]
 have:=pick_run xs i k
 rw[List.filterMap_map]at this;have e2:((λ x=>xs[x]?)∘λ x=>i+x)=λ m=>xs[i+m]?:=rfl
 rw[e2]at this;rw[this]
theorem vA{lo hi:Option Int}(ht:IsTup s.heap t items)(hs:s.heap.IsSliceOf sl vl vu .none)(pl:IsPart vl lo)(pu:IsPart vu hi)
  (hw:¬(sIx items.size 0 lo=0/\sIx items.size items.size hi=items.size))
  (h:Q (.ref s.heap.objs.size) {s with heap:=s.heap.push {cls:=.type "tuple",data:=.seq ((items.toList.drop (sIx items.size 0 lo)).take (sIx items.size items.size hi-sIx items.size 0 lo)).toArray}})
  (hsz:items.size<=sizeLine):wpAny (model prog w) A (getItem (.ref t) (.ref sl)) Q E s:=by
 have htake:sizeOk (.seq ((items.toList.drop (sIx items.size 0 lo)).take (sIx items.size items.size hi-sIx items.size 0 lo)).toArray):=by
  show((items.toList.drop (sIx items.size 0 lo)).take (sIx items.size items.size hi-sIx items.size 0 lo)).toArray.size<=sizeLine
  rw[List.size_toArray,List.length_take,List.length_drop,Array.length_toList];omega
 have hj:sIx items.size items.size hi<=items.size:=aMG _ _ (Nat.le_refl _) hi;obtain⟨os,hos,hcs,hds⟩:=id hs;have hTs:s.TypeIs (.ref sl) "slice":=⟨os,hos,hcs⟩;unfold getItem
 try with_reducible refine wpAny_holding ?_
 first|refine wpAny_bind (wpAny_pure ?_)|skip
 refine wpAny_bind (wpAny_sequenceKey ht.typeIs (by decide) ?_);refine wpAny_bind (wpAny_callSpecial?_slot (name:=Str.ofString "__getitem__") ht.typeIs PyProof.Rows.slot_tuple_getitem
  (wpAny_call_entry PyProof.Rows.slot_tuple_getitem ht.typeIs entry_tuple_getitem ?_ (args_tuple_getitem _ _)))
 show wpAny _ _ (Builtin.Tuple.tupleItemsOf (.ref t)>>=_) _ _ s;refine wpAny_bind (tupleItemsOf_ ht ?_);refine wpAny_bind (wpAny_typeOf hTs ?_);rw[if_pos (by decide)];refine wpAny_bind (oF hs pl pu ?_);have hno:¬((((sIx items.size 0 lo:Nat):Int)==0&&(1:Int)==1&&(sIx items.size items.size hi-sIx items.size 0 lo)==items.size)=true):=by
  intro q;rw[Bool.and_eq_true,Bool.and_eq_true]at q;have q1:((sIx items.size 0 lo:Nat):Int)=0:=eq_of_beq q.1.1;have q2:sIx items.size items.size hi-sIx items.size 0 lo=items.size:=eq_of_beq q.2;exact hw ⟨by omega,by omega⟩
 show wpAny _ _ (if (((sIx items.size 0 lo:Nat):Int)==0&&(1:Int)==1&&(sIx items.size items.size hi-sIx items.size 0 lo)==items.size)=true then _ else _) _ _ s;rw[if_neg hno,aHl]
 first
  |exact wpAny_bind (m:=Builtin.Tuple.tupleExact _) (wpAny_newObj_type (wpAny_pure ⟨_,rfl,wpAny_pure h⟩) htake)
  |exact wpAny_bind (m:=Builtin.Tuple.tupleExact _) (wpAny_newObj_type (wpAny_bind (wpAny_pure (wpAny_pure ⟨_,rfl,wpAny_pure h⟩))) htake)
  |exact wpAny_bind (wpAny_bind (m:=Builtin.Tuple.tupleExact _) (wpAny_newObj_type (wpAny_pure (wpAny_pure ⟨_,rfl,wpAny_pure h⟩)) htake))
  |exact wpAny_bind (wpAny_bind (m:=Builtin.Tuple.tupleExact _) (wpAny_newObj_type (wpAny_pure ⟨_,rfl,wpAny_pure h⟩) htake))
end
end HT
namespace L2
open PySem PySem.Spec PyProof.Rows
abbrev TO:=St->Hp->(Option Int->Hp->Prop)->Prop
def PO(X:Cx)(e:Option Expr)(t:TO):Prop:=
 ∀(pins:List (Addr×Obj)) (s:Shared) (σ:St) (H:Hp) (Q:Option Int->Hp->Prop),Inv X pins σ H s->t σ H Q->
  wpAny (model X.prog X.w) X.A (evalPart e X.env) (λ u s'=>∃o H',Inv X pins σ H' s'/\IsPart u o/\Q o H') X.xe s
def aJ1:TO:=λ _ H Q=>Q none H
def aNx(t:TE):TO:=λ σ H Q=>t σ H λ x H1=>∃i,x= .int i/\Q (some i) H1
theorem intsAre_of:∀{us:List Value},Vals (ns.map V.int) us->IntsAre us ns:=by
 induction ns with
 |nil=>intro us r;rw[List.map_nil]at r;cases r;exact .nil
 |cons n ns ih=>
  intro us r;rw[List.map_cons]at r;cases r with
  |cons r1 r2=>
   obtain⟨t,e⟩:=r1;subst e;exact .cons n t (ih r2)
section
variable{X:Cx}{e:Expr}{te:TE}{lo hi:Option Expr}{tl th:TO}{pos p2:Pos}
theorem aJu:PO X none aJ1:=by
 intro pins s σ H Q I h;rw[evalPart_none];exact wpAny_pure ⟨none,H,I,.none,h⟩
theorem aJt(h:PE X e te):PO X (some e) (aNx te):=by
 intro pins s σ H Q I hw;rw[evalPart_some];refine thn (h pins s σ H _ I hw) λ u s1 ⟨x,H1,I1,r1,q1⟩=>?_
 obtain⟨i,rfl,q⟩:=q1;obtain⟨t,rfl⟩:=r1;exact⟨some i,H1,I1,.int i t,q⟩
def SlR(X:Cx)(r:V->Option Int->Option Int->Hp->VK->Prop):Prop:=
 ∀(pins:List (Addr×Obj)) (s:Shared) (σ:St) (H:Hp) (x:V) (v vl vu:Value) (lo hi:Option Int) (sl:Addr) (Q:VK),Inv X pins σ H s->RelV x v->s.heap.IsSliceOf sl vl vu .none->IsPart vl lo->IsPart vu hi->r x lo hi H Q->
  ∃T id,typeLookup (.type T) "__getitem__"=pure (some (.builtin id))/\s.TypeIs v T/\wpAny (model X.prog X.w) X.A (getItem v (.ref sl)) (EP X pins σ Q) X.xe s
theorem SlR.or(h:SlR X r)(h':SlR X r'):SlR X (λ x lo hi H Q=>r x lo hi H Q\/r' x lo hi H Q):=by
 intro pins s σ H x v vl vu lo hi sl Q I rx hs pl pu q;rcases q with q|q
 ·exact h pins s σ H x v vl vu lo hi sl Q I rx hs pl pu q
 ·exact h' pins s σ H x v vl vu lo hi sl Q I rx hs pl pu q
def tSl(r:V->Option Int->Option Int->Hp->VK->Prop)(te:TE)(tl th:TO):TE:=λ σ H Q=>te σ H λ x H1=>tl σ H1 λ l H2=>th σ H2 λ u H3=>r x l u H3 Q
theorem aHp(hr:SlR X r)(he:PE X e te)(hl:PO X lo tl)(hu:PO X hi th):PE X (.Subscript e (.Slice lo hi none p2) pos) (tSl r te tl th):=by
 intro pins s σ H Q I h;refine Subscript_ (thn (he pins s σ H _ I h) λ v s1 ⟨x,H1,I1,r1,q1⟩=>?_);refine wpAny_Slice (thn (hl pins s1 σ H1 _ I1 q1) λ vl s2 ⟨l,H2,I2,pl,q2⟩=>thn (hu pins s2 σ H2 _ I2 q2) λ vu s3 ⟨u,H3,I3,pu,q3⟩=>?_);rw[evalPart_none];refine wpAny_pure ?_;have I4:Inv X pins σ H3 {s3 with heap:=s3.heap.push {cls:=.type "slice",data:=.fields #[vl,vu,.none]}}:=I3.kept (t':=s3.toks) λ b ob q=>Heap.get?_push_of_some _ q
 obtain⟨T,id,hT,ht,hg⟩:=hr pins {s3 with heap:=s3.heap.push {cls:=.type "slice",data:=.fields #[vl,vu,.none]}} σ H3 x v vl vu l u s3.heap.objs.size Q I4 r1 (Heap.IsSliceOf.new ..) pl pu q3;show wpAny (model X.prog X.w) X.A (subscriptTail e (.Slice lo hi none p2) v (.ref s3.heap.objs.size)) (EP X pins σ Q) X.xe {s3 with heap:=s3.heap.push {cls:=.type "slice",data:=.fields #[vl,vu,.none]}};exact tail_any (ops:=[.ref s3.heap.objs.size,v]) ht hT hg (by with_unfolding_all rfl)
def aAS(xs:List V)(lo hi:Option Int):List V:=(xs.drop (HT.sIx xs.length 0 lo)).take (HT.sIx xs.length xs.length hi-HT.sIx xs.length 0 lo)
theorem xU(xs:List V)(lo hi:Option Int):(aAS xs lo hi).length<=xs.length:=by
 unfold aAS;rw[List.length_take,List.length_drop];omega
def aJj(K:PySem.W.Frag):R2:=λ x y H Q=>∃a b ns ms,x= .ref a/\y= .ref b/\SqT K H a (ns.map V.int)/\SqT K H b (ms.map V.int)/\Q (.bl (HT.lexLt ns ms)) H
theorem aMj(hu:X.A.units<cLine):OpR X (compareOp .Lt) (aJj X.K):=by
 intro pins s σ H x y v u Q I rx ry h;obtain⟨a,b,ns,ms,rfl,rfl,ha,hb,q⟩:=h;cases rx;cases ry;obtain⟨its,r1,p1,_⟩:=I.tuple ha;obtain⟨its2,r2,p2,_⟩:=I.tuple hb;have i1:IntsAre its.toArray.toList ns:=intsAre_of r1;have i2:IntsAre its2.toArray.toList ms:=intsAre_of r2;exact HT.zX p1 p2 i1 i2 hu ⟨.bl (HT.lexLt ns ms),H,I,rfl,q⟩
def aOP(K:PySem.W.Frag):R2:=λ x y H Q=>∃a b xs ys,x= .ref a/\y= .ref b/\SqT K H a xs/\SqT K H b ys/\xs≠[]/\xs.length+ys.length<=sizeLine/\
 (ys=[]->Q (.ref a) H)/\(ys≠[]->∀p,H p=none->Q (.ref p) (upd H p (.tup (xs++ys))))
theorem Vals.nil_iff(r:Vals xs us):us=[]↔xs=[]:=by
 cases r with
 |nil=>simp
 |cons _ _=>simp
theorem aKM:OpR X (binaryOp .Add) (aOP X.K):=by
 intro pins s σ H x y v u Q I rx ry h;obtain⟨a,b,xs,ys,rfl,rfl,ha,hb,hx,hz,q1,q2⟩:=h;cases rx;cases ry;obtain⟨its,r1,p1,_⟩:=I.tuple ha;obtain⟨its2,r2,p2,_⟩:=I.tuple hb;refine HT.aLC p1 p2 (λ z=>hx (r1.nil_iff.mp z)) (λ z=>⟨.ref a,H,I,rfl,q1 (r2.nil_iff.mp z)⟩) (λ z=>?_) (by rw[<-r1.length,<-r2.length];exact hz);refine⟨.ref s.heap.objs.size,_,I.laid (t':=s.toks) (o:=.tup (xs++ys)) (λ b ob q=>Heap.get?_push_of_some _ q) (Nat.le_refl _) ?_,rfl,q2 (λ w=>z (r2.nil_iff.mpr w)) _ (I.hok.fresh (Nat.le_refl _))⟩;exact⟨by rw[List.length_append];exact hz,_,r1.append r2,IsTup.new _ _⟩
end
def ixN(n:Nat)(i:Int):Option Nat:=if 0<=i then(if i<n then some i.toNat else none)else if -(n:Int)<=i then some (i+n).toNat else none
def atI{α:Type}(xs:List α)(i:Int):Option α:=(ixN xs.length i).bind λ j=>xs[j]?
theorem aKa(h:ixN n i=some j):seqIndex? i n=some j/\j<n/\-(n:Int)<=i/\i<n:=by
 unfold ixN at h;by_cases h0:0<=i
 ·rw[if_pos h0]at h
  by_cases h1:i<n
  ·rw[if_pos h1]at h
   have e:i.toNat=j:=Option.some.inj h;exact⟨by rw[seqIndex_of h0 h1,e],by omega,by omega,h1⟩
  ·rw[if_neg h1]at h;cases h
 ·rw[if_neg h0]at h
  by_cases h1: -(n:Int)<=i
  ·rw[if_pos h1]at h
   have e:(i+n).toNat=j:=Option.some.inj h;exact⟨by rw[seqIndex_neg (by omega) h1,e],by omega,h1,by omega⟩
  ·rw[if_neg h1]at h;cases h
theorem aCY(h:atI xs i=some v):∃j,seqIndex? i xs.length=some j/\xs[j]? =some v/\j<xs.length/\-(xs.length:Int)<=i/\i<xs.length:=by
 unfold atI at h;cases e:ixN xs.length i with
 |none=>rw[e]at h;cases h
 |some j=>
  rw[e]at h;obtain⟨h1,h2,h3,h4⟩:=aKa e;exact⟨j,h1,h,h2,h3,h4⟩
def aC0(b:Expr):Prop:=∀o i,subscripted b false o i=operate [o,i] (getItem o i)
def IxR(X:Cx)(r:R2):Prop:=
 ∀(value slice:Expr) (pins:List (Addr×Obj)) (s:Shared) (σ:St) (H:Hp) (x y:V) (v u:Value) (Q:VK),Inv X pins σ H s->RelV x v->RelV y u->r x y H Q->
  subscripted slice false v u=operate [v,u] (getItem v u)->wpAny (model X.prog X.w) X.A (subscriptTail value slice v u) (EP X pins σ Q) X.xe s
def MtR(X:Cx)(id:String)(r:V->List V->Hp->VK->Prop):Prop:=
 ∀(pins:List (Addr×Obj)) (s:Shared) (σ:St) (H:Hp) (x:V) (xs:List V) (v:Value) (us:List Value) (Q:VK),Inv X pins σ H s->RelV x v->Vals xs us->r x xs H Q->
  wpAny (model X.prog X.w) X.A (call (.builtin id) (v::us)) (EP X pins σ Q) X.xe s
section
variable{X:Cx}{a b:Expr}{ta tb:TE}{pos:Pos}
theorem IxR.or(h:IxR X r)(h':IxR X r'):IxR X (λ x y H Q=>r x y H Q\/r' x y H Q):=by
 intro value slice pins s σ H x y v u Q I rx ry q hs;rcases q with q|q
 ·exact h value slice pins s σ H x y v u Q I rx ry q hs
 ·exact h' value slice pins s σ H x y v u Q I rx ry q hs
theorem aL8(hr:IxR X r)(ha:PE X a ta)(hb:PE X b tb)(hs:aC0 b):PE X (.Subscript a b pos) (tOp r ta tb):=by
 intro pins s σ H Q I h;exact Subscript_ (aNb ha hb I h λ v u s2 x y H2 I2 rx ry q=>hr a b pins s2 σ H2 x y v u Q I2 rx ry q (hs _ _))
def aMM(K:PySem.W.Frag):R2:=λ x y H Q=>∃p xs i v,x= .ref p/\y= .int i/\SqL K H p xs/\atI xs i=some v/\Q v H
def aON(K:PySem.W.Frag):R2:=λ x y H Q=>∃p xs i v,x= .ref p/\y= .int i/\SqT K H p xs/\atI xs i=some v/\Q v H
def aOO:R2:=λ x y H Q=>∃z i c,x= .str z/\y= .int i/\z.length<=sizeLine/\atI z.cps.toList i=some c/\Q (.str ⟨#[c]⟩) H
theorem aFd:IxR X (aMM X.K):=by
 intro value slice pins s σ H x y v u Q I rx ry h hs;obtain⟨p,xs,i,z,rfl,rfl,hq,he,q⟩:=h;cases rx;obtain⟨t,rfl⟩:=ry;obtain⟨its,r,pl,hz⟩:=I.list hq;obtain⟨j,h1,h2,h3,h4,h5⟩:=aCY he;obtain⟨w,ew,rw'⟩:=r.get h2;have hl:=r.length;have hn:=zY;have fin:EP X pins σ Q w s:=⟨z,H,I,rw',q⟩;by_cases h0:0<=i
 ·have hj:i.toNat=j:=by
   rw[seqIndex_of h0 h5]at h1;exact Option.some.inj h1
  exact item_listR pl.isList h0 (by omega) (by rw[hj];simpa using ew) fin hs
 ·have hj:(i+(its.toArray.size:Int)).toNat=j:=by
   rw[seqIndex_neg (by omega) h4]at h1;rw[List.size_toArray,<-hl];exact Option.some.inj h1
  exact subscriptTail_builtinR (x:=w) pl.isList.typeIs slot_list_getitem.lookup
   (wpAny_getItem_list_neg (Q:=λ r s'=>r=w/\EP X pins σ Q r s') pl.isList (by omega) (by rw[List.size_toArray]<;>omega) (by omega) (by rw[hj];simpa using ew) ⟨rfl,fin⟩) hs
theorem aNN:IxR X (aON X.K):=by
 intro value slice pins s σ H x y v u Q I rx ry h hs;obtain⟨p,xs,i,z,rfl,rfl,hq,he,q⟩:=h;cases rx;obtain⟨t,rfl⟩:=ry;obtain⟨its,r,pl,hz⟩:=I.tuple hq;obtain⟨j,h1,h2,h3,h4,h5⟩:=aCY he;obtain⟨w,ew,rw'⟩:=r.get h2;have hl:=r.length;have hn:=zY;have fin:EP X pins σ Q w s:=⟨z,H,I,rw',q⟩;exact subscriptTail_builtinR (x:=w) pl.typeIs slot_tuple_getitem.lookup
  (getItem_tuple (j:=j) (Q:=λ r s'=>r=w/\EP X pins σ Q r s') pl (by omega) (by omega) (by rw[List.size_toArray,<-hl];exact h1) (by simpa using ew) ⟨rfl,fin⟩) hs
theorem aNO:IxR X aOO:=by
 intro value slice pins s σ H x y v u Q I rx ry h hs;obtain⟨z,i,c,rfl,rfl,hz,he,q⟩:=h;obtain⟨t,rfl⟩:=rx;obtain⟨t',rfl⟩:=ry;obtain⟨j,h1,h2,h3,h4,h5⟩:=aCY he;have hl:z.cps.toList.length=z.length:=by simp[Str.length]
 rw[hl]at h1 h4 h5;have hn:=zY;exact tail_any (typeIs_str s z t) slot_str_getitem.lookup (getItem_str (c:=c) (by
  have e1:decide (i < -(2^63:Int))=false:=decide_eq_false (by omega);have e2:decide (i ≥ 2^63)=false:=decide_eq_false (by omega);rw[e1,e2,Bool.or_false]) (by rw[h1];simpa using h2) ⟨.str ⟨#[c]⟩,H,I.tok _,⟨_,rfl⟩,q⟩) hs
def rIx(K:PySem.W.Frag):R2:=λ x y H Q=>aMM K x y H Q\/aON K x y H Q\/aOO x y H Q
theorem aNP:IxR X (rIx X.K):=aFd.or (aNN.or aNO)
theorem aB7(lo hi:Option Int)(n:Nat):(sliceBounds lo hi none n).1=((HT.sIx n 0 lo:Nat):Int)/\(sliceBounds lo hi none n).2.1=((HT.sIx n n hi:Nat):Int)/\(sliceBounds lo hi none n).2.2=1:=by
 refine⟨?_,?_,rfl⟩
 ·cases lo with
  |none=>simp[sliceBounds,HT.sIx]
  |some i=>
   simp only[sliceBounds,HT.sIx,Option.getD_none,show(1:Int)>0 by decide,if_true];by_cases h:i<0
   ·simp only[h,if_true]<;>omega
   ·simp only[h,if_false]<;>omega
 ·cases hi with
  |none=>simp[sliceBounds,HT.sIx]
  |some i=>
   simp only[sliceBounds,HT.sIx,Option.getD_none,show(1:Int)>0 by decide,if_true];by_cases h:i<0
   ·simp only[h,if_true]<;>omega
   ·simp only[h,if_false]<;>omega
theorem aA6(its:List Value)(lo hi:Option Int):slicePick its.toArray lo hi none=((its.drop (HT.sIx its.length 0 lo)).take (HT.sIx its.length its.length hi-HT.sIx its.length 0 lo)).toArray:=by
 obtain⟨h1,h2,h3⟩:=aB7 lo hi its.toArray.size;unfold slicePick;rw[h1,h2,h3];simp only[sliceRange_one,pick_run,List.size_toArray]<;>rfl
def aOL(K:PySem.W.Frag):V->Option Int->Option Int->Hp->VK->Prop:=λ x lo hi H Q=>∃a xs,x= .ref a/\SqL K H a xs/\∀p,H p=none->Q (.ref p) (upd H p (.lst (aAS xs lo hi)))
theorem aJ8:SlR X (aOL X.K):=by
 intro pins s σ H x v vl vu lo hi sl Q I rx hs pl pu h;obtain⟨a,xs,rfl,hx,q⟩:=h;cases rx;obtain⟨its,r,ht,hz⟩:=I.list hx;have hlen:=r.length;refine⟨"list",_,slot_list_getitem.lookup,ht.isList.typeIs,?_⟩;refine wpAny_getItem_list_slice ht.isList hs pl pu .none (by simp) ?_ (by rw[List.size_toArray]<;>omega);rw[aA6,<-hlen];refine⟨.ref s.heap.objs.size,_,I.laid (t':=s.toks) (o:=.lst (aAS xs lo hi)) (λ b ob q=>Heap.get?_push_of_some _ q) (Nat.le_refl _) ?_,rfl,q _ (I.hok.fresh (Nat.le_refl _))⟩;exact⟨Nat.le_trans (xU xs lo hi) hz,_,0,(r.drop (HT.sIx xs.length 0 lo)).take (HT.sIx xs.length xs.length hi-HT.sIx xs.length 0 lo),Heap.get?_push_size _ rfl⟩
theorem vN:dR X (.builtin "len") (λ xs H Q=>∃p ys,xs=[.ref p]/\(SqL X.K H p ys\/SqT X.K H p ys)/\Q (.int ys.length) H):=by
 intro pins s σ H xs us Q I r h;obtain⟨p,ys,rfl,hq,q⟩:=h;obtain⟨u,rfl,rx⟩:=vals1 r;cases rx;have hn:=zY;rcases hq with hq|hq
 ·obtain⟨its,r',pl,hz⟩:=I.list hq
  have hlen:=r'.length;exact Calls.call_len_list pl.isList (by simp only[List.size_toArray]<;>omega) ⟨.int ys.length,H,I.tok _,⟨s.toks+1,by rw[List.size_toArray,hlen]⟩,q⟩
 ·obtain⟨its,r',pl,hz⟩:=I.tuple hq
  have hlen:=r'.length;exact len_tuple pl (by simp only[List.size_toArray]<;>omega) ⟨.int ys.length,H,I.tok _,⟨s.toks+1,by rw[List.size_toArray,hlen]⟩,q⟩
theorem dR.or(h:dR X f r)(h':dR X f r'):dR X f (λ xs H Q=>r xs H Q\/r' xs H Q):=by
 intro pins s σ H xs us Q I rs q;rcases q with q|q
 ·exact h pins s σ H xs us Q I rs q
 ·exact h' pins s σ H xs us Q I rs q
theorem aCQ:dR X (.type "list") (λ xs H Q=>∃p ys,xs=[.ref p]/\(SqL X.K H p ys\/SqT X.K H p ys)/\∀l,H l=none->Q (.ref l) (upd H l (.lst ys))):=by
 intro pins s σ H xs us Q I r h;obtain⟨p,ys,rfl,hq,q⟩:=h;obtain⟨u,rfl,rx⟩:=vals1 r;cases rx;have fin:∀(its:List Value),Vals ys its->ys.length<=sizeLine->∀(h':Heap) (c':Nat),(∀b o',s.heap.get? b=some o'->h'.get? b=some o')->
   h'.get? s.heap.objs.size=some {cls:=.type "list",dict:=none,data:=.seq its.toArray c',slots:=#[]}->EP X pins σ Q (.ref s.heap.objs.size) {s with heap:=h'}:=λ its r' hz h' c' kp e=>
  ⟨.ref s.heap.objs.size,_,I.laid (t':=s.toks) kp (Nat.le_refl _) (show gm X.prog X.w _ h' _ (.lst ys)from⟨hz,its,c',r',e⟩),rfl,q _ (I.hok.fresh (Nat.le_refl _))⟩
 rcases hq with hq|hq
 ·obtain⟨its,r',pl,hz⟩:=I.list hq
  have hlen:=r'.length;obtain⟨o,ho,hc,n,hd⟩:=pl.isList;exact call_list_seq p (.inl rfl) ho hc hd (λ h' c' kp e=>fin its r' hz h' c' kp e) (by simp only[List.size_toArray]<;>omega)
 ·obtain⟨its,r',pl,hz⟩:=I.tuple hq
  have hlen:=r'.length;obtain⟨o,ho,hc,n,hd⟩:=pl;exact call_list_seq p (.inr rfl) ho hc hd (λ h' c' kp e=>fin its r' hz h' c' kp e) (by simp only[List.size_toArray]<;>omega)
theorem aAi:dR X (.type "tuple") (λ xs H Q=>∃p ys,xs=[.ref p]/\((SqL X.K H p ys/\∀l,H l=none->Q (.ref l) (upd H l (.tup ys)))\/(SqT X.K H p ys/\Q (.ref p) H))):=by
 intro pins s σ H xs us Q I r h;obtain⟨p,ys,rfl,h⟩:=h;obtain⟨u,rfl,rx⟩:=vals1 r;cases rx;rcases h with ⟨hq,q⟩|⟨hq,q⟩
 ·obtain⟨its,r',pl,hz⟩:=I.list hq
  have hlen:=r'.length;refine call_tuple_list pl.isList (λ h' kp=>?_) (by simp only[List.size_toArray]<;>omega);have I1:Inv X pins σ H {s with heap:=h'}:=I.kept (t':=s.toks) kp;have I2:Inv X pins σ (upd H h'.objs.size (.tup ys)) {s with heap:=h'.push {cls:=.type "tuple",data:=.seq its.toArray}}:=
   I1.laid (t':=s.toks) (λ b o e=>Heap.get?_push_of_some _ e) (Nat.le_refl _) (show gm X.prog X.w _ _ _ (.tup ys)from⟨hz,its,r',IsTup.new _ _⟩)
  exact⟨.ref h'.objs.size,_,I2,rfl,q _ (I1.hok.fresh (Nat.le_refl _))⟩
 ·obtain⟨its,r',pl,hz⟩:=I.tuple hq
  exact call_tuple_same pl ⟨.ref p,H,I,rfl,q⟩
def tyV(K:PySem.W.Frag)(T:String)(x:V)(H:Hp):Prop:=match x with
 | .str _=>T="str"
 | .int _=>T="int"
 | .ref p=>(T="list"/\∃xs,SqL K H p xs)\/(T="tuple"/\∃o,K.lookup p=some o/\o.cls= .type "tuple"/\o.dict=none)\/
   (T="dict"/\((∃kvs,H p=some (.dK kvs))\/∃kvs,H p=some (.dT kvs)))\/(T="set"/\∃S n,H p=some (.set S n))
 |_=>False
theorem aLl(I:Inv X pins σ H s)(r:RelV x v)(ty:tyV X.K T x H):
  s.TypeIs v T/\∀a,v= .ref a->∃ob,s.heap.get? a=some ob/\ob.dict=none:=by
 cases x with
 |str z=>
  obtain⟨t,rfl⟩:=r;cases (show T="str" from ty);exact⟨typeIs_str s z t,λ _ e=>nomatch e⟩
 |int i=>
  obtain⟨t,rfl⟩:=r;cases (show T="int" from ty);exact⟨typeIs_int s i t,λ _ e=>nomatch e⟩
 |ref p=>
  cases r;rcases ty with ⟨rfl,xs,hq⟩|⟨rfl,o,hk,hc,hd⟩|⟨rfl,hk⟩|⟨rfl,S,n,hk⟩
  ·obtain⟨its,_,pl,_⟩:=I.list hq
   refine⟨pl.isList.typeIs,λ a e=>?_⟩;cases e;obtain⟨o,n,e,c,hd,_⟩:=pl;exact⟨o,e,hd⟩
  ·refine⟨⟨o,I.kIn p o hk,hc⟩,λ a e=>?_⟩
   cases e;exact⟨o,I.kIn _ o hk,hd⟩
  ·have z:∃o,s.heap.get? p=some o/\o.ExactDict:=by
    rcases hk with ⟨kvs,hk⟩|⟨kvs,hk⟩
    ·obtain⟨_,_,_,_,o,_,_,e,ex,_⟩:=I.hok p _ hk
     exact⟨o,e,ex⟩
    ·obtain⟨_,_,_,_,o,_,_,e,ex,_⟩:=I.hok p _ hk
     exact⟨o,e,ex⟩
   obtain⟨o,e,ex⟩:=z;refine⟨⟨o,e,ex.1⟩,λ a e2=>?_⟩;cases e2;exact⟨o,e,ex.2.1⟩
  ·obtain⟨o,_,_,_,e,ex,_⟩:=I.hok p _ hk
   refine⟨⟨o,e,ex.1⟩,λ a e2=>?_⟩;cases e2;exact⟨o,e,ex.2.1⟩
 |_=>exact False.elim ty
def tBM(K:PySem.W.Frag)(T:String)(r:V->List V->Hp->VK->Prop)(to:TE)(t:TA):TE:=λ σ H Q=>to σ H λ x H1=>tyV K T x H1/\t σ H1 λ xs H2=>r x xs H2 Q
variable{o e:Expr}{es:List Expr}{to:TE}{t:TA}{name:Str}{apos cpos:Pos}{T id:String}{r:V->List V->Hp->VK->Prop}
theorem aCx(pa:PlainAttrs T)(slot:Slot T name id)(hty:typeOf (.builtin id)=pure (.type "method_descriptor"))(hm:MtR X id r)(ho:PE X o to)(ha:PA X (e::es) t)
  (hbase:attributeBase o name X.env (eval o X.env)=eval o X.env:=by rfl)
  (hfew:((backTo cpos (starEach (e::es) X.env)).all (λ x=>!x.1)&&(backToKw cpos (keywordEach [] X.env)).all (λ x=>x.1.isSome)
   &&decide ((e::es).length+([]:List Keyword).length+(if ([]:List Keyword).isEmpty then 0 else 1)<30))=true:=by rfl)
  (hline:(apos.endLine==cpos.line)=true:=by rfl)(hs:starEach (e::es) X.env=(false,eval e X.env)::starEach es X.env:=by rfl)(hplain:(backTo cpos (starEach es X.env)).any (·.1)=false:=by rfl):
  PE X (.Call (.Attribute o name apos) (e::es) [] cpos) (tBM X.K T r to t):=by
 intro pins s σ H Q I h;refine wpAny_Call_method_late hbase hfew hline rfl (thn (ho pins s σ H _ I h) λ v s1 ⟨x,H1,I1,r1,ty,q1⟩=>?_);obtain⟨h1,h2⟩:=aLl I1 r1 ty;refine⟨T,id,pa,slot,hty,h1,h2,?_⟩;have hA:=ha cpos pins s1 σ H1 _ I1 q1;rw[hs]at hA ⊢;refine Calls.callWith_builtin (by show(false||(backTo cpos (starEach es X.env)).any (·.1))=false;rw[hplain]<;>rfl) (Calls.evalArgs_plain ?_);exact thn hA λ us s2 ⟨vs,H2,I2,r2,q2⟩=>hm pins s2 σ H2 x vs v us Q I2 r1 r2 q2
end
def MtM(X:Cx)(id:String)(r:V->List V->Hp->VK->Prop):Prop:=
 ∀(pins:List (Addr×Obj)) (s:Shared) (σ:St) (H:Hp) (x:V) (xs:List V) (v:Value) (us:List Value) (Q:VK),Inv X pins σ H s->RelV x v->Vals xs us->r x xs H Q->
  wpAny (model X.prog X.w) X.A (call (.builtin id) (v::us)) (EP X pins σ Q) X.xe s
theorem Vals.one:∀{x:V} {us:List Value},Vals [x] us->∃u,us=[u]/\RelV x u
 |_,_,.cons r .nil=>⟨_,rfl,r⟩
theorem Vals.reverse(h:Vals xs us):Vals xs.reverse us.reverse:=by
 induction h with
 |nil=>exact .nil
 |cons r t ih=>rw[List.reverse_cons,List.reverse_cons];exact Vals.append ih (.cons r .nil)
theorem Vals.rep(h:Vals xs us):∀k:Nat,Vals (List.replicate k xs).flatten (List.replicate k us).flatten
 |0=>.nil
 |k+1=>by
  rw[List.replicate_succ,List.replicate_succ,List.flatten_cons,List.flatten_cons];exact Vals.append h (Vals.rep h k)
theorem foldl_rep(its:List Value):∀(k:Nat) (acc:List Value),
  List.foldl (λ x1 x2=>x1++x2) acc.toArray (List.replicate k its.toArray)=(acc++(List.replicate k its).flatten).toArray
 |0,acc=>by simp
 |k+1,acc=>by
  have e:acc.toArray++its.toArray=(acc++its).toArray:=by simp
  have e2:(acc++its)++(List.replicate k its).flatten=acc++(List.replicate (k+1) its).flatten:=by
   rw[List.replicate_succ,List.flatten_cons,List.append_assoc]
  rw[<-e2,<-foldl_rep its k (acc++its),<-e,List.replicate_succ,List.foldl_cons]
section
variable{X:Cx}{pins:List (Addr×Obj)}{σ:St}{H:Hp}{s:Shared}{l b:Addr}{xs ys zs:List V}
theorem Inv.lset{its its':List Value}(I:Inv X pins σ H s)(hH:H l=some (.lst xs))
  (e:s.heap.get? l=some {cls:=.type "list",data:=.seq its.toArray n})(hf:f its.toArray=its'.toArray)(hv:Vals ys its')(hz:ys.length<=sizeLine):
  Inv X pins σ (upd H l (.lst ys)) {s with heap:=s.heap.update l (Obj.mapSeq f),toks:=t'}:=by
 have q:=PySem.IsL.update e f;rw[hf]at q;refine I.write (x:=l) (e:=l) (by rw[hH];exact trivial) (.inl rfl) (λ b' u hb hu=>(Heap.get?_update_other s.heap (Obj.mapSeq f) (Ne.symm hb)).trans hu) ⟨_,q⟩ ?_;exact⟨hz,its',_,hv,q⟩
theorem Inv.lnew(I:Inv X pins σ H s)(hv:Vals ys its)(hz:ys.length<=sizeLine):
  Inv X pins σ (upd H s.heap.objs.size (.lst ys)) {s with heap:=s.heap.push {cls:=.type "list",data:=.seq its.toArray},toks:=t'}:=
 I.laid (λ _ _ q=>Heap.get?_push_of_some _ q) (Nat.le_refl _) ⟨hz,its,0,hv,Heap.get?_push_size _ rfl⟩
theorem Inv.fresh(I:Inv X pins σ H s):H s.heap.objs.size=none:=I.hok.fresh (Nat.le_refl _)
theorem Inv.lstM(I:Inv X pins σ H s)(hH:H l=some (.lst xs)):xs.length<=sizeLine/\∃(its:List Value) (n:Nat),Vals xs its/\xs.length=its.length/\s.heap.get? l=some {cls:=.type "list",data:=.seq its.toArray n}:=by
 obtain⟨z,its,n,r,e⟩:=I.hok l _ hH;exact⟨z,its,n,r,r.length,e⟩
theorem zP(h:n<=sizeLine):Builtin.List.listTooLong n=false:=by
 unfold Builtin.List.listTooLong;exact decide_eq_false (by omega)
end
section
variable{X:Cx}
def aJm:V->List V->Hp->VK->Prop:=λ x vs H Q=>∃l xs y,x= .ref l/\vs=[y]/\H l=some (.lst xs)/\xs.length<sizeLine/\Q .non (upd H l (.lst (xs++[y])))
theorem wK:MtM X "list.append" aJm:=by
 intro pins s σ H x vs v us Q I rx rv h;obtain⟨l,xs,y,rfl,rfl,hH,hz,q⟩:=h;cases rx;obtain⟨u,rfl,ru⟩:=rv.one;obtain⟨z,its,n,r,hl,e⟩:=I.lstM hH;refine call_meets F.slot_list_append ⟨_,e,rfl⟩ F.entry_list_append (F.args_list_append_2 _ _) (PySem.list_append l its.toArray n u (by rw[List.size_toArray];omega)) ⟨e,?_⟩;refine⟨.non,_,I.lset (its':=its++[u]) hH e (by simp) (r.append (.cons ru .nil)) ?_,rfl,q⟩;rw[List.length_append,List.length_singleton];omega
def aJl:V->List V->Hp->VK->Prop:=λ x vs H Q=>∃l b xs zs,x= .ref l/\vs=[.ref b]/\H l=some (.lst xs)/\H b=some (.lst zs)/\xs.length+zs.length<=sizeLine/\Q .non (upd H l (.lst (xs++zs)))
theorem aGR:MtM X "list.extend" aJl:=by
 intro pins s σ H x vs v us Q I rx rv h;obtain⟨l,b,xs,zs,rfl,rfl,hH,hB,hz,q⟩:=h;cases rx;obtain⟨u,rfl,ru⟩:=rv.one;cases ru;obtain⟨z,its,n,r,hl,e⟩:=I.lstM hH;obtain⟨z2,its2,n2,r2,hl2,e2⟩:=I.lstM hB;have hsz:its.toArray.size+its2.toArray.size<=sizeLine:=by rw[List.size_toArray,List.size_toArray];omega
 have hlong:¬(!its.toArray.isEmpty&&Builtin.List.listTooLong (its.toArray.size+its2.toArray.size))=true:=by
  rw[zP hsz,Bool.and_false];exact Bool.false_ne_true
 refine call_meets F.slot_list_extend ⟨_,e,rfl⟩ F.entry_list_extend (F.args_list_extend_2 _ _)
  (AutoSeq1.list_extend_list_list_0 l its.toArray n b its2.toArray n2 hlong (by rw[List.size_toArray];omega) (by omega)) ⟨e,e2,?_⟩
 refine⟨.non,_,I.lset (its':=its++its2) hH e (by simp) (r.append r2) ?_,rfl,q⟩;rw[List.length_append];omega
def aPC:R2:=λ x y H Q=>∃l b xs zs,x= .ref l/\y= .ref b/\H l=some (.lst xs)/\H b=some (.lst zs)/\xs.length+zs.length<=sizeLine/\∀p,H p=none->Q (.ref p) (upd H p (.lst (xs++zs)))
theorem aMq:OpR X (binaryOp .Add) aPC:=by
 intro pins s σ H x y v u Q I rx ry h;obtain⟨l,b,xs,zs,rfl,rfl,hH,hB,hz,q⟩:=h;cases rx;cases ry;obtain⟨z,its,n,r,hl,e⟩:=I.lstM hH;obtain⟨z2,its2,n2,r2,hl2,e2⟩:=I.lstM hB;refine PySem.P.add_list e e2 ?_ (by rw[List.size_toArray,List.size_toArray];omega);have ea:its.toArray++its2.toArray=(its++its2).toArray:=by simp
 rw[ea];exact⟨.ref _,_,I.lnew (t':=s.toks) (r.append r2) (by rw[List.length_append];omega),rfl,q _ I.fresh⟩
def aOM:R2:=λ x y H Q=>∃l k xs,x= .ref l/\y= .int k/\H l=some (.lst xs)/\-(2^63)<=k/\k<2^63/\xs.length*k.toNat<=sizeLine/\
 ∀p,H p=none->Q (.ref p) (upd H p (.lst (List.replicate k.toNat xs).flatten))
theorem len_rep(xs:List α)(k:Nat):(List.replicate k xs).flatten.length=k*xs.length:=by
 induction k with
 |zero=>simp
 |succ k ih=>rw[List.replicate_succ,List.flatten_cons,List.length_append,ih,Nat.succ_mul,Nat.add_comm]
theorem aMd:OpR X (binaryOp .Mult) aOM:=by
 intro pins s σ H x y v u Q I rx ry h;obtain⟨l,k,xs,rfl,rfl,hH,h1,h2,hz,q⟩:=h;cases rx;obtain⟨t,rfl⟩:=ry;obtain⟨z,its,n,r,hl,e⟩:=I.lstM hH;have hlen:its.toArray.size*k.toNat<=sizeLine:=by rw[List.size_toArray,<-hl];exact hz
 have hcap:¬its.toArray.size*k.toNat>(2^63-1) / 8:=by
  have:(sizeLine:Nat)<=(2^63-1) / 8:=by decide
  omega
 have hfit:¬(!Builtin.List.listFitsIndex k)=true:=by
  rw[fitsIndex_both h1 h2];exact Bool.false_ne_true
 have hlong:¬Builtin.List.listTooLong (its.toArray.size*k.toNat)=true:=by
  rw[zP hlen];exact Bool.false_ne_true
 have hnew:List.foldl (λ x1 x2=>x1++x2) #[] (List.replicate (if its.toArray.isEmpty=true then 0 else k.toNat) its.toArray)=(List.replicate k.toNat its).flatten.toArray:=by
  have f0:∀m:Nat,List.foldl (λ x1 x2=>x1++x2) #[] (List.replicate m its.toArray)=(List.replicate m its).flatten.toArray:=λ m=>by
   have:=foldl_rep its m []
   rw[List.nil_append]at this;exact this
  rw[f0];cases its with
  |nil=>simp
  |cons a r'=>rw[if_neg (by simp)]
 refine wpAny_binaryOp_repeat_ref (T:="list") (U:="int") (by decide) ⟨_,e,rfl⟩ (λ s'=>typeIs_int s' k t) noFill_list_mul F.fills_int_mul F.slot_int_rmul repeat_list F.slot_int_index.lookup
  (call_meets F.slot_int_rmul (typeIs_int s k t) F.entry_int_rmul (F.args_int_rmul_2 _ _) (int___rmul___int_list k t l its.toArray n)
   ⟨e,rfl,⟨_,e,rfl⟩,call_meets F.slot_list_mul ⟨_,e,rfl⟩ F.entry_list_mul (F.args_list_mul_2 _ _) (AutoListH.list___mul___list_int_3 l its.toArray n k t hfit hcap hlong) ⟨e,?_⟩⟩)
 rw[hnew];exact⟨.ref _,_,I.lnew (t':=s.toks) (r.rep k.toNat) (by rw[len_rep,Nat.mul_comm];exact hz),rfl,q _ I.fresh⟩
end
section
variable{prog:Program}{w:World}{A:Around}{E:Value->Shared->Prop}{s:Shared}
end
section
variable{X:Cx}
end
end L2
namespace Att
open PySem PySem.W PySem.Calls PyProof.Rows
theorem yG:∀(ns:List Int) (vs:List Value),WellAll P h vs (ns.map WData.int)->IntsAre vs ns:=by
 intro ns;induction ns with
 |nil=>
  intro vs w;rw[List.map_nil]at w;cases w;exact .nil
 |cons n ns ih=>
  intro vs w;rw[List.map_cons]at w;cases w with
  |cons a b=>
   cases a;exact .cons _ _ (ih _ b)
theorem aGD{l:OpenLaw}(hn:l.most=some n)
  (hpre:l.row.toRowW.claim.pre args=true)(hwl:WellAll P h vals args):
  ∃a vs ns,vals=[Value.ref a]/\args=[WData.list (ns.map WData.int)]/\h.get? a=some {cls:=.type "list",data:=.seq vs.toArray}/\IntsAre vs ns/\ns.length<=n:=by
 have hsh:WShape.hasAll [] args [.list .int]=true:=(pre_splitW hpre).1;have hc:l.pre.holds [] {args:=args}=true:=(pre_splitW hpre).2;obtain⟨d,r,rfl,h1,h2⟩:=hasAllW_cons hsh;obtain rfl:=hasAllW_nil h2;obtain⟨xs,rfl,h3⟩:=hasW_list h1;obtain⟨ns,rfl⟩:=items_int h3;have hlen:ns.length<=n:=by
  unfold OpenLaw.pre at hc;have h4:(WTm.not (.lt (.lit (.int (n:Int))) (.len (.arg 0)))).holds [] {args:=[.list (ns.map .int)]}=true:=by
   have h4:=(holds_andW hc).1;rw[hn]at h4;exact h4
  have h5:=condW_of h4 (w_not (w_lt w_lit (w_len_list (w_arg rfl))));rw[List.length_map]at h5;refine Nat.le_of_not_lt λ q=>?_
  have q':(n:Int)<((ns.length:Nat):Int):=by omega
  first
   |(rw[decide_eq_true q']at h5;exact absurd h5 (by decide))
   |(simp at h5;omega)
 cases hwl with
 |cons w1 w2=>
  cases w2;cases w1 with
  |list ho hall=>exact⟨_,_,ns,rfl,rfl,ho,yG ns _ hall,hlen⟩
theorem aGH(l:OpenLaw)(args:List WData):l.row.toRowW.claim.post args (.bool true) args=true:=
 postW_of (r:=l.row.toRowW) (X:=(true==true))
  (show WShape.has [] (.bool true) .bool=true by first|rfl|decide|simp[WShape.has,WShape.arms,WShape.armsAll])
  (show(WTm.eq .res (.lit (.bool true))).value [] {args:=args,res:=some (.bool true),after:=args}=some (.bool (true==true))from w_eq_bool (w_res rfl) w_lit) rfl
theorem aDi{l:OpenLaw}
  (hn:l.most=some n)(hdf:d.params.defaults=[])
  (call:∀(w:World) (s₀ s₁:Shared) (mg mb:Str->Option Value) (fa:Addr) (o:Obj) (pm cd doc:Value) (a:Addr) (vs:List Value) (ns:List Int),
   Ground q loose [] XP w s₀ mg mb s₁.heap->YP w s₁.heap->
   s₁.heap.get? fa=some o->o.data= .func (docDef d.name d.params d.body d.scope pm cd doc)->s₁.heap.CodeRec cd d.name->mg d.name=some (.ref fa)->
   s₁.heap.get? a=some {cls:=.type "list",data:=.seq vs.toArray}->IntsAre vs ns->ns.length<=n->s₁.gens=#[]->
   codeAny (model l.prog w) callerA (.call (.ref fa) ⟨[.ref a],[]⟩) (λ r s'=>r= .ok (.ret (.bool true))/\OldK s₁.heap s'.heap/\s'.os=s₁.os/\AllBare s'.gens) s₁):
  WalkO q loose XP YP l.row.toRowW d [] (λ f vs=>PySem.call f vs):=by
 intro w s₀ s₁ mg mb G Y fa o pm cd doc dV kV ho hd hcd hD hmg hg args vals as hpre hlay hrd hwl hlo;obtain rfl:dV= .none:=Dflts.none hD hdf;obtain rfl:kV= .none:=Dflts.noKw hD;obtain⟨a,vs,ns,rfl,rfl,hobj,hints,hlen⟩:=aGD hn hpre hwl;refine enter_call (codeAny_mono (call w s₀ s₁ mg mb fa o pm cd doc a vs ns G Y ho (fd_plain hd) hcd hmg hobj hints hlen hg) λ r s' hq=>?_);obtain⟨rfl,h2,h3,h4⟩:=hq;exact⟨.inl ⟨.bool true,.bool true,[],rfl,λ _=>rfl,.bool true,aGH l _,λ _=>⟨List.Pairwise.nil,λ _ hm=>(nomatch hm)⟩⟩,h2,h3,h4⟩
section
variable{prog:Program}{w:World}{A:Around}{E:Value->Shared->Prop}{s:Shared}{K:Frag}
theorem make_obj(X:K.In s.heap)(hm:makesIn K C=true)(hi:findIn K (.ref C) "__init__"=some (some (.ref fI)))(hf:isFn K (.ref fI)=true)
  (h:codeAny (model prog w) (A.under (.builtin "type.__call__" ⟨.ref C::rest,kw⟩)) (.call (.ref fI) ⟨.ref (s.heap.objs.size+1)::rest,kw⟩) (InitBack (s.heap.objs.size+1) R)
   {s with heap:=(s.heap.push emptyDict).push (instObj C s.heap.objs.size)}):codeAny (model prog w) A (.call (.ref C) ⟨rest,kw⟩) R s:=by
 obtain⟨hh,g,d,t,os⟩:=s;exact make_core (makes_of X hm) (looks_findIn X hi) (λ self=>bind_fn X self (beq_iff_eq.mp hf)) (.inl rfl) h
theorem get_field(X:K.In s.heap)(I:PySem.W.InstAt s.heap x ox C (some (dictOf es n)))(hg:plainGet K C name=true)(hh:hasDictIn K C=true)(ha:findIn K (.ref C) name=some none)
  (hl:getL name es=some (some v))(hv:handedIn v=true)(h:Q v {s with toks:=s.toks+1}):wpAny (model prog w) A (getAttr (.ref x) name expr) Q E s:=
 get_value X I (plainGet_of hg).1 (findObj_own hh ha rfl hl) hv h
def ledger(h:Heap)(L d:Addr):List (Addr×Obj):=(List.range h.objs.size).filterMap λ a=>if a=L\/a=d then none else(h.get? a).map λ o=>(a,o)
end
end Att
namespace L2
open PySem PySem.Spec PyProof.Rows
theorem aAm:∀{vs:List Value} {ns:List Int},IntsAre vs ns->Vals (ns.map V.int) vs
 |_,_,.nil=>.nil
 |_,_,.cons n t h=>.cons ⟨t,rfl⟩ (aAm h)
def Only(H:Hp):Prop:=∀b,H b=none\/∃o xs,H b=some (.frz o (.lst xs))
theorem aIS{K:PySem.W.Frag}
  (KX:K.In s₁.heap)(hns:s₁.heap.Ns mainGlobals mg)(hb:s₁.heap.Ns builtinsNs mb)(hbb:∀x:Str,x≠"__name__"->mb x=bootBuiltins x)(hlim:s₁.heap.NoLimit)(hg:s₁.gens=#[])
  (ha:s₁.heap.get? a=some {cls:=.type "list",data:=.seq vs.toArray})(hi:IntsAre vs ns)(hl:ns.length<=sizeLine)(hr:nH k callerA)
  (F:∀base:Heap,K.In base->base.Ns mainGlobals mg->dJ P w K mg base CX k fa fd [x] sp)(hbind:∀(s:Shared) (u:Value),BindsTo s fd ⟨[u],[]⟩ [(x,u)])
  (hsp:∀H:Hp,Only H->SqL K H a (ns.map V.int)->sp [.ref a] H (λ v _=>v= .bl true) λ _ _ _=>False)
  (hCX:∀H e s',CX [] H s₁ (λ _ _ _=>False) e s'->False):
  codeAny (model P w) callerA (.call (.ref fa) ⟨[.ref a],[]⟩) (λ r s'=>r= .ok (.ret (.bool true))/\OldK s₁.heap s'.heap/\s'.os=s₁.os/\AllBare s'.gens) s₁:=by
 have rv:=aAm hi;have lenV:=hi.length;have core:∀H:Hp,Only H->SqL K H a (ns.map V.int)->HOk P w H s₁.heap->(∀b,H b≠none->b=a)->(H a≠none->K.lookup a=none)->
   codeAny (model P w) callerA (.call (.ref fa) ⟨[.ref a],[]⟩) (λ r s'=>r= .ok (.ret (.bool true))/\OldK s₁.heap s'.heap/\s'.os=s₁.os/\AllBare s'.gens) s₁:=by
  intro H hO hS hok hA hK;have base_of:∀{b:Addr} {o:Obj},s₁.heap.get? b=some o->H b=none->(aCK s₁.heap H).get? b=some o:=λ e n=>aIc e n
  have noA:∀{b:Addr} {o:Obj} {es:Array DictEntry} {ep:Nat},s₁.heap.get? b=some o->o.data= .dict es ep->H b=none:=λ{b o es ep} e d=>by
   cases q:H b with
   |none=>rfl
   |some u=>
    have e':b=a:=hA b (by rw[q];simp);subst e';rw[ha]at e;cases e;have d':Data.seq vs.toArray _=Data.dict es ep:=d;cases d'
  have nsK:∀{b:Addr} {m:Str->Option Value},s₁.heap.Ns b m->(aCK s₁.heap H).Ns b m:=λ{b m} ⟨o,es,ep,e,d,r⟩=>⟨o,es,ep,base_of e (noA e d),d,r⟩
  have hKb:K.In (aCK s₁.heap H):=λ b o e=>base_of (KX b o e) (by
   cases q:H b with
   |none=>rfl
   |some u=>
    have e':b=a:=hA b (by rw[q];simp);subst e';rw[hK (by rw[q];simp)]at e;cases e)
  have hM:Mod K mg (aCK s₁.heap H):=⟨hKb,nsK hns,⟨mb,nsK hb,hbb⟩,let⟨mc,h1,h2⟩:=hlim;⟨mc,nsK h1,h2⟩⟩;have e0:aLO P w K mg (aCK s₁.heap H) callerA [] s₁ H:=⟨rfl,hM,λ b o e=>aKQ e,Nat.le_of_eq (aG6 _ _),trivial,λ b hb=>absurd (show b∈([]:List Addr)from hb) (by simp),hok,.of_eq hg⟩;refine codeAny_mono ((F _ hKb (nsK hns)).run callerA [] s₁ H ⟨[.ref a],[]⟩ [.ref a] [.ref a] _ _ hr e0 (hbind s₁ (.ref a)) (.cons rfl .nil) (hsp H hO hS)) λ r s' h=>?_
  cases r with
  |error e=>exact(hCX H e s' h).elim
  |ok fl=>
   cases fl with
   |next=>exact False.elim h
   |brk=>exact False.elim h
   |cont=>exact False.elim h
   |ret u=>
    obtain⟨v,H',os,bare,un,hok',r',q⟩:=h;have q':v= .bl true:=q;subst q';obtain rfl:u=Value.bool true:=r';refine⟨rfl,OldK.of_keep λ b o e=>?_,os,bare⟩;cases q:H b with
    |none=>exact un.keep b o e q (by intro z;exact absurd (show b∈([]:List Addr)from z) (by simp)) (by simp)
    |some u=>
     rcases hO b with z|⟨ob,xs,z⟩
     ·rw[q]at z;cases z
     ·have z2:=un.frzs b ob _ z
      obtain⟨e1,_⟩:=hok b _ z;obtain⟨e2,_⟩:=hok' b _ z2;rw[e]at e1;cases e1;exact e2
 cases hk:K.lookup a with
 |some o=>
  have e:=KX a o hk;rw[ha]at e;cases e;refine core (λ _=>none) (λ _=>.inl rfl) (.inr ⟨_,vs.toArray,_,hk,rfl,rfl,rfl,by rw[List.size_toArray,lenV];exact hl,by simpa using rv⟩) (λ b u z=>by have z':(none:Option HO)=some u:=z;cases z') (λ b z=>absurd rfl z) λ z=>absurd rfl z
 |none=>
  refine core (λ b=>if b=a then some (.frz {cls:=.type "list",data:=.seq vs.toArray} (.lst (ns.map V.int)))else none) (λ b=>?_) (.inl (.inr ⟨{cls:=.type "list",data:=.seq vs.toArray},if_pos rfl⟩)) (λ b u z=>?_) (λ b z=>?_) λ _=>hk
  ·by_cases hb:b=a
   ·exact .inr ⟨_,_,if_pos hb⟩
   ·exact .inl (if_neg hb)
  ·by_cases hb:b=a
   ·have z':=(if_pos hb).symm.trans z
    cases z';subst hb;exact⟨ha,by rw[List.length_map];exact hl,vs,_,rv,ha⟩
   ·have z':=(if_neg hb).symm.trans z
    cases z'
  ·by_cases hb:b=a
   ·exact hb
   ·exact absurd (if_neg hb) z
theorem aJW{l:PySem.W.OpenLaw}{K:Params->PySem.W.Frag}{CX:World->CXT}{sp:World->Sp}
  (hn:l.most=some n)(hn2:n<=sizeLine)(hdf:d.params.defaults=[])(hr:nH k callerA)
  (hY:∀(w:World) (h:Heap),YP w h->(K w.params).In h)
  (F:∀(w:World) (mg:Str->Option Value) (fa:Addr) (h:Heap),(K w.params).In h->h.Ns mainGlobals mg->mg d.name=some (.ref fa)->
   ∃fd:FuncData,(∀(s:Shared) (u:Value),BindsTo s fd ⟨[u],[]⟩ [(x,u)])/\
    ∀base:Heap,(K w.params).In base->base.Ns mainGlobals mg->dJ l.prog w (K w.params) mg base (CX w) k fa fd [x] (sp w))
  (hsp:∀(w:World) (H:Hp) (a:Addr) (ns:List Int),ns.length<=n->Only H->SqL (K w.params) H a (ns.map V.int)->sp w [.ref a] H (λ v _=>v= .bl true) λ _ _ _=>False)
  (hCX:∀(w:World) (H:Hp) (s:Shared) (e:Value) (s':Shared),CX w [] H s (λ _ _ _=>False) e s'->False):
  PySem.W.WalkO q loose XP YP l.row.toRowW d [] (λ f vs=>PySem.call f vs):=by
 refine Att.aDi hn hdf λ w s₀ s₁ mg mb fa o pm cd doc a vs ns G Y ho hd hcd hmg hobj hints hlen hg=>?_
 have KX:=hY w _ Y;obtain⟨fd,hb,hF⟩:=F w mg fa _ KX G.T.g hmg;exact aIS KX G.T.g G.T.b G.T.builtins G.T.nolimit hg hobj hints (Nat.le_trans hlen hn2) hr hF hb (λ H hO hS=>hsp w H a ns hlen hO hS) λ H e s'=>hCX w H s₁ e s'
def vI(s:Stmt):Arguments:=match s with
 | .FunctionDef _ a _ _ _ _ _ _ _ _=>a
 |_=>{posonlyargs:=[],args:=[],vararg:=none,kwonlyargs:=[],kw_defaults:=[],kwarg:=none,defaults:=[]}
def lN(s:Stmt):List Stmt:=match s with
 | .FunctionDef _ _ b _ _ _ _ _ _ _=>b
 |_=>[]
def aR(s:Stmt):Scope:=match s with
 | .FunctionDef _ _ _ _ _ _ sc _ _ _=>sc
 |_=>{kind:=.function,names:=[],isGenerator:=false,isCoroutine:=false}
structure Fun(K:PySem.W.Frag)(x qual:Str)(st:Stmt)(f:Addr)(fd:FuncData):Prop where
 ex:∃(oc:Value) (od:Option Addr) (kV doc pm:Value) (an:Option Addr) (cdv ct:Value) (osl:Array (Option Value)),
  fd=PySem.W.fnOf x qual (vI st) (lN st) (aR st) .none kV doc pm an cdv ct/\K.lookup f=some ⟨oc,od,.func fd,osl⟩/\PySem.W.codeIn K cdv qual=true
 kp:PySem.W.keepIn K (.ref f)=true
section
variable{P:Program}{w:World}{K:PySem.W.Frag}{mg:Str->Option Value}{base:Heap}
theorem Fun.binds{st:Stmt}(F:Fun K x qual st f fd)
  (h:∀(kV doc pm:Value) (an:Option Addr) (cdv ct:Value) (us:List Value),us.length=ps.length->bindArgs (PySem.W.fnOf x qual (vI st) (lN st) (aR st) .none kV doc pm an cdv ct) ⟨us,[]⟩=pure (ps.zip us)):Binds K fd ps []:=by
 obtain⟨oc,od,kV,doc,pm,an,cdv,ct,osl,rfl,lk,hcd⟩:=F.ex;exact .all (h kV doc pm an cdv ct)
theorem aNZ{st:Stmt}{kV doc pm cdv ct:Value}(l:K.lookup f=some ⟨oc,od,.func (PySem.W.fnOf x qual (vI st) (lN st) (aR st) .none kV doc pm an cdv ct),osl⟩)
  (c:PySem.W.codeIn K cdv qual=true)(k:PySem.W.keepIn K (.ref f)=true):Fun K x qual st f (PySem.W.fnOf x qual (vI st) (lN st) (aR st) .none kV doc pm an cdv ct):=⟨⟨oc,od,kV,doc,pm,an,cdv,ct,osl,rfl,l,c⟩,k⟩
end
theorem aOc(hr:nH k A):A.units+1<cLine:=Nat.lt_of_le_of_lt (Nat.add_le_add_left (by decide:1<=64) _) hr.units
section
variable{X:Cx}
theorem pv(i:Nat)(hN:X.N[i]? =some x:=by rfl)(hv:Vis X.env.scope x:=by first|exact Or.inl rfl|exact Or.inr (Or.inl rfl)|exact Or.inr (Or.inr rfl))(hd:(x==("__debug__":Str))=false:=by decide)
  (hcd:(x==("__classdict__":Str))=false:=by decide):PE X (.Name x pos) (ym i):=nj hN hv hd hcd
end
def aq(H H':Hp):Prop:=∀b o,H b=some o->H' b=some o
theorem aq.refl(H:Hp):aq H H:=λ _ _ h=>h
theorem aq.trans(a:aq H H1)(b:aq H1 H2):aq H H2:=λ c o h=>b c o (a c o h)
theorem aq.free(e:aq H H')(h:H' l=Option.none):H l=Option.none:=by
 cases q:H l with
 |none=>rfl
 |some o=>
  rw[e l o q]at h;cases h
end L2
set_option maxHeartbeats 4000000
namespace HT
open PySem PyProof.Rows
def lexLe:List Int->List Int->Bool
 |[],_=>true
 |_::_,[]=>false
 |x::xs,y::ys=>if x=y then lexLe xs ys else decide (x<=y)
theorem aEc(x y:Int)(xs ys:List Int):lexLe (x::xs) (y::ys)=if x=y then lexLe xs ys else decide (x<=y):=rfl
theorem aHa(A:Around)(s:Shared)(a:Int)(t:Tok)(c:Int)(u:Tok)(prog:Program)(w:World)(E:Value->Shared->Prop)(Q:Value->Shared->Prop)(h:Q (.bool (decide (a<=c))) s):
  wpAny (model prog w) A (richCompare .LtE (.int a t) (.int c u)) Q E s:=
 (PyProof.Rows.le_int h:wpAny (model prog w) A (compareOp .LtE (.int a t) (.int c u)) Q E s)
section
open PySem.SeqAt
open PySem.AutoSeq1(wpAny_loadPart')
open PySem.MeetsSeq PySem.MeetsSeq2 PySem.MeetsSeq3
theorem aA3(l b:Addr)(items items2:Array Value)(n n2:Nat)(dd dd2:Option Addr)(sl sl2:Array (Option Value))(ns ms:List Int)(hi:IntsAre items.toList ns)(hj:IntsAre items2.toList ms):
  Meets (Builtin.«tuple.__le__» ⟨[.ref l,.ref b],[]⟩)
   (λ _ R s=>s.heap.get? l=some {cls:=.type "tuple",dict:=dd,data:=.seq items n,slots:=sl}/\s.heap.get? b=some {cls:=.type "tuple",dict:=dd2,data:=.seq items2 n2,slots:=sl2}/\
    R (.ok (.ret (.bool (lexLe ns ms)))) s):=
 .of_wp λ prog w A R s h=>by
  obtain⟨hp,g,d,tk,os⟩:=s;obtain⟨hl,hb,h⟩:=h;have f2:=AutoSeq1.sub_tuple_tuple;have z1:items.size=ns.length:=by rw[<-hi.length];simp
  have z2:items2.size=ms.length:=by rw[<-hj.length];simp
  wp_walk using wpAny_loadPart' hl,wpAny_loadPart' hb,wpAny_forIn_list _ (λ rest b s'=>b.1=none/\s'=⟨hp,g,d,tk,os⟩/\∃(vs ws:List Value) (ns' ms':List Int),rest=vs.zip ws/\
   IntsAre vs ns'/\IntsAre ws ms'/\ns'.length+items2.size=ms'.length+items.size/\R (.ok (.ret (.bool (lexLe ns' ms')))) ⟨hp,g,d,tk,os⟩) _
  case turn=>
   rintro⟨y,x⟩ rest b s' ⟨hb',rfl,vs,ws,ns',ms',hz,hvi,hwi,hlen,hR⟩;cases hvi with
   |nil=>rw[List.zip_nil_left]at hz;cases hz
   |cons a t hvi'=>
    cases hwi with
    |nil=>rw[List.zip_nil_right]at hz;cases hz
    |cons c u hwi'=>
     rw[List.zip_cons_cons]at hz;injection hz with hyx hrest
     injection hyx with hy hx
     subst hy hx;rw[aEc]at hR;simp only[List.length_cons]at hlen;obtain⟨e,he,hiff⟩:=aD4 A.in1 ⟨hp,g,d,tk,os⟩ a t c u;refine wpAny_bind (he prog w _ _ ?_);cases e with
     |true=>
      rw[if_pos (hiff.mp rfl)]at hR;wp_walk;exact⟨rfl,rfl,_,_,_,_,hrest,hvi',hwi',by lia,hR⟩
     |false=>
      rw[if_neg (λ q=>absurd (hiff.mpr q) Bool.false_ne_true)]at hR;have hri:=aHa A.in1 ⟨hp,g,d,tk,os⟩ a t c u prog w;wp_walk using hri;exact⟨_,rfl,by simpa using hR⟩
  case fin=>
   rintro⟨b1,b2⟩ s' ⟨hb',rfl,vs,ws,ns',ms',hz,hvi,hwi,hlen,hR⟩;simp only at hb';subst hb';have hv:lexLe ns' ms'=decide (items.size<=items2.size):=by
    cases hvi with
    |nil=>
     simp only[List.length_nil]at hlen;have e:lexLe [] ms'=true:=by cases ms'<;>rfl
     rw[e];exact(decide_eq_true (by lia)).symm
    |cons a t hv=>
     cases hwi with
     |nil=>
      simp only[List.length_nil,List.length_cons]at hlen;show false=_;exact(decide_eq_false (by lia)).symm
     |cons c u hw=>
      rw[List.zip_cons_cons]at hz;cases hz
   rw[hv]at hR;wp_walk;exact⟨_,rfl,by simpa[Builtin.Tuple.tupleCompareSizes]using hR⟩
  case h=>
   exact⟨rfl,rfl,items.toList,items2.toList,ns,ms,rfl,hi,hj,by lia,h⟩
end
section
variable{prog:Program}{w:World}{A:Around}{E:Value->Shared->Prop}{s:Shared}
theorem aEd(hl:IsTup s.heap l items)(hb:IsTup s.heap b items2)(hi:IntsAre items.toList ns)(hj:IntsAre items2.toList ms)
  (hu:A.units<cLine)(h:Q (.bool (lexLe ns ms)) s):wpAny (model prog w) A (compareOp .LtE (.ref l) (.ref b)) Q E s:=by
 obtain⟨⟨cls,dd,data,sl⟩,ho,hc,n,hd⟩:=id hl;obtain⟨⟨cls2,dd2,data2,sl2⟩,ho2,hc2,n2,hd2⟩:=id hb;simp only at hc hd hc2 hd2;subst hc hd hc2 hd2;exact richCompare_meets_room (op:=.LtE) ⟨_,ho,rfl⟩ ⟨_,ho2,rfl⟩ PySem.F.slot_tuple_le PySem.F.entry_tuple_le (PySem.F.args_tuple_le_2 _ _) (aA3 l b items items2 n n2 dd dd2 sl sl2 ns ms hi hj)
  ⟨ho,ho2,show Value.bool (lexLe ns ms)≠Value.notImplemented/\Q (.bool (lexLe ns ms)) s from⟨(λ x=>nomatch x),h⟩⟩ hu
theorem aJF{ws:List Value}(ht:IsTup s.heap t #[])(hb:IsTup s.heap b ws.toArray)(h1:Q (.ref b) s):wpAny (model prog w) A (binaryOp .Add (.ref t) (.ref b)) Q E s:=by
 obtain⟨⟨cls,dd,data,sl⟩,ho,hc,n,hd⟩:=id ht;obtain⟨⟨cls2,dd2,data2,sl2⟩,ho2,hc2,n2,hd2⟩:=id hb;simp only at hc hd hc2 hd2;subst hc hd hc2 hd2;exact concat_meets ⟨_,ho,rfl⟩ ⟨_,ho2,rfl⟩ noFill_tuple_add seq_tuple_add PySem.F.slot_tuple_add PySem.F.entry_tuple_add (PySem.F.args_tuple_add_2 _ _)
   (tuple_addW0 t b #[] ws.toArray n n2 dd dd2 sl sl2 (by simp)) ⟨ho,ho2,h1⟩
theorem vB{lo hi:Option Int}(ht:IsTup s.heap t items)(hs:s.heap.IsSliceOf sl vl vu .none)(pl:IsPart vl lo)(pu:IsPart vu hi)
  (h1:sIx items.size 0 lo=0)(h2:sIx items.size items.size hi=items.size)
  (h:Q (.ref t) s):wpAny (model prog w) A (getItem (.ref t) (.ref sl)) Q E s:=by
 obtain⟨os,hos,hcs,hds⟩:=id hs;have hTs:s.TypeIs (.ref sl) "slice":=⟨os,hos,hcs⟩;obtain⟨ot,hot,hct,hdt⟩:=id ht;unfold getItem
 try with_reducible refine wpAny_holding ?_
 first|refine wpAny_bind (wpAny_pure ?_)|skip
 refine wpAny_bind (wpAny_sequenceKey ht.typeIs (by decide) ?_);refine wpAny_bind (wpAny_callSpecial?_slot (name:=Str.ofString "__getitem__") ht.typeIs PyProof.Rows.slot_tuple_getitem
  (wpAny_call_entry PyProof.Rows.slot_tuple_getitem ht.typeIs entry_tuple_getitem ?_ (args_tuple_getitem _ _)))
 show wpAny _ _ (Builtin.Tuple.tupleItemsOf (.ref t)>>=_) _ _ s;refine wpAny_bind (tupleItemsOf_ ht ?_);refine wpAny_bind (wpAny_typeOf hTs ?_);rw[if_pos (by decide)];refine wpAny_bind (oF hs pl pu ?_);have hyes:(((sIx items.size 0 lo:Nat):Int)==0&&(1:Int)==1&&(sIx items.size items.size hi-sIx items.size 0 lo)==items.size)=true:=by
  rw[h1,h2];simp
 show wpAny _ _ (if (((sIx items.size 0 lo:Nat):Int)==0&&(1:Int)==1&&(sIx items.size items.size hi-sIx items.size 0 lo)==items.size)=true then _ else _) _ _ s;rw[if_pos hyes];unfold Builtin.Tuple.tupleIsExact;refine wpAny_bind (wpAny_bind (wpAny_typeOf ht.typeIs (wpAny_pure ?_)));rw[if_pos (by decide)];exact wpAny_bind (wpAny_rule (wpAny_pure ⟨_,rfl,wpAny_pure h⟩))
theorem aEP(n:Nat):Builtin.Slice.sliceAdjust none none (-1) (n:Int)=((n:Int)-1,-1):=by
 unfold Builtin.Slice.sliceAdjust;rfl
theorem aEO(n:Nat):Builtin.Slice.slicePlaces ((n:Int)-1) (-1) (-1)=n:=by
 unfold Builtin.Slice.slicePlaces;rw[if_neg (by decide)];by_cases h:n=0
 ·subst h;rfl
 ·rw[if_pos (by lia)]
  have e:((n:Int)-1 - -1-1) / (- -1)+1=n:=by
   rw[show(- -1:Int)=1 by decide,Int.ediv_one];lia
  rw[e];simp
theorem aH6(xs:Array Value):((List.range xs.size).filterMap λ(m:Nat)=>xs[(((xs.size:Int)-1)+(m:Int)*(-1)).toNat]?)=xs.toList.reverse:=by
 apply List.ext_getElem?;intro i;have key:∀n,n<=xs.size->((List.range n).filterMap λ(m:Nat)=>xs[(((xs.size:Int)-1)+(m:Int)*(-1)).toNat]?)=xs.toList.reverse.take n:=by
  intro n;induction n with
  |zero=>intro _;simp
  |succ n ih=>
   intro hn;rw[List.range_succ,List.filterMap_append,ih (by lia),List.take_add_one];congr 1;have e:(((xs.size:Int)-1)+(n:Int)*(-1)).toNat=xs.size-1-n:=by lia
   simp only[List.filterMap_cons,List.filterMap_nil,e];rw[List.getElem?_reverse (by rw[Array.length_toList];lia)];have e2:xs.toList.length-1-n=xs.size-1-n:=by simp
   rw[e2,Array.getElem?_toList];have hlt:xs.size-1-n<xs.size:=by lia
   rw[Array.getElem?_eq_getElem hlt];rfl
 rw[key xs.size (Nat.le_refl _),List.take_of_length_le (by simp)]
theorem v8{n:Nat}(hs:s.heap.IsSliceOf sl .none .none (.int (-1) u))
  (h:Q ((n:Int)-1,-1,n) s):wpAny (model prog w) A (Builtin.Slice.sliceApplied (.ref sl) (pure (n:Int))) Q E s:=by
 obtain⟨os,hos,hcs,hds⟩:=id hs;unfold Builtin.Slice.sliceApplied Builtin.Slice.sliceFields;refine wpAny_bind (wpAny_bind (wpAny_field hos hds (x:=.none) rfl (wpAny_bind (wpAny_field hos hds (x:=.none) rfl (wpAny_bind (wpAny_field hos hds (x:=.int (-1) u) rfl (wpAny_pure ?_)))))));refine wpAny_bind (slicePart_int ?_);show wpAny _ _ (if ((-1:Int)==0)=true then _ else _) _ _ s;rw[if_neg (by decide)];refine wpAny_bind (slicePart_none (wpAny_bind (slicePart_none (wpAny_bind (wpAny_pure ?_)))));show wpAny _ _ (match Builtin.Slice.sliceAdjust none none (-1) (n:Int)with|(lo,hi)=>pure (lo,(-1:Int),Builtin.Slice.slicePlaces lo hi (-1))) _ _ s;rw[aEP n];show wpAny _ _ (pure ((n:Int)-1,(-1:Int),Builtin.Slice.slicePlaces ((n:Int)-1) (-1) (-1))) _ _ s;rw[aEO];exact wpAny_pure h
theorem uz(ht:IsTup s.heap t items)(hs:s.heap.IsSliceOf sl .none .none (.int (-1) u))
  (h:Q (.ref s.heap.objs.size) {s with heap:=s.heap.push {cls:=.type "tuple",data:=.seq items.toList.reverse.toArray}})
  (hsz:items.size<=sizeLine):wpAny (model prog w) A (getItem (.ref t) (.ref sl)) Q E s:=by
 have htake:sizeOk (.seq items.toList.reverse.toArray):=by
  show items.toList.reverse.toArray.size<=sizeLine;rw[List.size_toArray,List.length_reverse,Array.length_toList];lia
 obtain⟨os,hos,hcs,hds⟩:=id hs;have hTs:s.TypeIs (.ref sl) "slice":=⟨os,hos,hcs⟩;unfold getItem
 try with_reducible refine wpAny_holding ?_
 first|refine wpAny_bind (wpAny_pure ?_)|skip
 refine wpAny_bind (wpAny_sequenceKey ht.typeIs (by decide) ?_);refine wpAny_bind (wpAny_callSpecial?_slot (name:=Str.ofString "__getitem__") ht.typeIs PyProof.Rows.slot_tuple_getitem
  (wpAny_call_entry PyProof.Rows.slot_tuple_getitem ht.typeIs entry_tuple_getitem ?_ (args_tuple_getitem _ _)))
 show wpAny _ _ (Builtin.Tuple.tupleItemsOf (.ref t)>>=_) _ _ s;refine wpAny_bind (tupleItemsOf_ ht ?_);refine wpAny_bind (wpAny_typeOf hTs ?_);rw[if_pos (by decide)];refine wpAny_bind (v8 hs ?_);show wpAny _ _ (if (((items.size:Int)-1==0&&(-1:Int)==1&&items.size==items.size))=true then _ else _) _ _ s;rw[if_neg (by simp)];rw[show((List.range items.size).filterMap λ(k:Nat)=>items[(((items.size:Int)-1)+(k:Int)*(-1)).toNat]?)=items.toList.reverse from aH6 items]
 first
  |exact wpAny_bind (m:=Builtin.Tuple.tupleExact _) (wpAny_newObj_type (wpAny_pure ⟨_,rfl,wpAny_pure h⟩) htake)
  |exact wpAny_bind (m:=Builtin.Tuple.tupleExact _) (wpAny_newObj_type (wpAny_bind (wpAny_pure (wpAny_pure ⟨_,rfl,wpAny_pure h⟩))) htake)
  |exact wpAny_bind (wpAny_bind (m:=Builtin.Tuple.tupleExact _) (wpAny_newObj_type (wpAny_pure (wpAny_pure ⟨_,rfl,wpAny_pure h⟩)) htake))
  |exact wpAny_bind (wpAny_bind (m:=Builtin.Tuple.tupleExact _) (wpAny_newObj_type (wpAny_pure ⟨_,rfl,wpAny_pure h⟩) htake))
end
end HT
namespace L2
open PySem PySem.Spec PyProof.Rows
def aKb(t T:String):Bool:=decide (t=T)||(decide (t="bool")&&decide (T="int"))
theorem aK9{K:PySem.W.Frag}(ht:t∈["NoneType","bool","int","str","list","tuple","dict"])(hT:T∈["bool","int","str","list","tuple","dict"]):
  PySem.W.kitOne K (.type t) (.type T)=some (aKb t T):=by
 simp only[List.mem_cons,List.not_mem_nil,or_false]at ht hT;rcases ht with rfl|rfl|rfl|rfl|rfl|rfl|rfl<;>rcases hT with rfl|rfl|rfl|rfl|rfl|rfl<;>kernel_rfl
def sZ(t T:String)(b:Bool):Bool:=decide (t∈["NoneType","bool","int","str","list","tuple","dict"])&&decide (T∈["bool","int","str","list","tuple","dict"])&&(aKb t T==b)
theorem aEg{K:PySem.W.Frag}(h:sZ t T b=true):PySem.W.kitOne K (.type t) (.type T)=some b:=by
 unfold sZ at h;rw[Bool.and_eq_true,Bool.and_eq_true]at h;rw[aK9 (of_decide_eq_true h.1.1) (of_decide_eq_true h.1.2),eq_of_beq h.2]
theorem bL(h:H p=none)(o:HO):aq H (upd H p o):=λ b u q=>by rw[bZ (dw q h)];exact q
section
variable{X:Cx}
def aPB(K:PySem.W.Frag):List V->Hp->VK->Prop:=λ xs H Q=>∃x T t b,xs=[x,.ty T]/\wZ K H x (.type t)/\sZ t T b=true/\Q (.bl b) H
theorem oU:dR X (.builtin "isinstance") (aPB X.K):=by
 intro pins s σ H xs us Q I r h;obtain⟨x,T,t,b,rfl,ty,ok,q⟩:=h;obtain⟨u,w',rfl,r1,r2⟩:=vals2 r;obtain rfl:w'=Value.type T:=r2;exact aG1 I r1 ty (aEg ok) λ tk=>⟨.bl b,H,I.tok tk,rfl,q⟩
def aJk(K:PySem.W.Frag):R2:=λ x y H Q=>∃a b ns ms,x= .ref a/\y= .ref b/\SqT K H a (ns.map V.int)/\SqT K H b (ms.map V.int)/\Q (.bl (HT.lexLe ns ms)) H
theorem aMl(hu:X.A.units<cLine):OpR X (compareOp .LtE) (aJk X.K):=by
 intro pins s σ H x y v u Q I rx ry h;obtain⟨a,b,ns,ms,rfl,rfl,ha,hb,q⟩:=h;cases rx;cases ry;obtain⟨its,r1,p1,_⟩:=I.tuple ha;obtain⟨its2,r2,p2,_⟩:=I.tuple hb;have i1:IntsAre its.toArray.toList ns:=intsAre_of r1;have i2:IntsAre its2.toArray.toList ms:=intsAre_of r2;exact HT.aEd p1 p2 i1 i2 hu ⟨.bl (HT.lexLe ns ms),H,I,rfl,q⟩
theorem aHy:OpR X (compareOp .Is) (λ x y H Q=>∃b c,x= .bl b/\y= .bl c/\Q (.bl (b==c)) H):=by
 intro pins s σ H x y v u Q I rx ry h;obtain⟨b,c,rfl,rfl,q⟩:=h;cases rx;cases ry;exact is_bool (aIp I q rfl)
theorem Inv.big'(I:Inv X pins σ H s):sysModules<s.heap.objs.size:=by
 have h:mainGlobals<s.heap.objs.size:=(I.mod.glob.keeps I.bk).lt;exact Nat.lt_trans (by decide) h
def aOA:TE:=λ _ H Q=>∀p,H p=none->Q (.ref p) (upd H p (.dK []))
theorem aKA:PE X (.Dict [] [] pos) aOA:=λ pins s σ H Q I h=>
 wpAny_Dict_empty ⟨.ref s.heap.objs.size,_,I.laid (a:=s.heap.objs.size) (o:=.dK []) (t':=s.toks) (λ _ _ q=>Heap.get?_push_of_some _ q) (Nat.le_refl _)
  ⟨Nat.zero_le _,beq_eq_false_iff_ne.mpr (Ne.symm (Nat.ne_of_lt I.big')),[],.nil,Heap.DictOf.new s.heap⟩,rfl,h _ (I.hok.fresh (Nat.le_refl _))⟩
end
def oA(l:Addr)(H H':Hp):Prop:=∀b o,b≠l->H b=some o->H' b=some o
theorem aq.sqt{K:PySem.W.Frag}(e:aq H H')(h:SqT K H a xs):SqT K H' a xs:=by
 rcases h with (h|⟨o,h⟩)|h
 ·exact .inl (.inl (e _ _ h))
 ·exact .inl (.inr ⟨o,e _ _ h⟩)
 ·exact .inr h
inductive D where
 |non|bl (b:Bool)|int (i:Int)|str (x:Str)|tup (l:List D)|lst (l:List D)|dct
mutual
inductive Rep(H:Hp):V->D->Prop where
 |non:Rep H .non .non
 |bl (b:Bool):Rep H (.bl b) (.bl b)
 |int (i:Int):Rep H (.int i) (.int i)
 |str (x:Str):Rep H (.str x) (.str x)
 |tup {a:Addr} {xs:List V} {ds:List D} (h:H a=some (.tup xs)) (r:vX H xs ds):Rep H (.ref a) (.tup ds)
 |lst {a:Addr} {xs:List V} {ds:List D} (h:H a=some (.lst xs)) (r:vX H xs ds):Rep H (.ref a) (.lst ds)
 |dct {a:Addr} (h:H a=some (.dK [])):Rep H (.ref a) .dct
inductive vX(H:Hp):List V->List D->Prop where
 |nil:vX H [] []
 |cons {x:V} {d:D} {xs:List V} {ds:List D} (h:Rep H x d) (r:vX H xs ds):vX H (x::xs) (d::ds)
end
mutual
theorem Rep.mono(s:aq H H'):∀{x:V} {d:D},Rep H x d->Rep H' x d
 |_,_,.non=>.non
 |_,_,.bl b=>.bl b
 |_,_,.int i=>.int i
 |_,_,.str x=>.str x
 |_,_,.tup h r=>.tup (s _ _ h) (vX.mono s r)
 |_,_,.lst h r=>.lst (s _ _ h) (vX.mono s r)
 |_,_,.dct h=>.dct (s _ _ h)
theorem vX.mono(s:aq H H'):∀{xs:List V} {ds:List D},vX H xs ds->vX H' xs ds
 |_,_,.nil=>.nil
 |_,_,.cons h r=>.cons (Rep.mono s h) (vX.mono s r)
end
theorem vX.ints:∀{ns:List Int},vX H (ns.map V.int) (ns.map D.int)
 |[]=>.nil
 |n::ns=>.cons (.int n) vX.ints
def tyD:D->String
 | .non=>"NoneType"| .bl _=>"bool"| .int _=>"int"| .str _=>"str"| .tup _=>"tuple"| .lst _=>"list"| .dct=>"dict"
theorem PE.weaken(h:PE X e t)(imp:∀σ H Q,t' σ H Q->t σ H Q):PE X e t':=λ pins s σ H Q I q=>h pins s σ H Q I (imp σ H Q q)
theorem OpR.weaken(h:OpR X f r)(imp:∀x y H Q,r' x y H Q->r x y H Q):OpR X f r':=λ pins s σ H x y v u Q I rx ry q=>h pins s σ H x y v u Q I rx ry (imp x y H Q q)
def New(H:Hp)(o:HO)(Q:VK):Prop:=∀p H',aq H H'->H' p=some o->H p=none->Q (.ref p) H'
theorem New.at(n:New H o Q)(hp:H p=none):Q (.ref p) (upd H p o):=n p _ (bL hp o) bI hp
section
variable{X:Cx}{e:Expr}{es:List Expr}{te:TE}{t:TA}{pos:Pos}
def aNv(t:TA):TE:=λ σ H Q=>t σ H λ xs H1=>xs.length<=sizeLine/\New H1 (.tup xs) Q
def aHD(t:TA):TE:=λ σ H Q=>t σ H λ xs H1=>xs.length<=sizeLine/\New H1 (.lst xs) Q
theorem aJx{x1}(h:PA X es t):PE X (.Tuple es x1 pos) (aNv t):=by
 have h':PA X es (λ σ H Q=>∃R:List V->Hp->Prop,t σ H R/\∀xs H',R xs H'->Q xs H'):=by
  intro pos pins s σ H Q I ⟨R,q,imp⟩;exact thn (h pos pins s σ H R I q) λ us s' ⟨vs,H',I',r,q'⟩=>⟨vs,H',I',r,imp _ _ q'⟩
 exact(aM1 h').weaken λ σ H Q q=>⟨_,q,λ xs H' ⟨z,n⟩=>⟨z,λ p hp=>n.at hp⟩⟩
theorem ue(h:PA X es t):PE X (.List es pos) (aHD t):=by
 have h':PA X es (λ σ H Q=>∃R:List V->Hp->Prop,t σ H R/\∀xs H',R xs H'->Q xs H'):=by
  intro pos pins s σ H Q I ⟨R,q,imp⟩;exact thn (h pos pins s σ H R I q) λ us s' ⟨vs,H',I',r,q'⟩=>⟨vs,H',I',r,imp _ _ q'⟩
 exact(aM7 h').weaken λ σ H Q q=>⟨_,q,λ xs H' ⟨z,n⟩=>⟨z,λ p hp=>n.at hp⟩⟩
def aLt:TE:=λ _ H Q=>New H (.dK []) Q
theorem aHq:PE X (.Dict [] [] pos) aLt:=aKA.weaken λ σ H Q n p hp=>n.at hp
def aL5:R2:=λ x y H Q=>∃l b xs zs,x= .ref l/\y= .ref b/\H l=some (.lst xs)/\H b=some (.lst zs)/\xs.length+zs.length<=sizeLine/\New H (.lst (xs++zs)) Q
theorem aKN:OpR X (binaryOp .Add) aL5:=aMq.weaken λ x y H Q ⟨l,b,xs,zs,e1,e2,h1,h2,z,n⟩=>⟨l,b,xs,zs,e1,e2,h1,h2,z,λ p hp=>n.at hp⟩
def zL:V->List V->Hp->VK->Prop:=λ x vs H Q=>∃l xs y,x= .ref l/\vs=[y]/\H l=some (.lst xs)/\xs.length<sizeLine/\∀H',oA l H H'->H' l=some (.lst (xs++[y]))->Q .non H'
theorem zU:MtM X "list.append" zL:=λ pins s σ H x xs v us Q I rx rv ⟨l,ys,y,e1,e2,h,z,n⟩=>
 wK pins s σ H x xs v us Q I rx rv ⟨l,ys,y,e1,e2,h,z,n _ (λ b o ne hb=>by rw[bZ ne];exact hb) bI⟩
end
section
variable{X:Cx}{a b c:Expr}{ta tb:TE}{tt:TT}{pos:Pos}
end
def cj(scope:Scope)(env:Env):List (Str×Addr):=(scope.names.filterMap λ y=>if y.2== .free then(env.cells.lookup y.1).map λ c=>(y.1,c)else none).reverse
theorem aAU(env:Env):∀(names:List (Str×NameKind)) (acc:List (Str×Addr)),(∀y∈names,y.2= .free->∃c,env.cells.lookup y.1=some c)->
  (forIn names acc λ(x:Str×NameKind) r=>if (x.2== .free)=true then do let c <-cellOf env x.1;pure (ForInStep.yield ((x.1,c)::r))else pure (ForInStep.yield r):Sem (List (Str×Addr)))=
   pure ((names.filterMap λ y=>if y.2== .free then(env.cells.lookup y.1).map λ c=>(y.1,c)else none).reverse++acc)
 |[],acc,_=>rfl
 |(n,k)::r,acc,h=>by
  rw[List.forIn_cons];have ih:=λ acc'=>aAU env r acc' λ y hy=>h y (List.mem_cons_of_mem _ hy)
  by_cases hk:k= .free
  ·subst hk
   obtain⟨c,hc⟩:=h (n,.free) List.mem_cons_self rfl;have hc':env.cells.lookup n=some c:=hc;simp only[beq_self_eq_true,if_true,cellOf,hc',List.filterMap_cons,Option.map_some,List.reverse_cons,List.append_assoc,List.singleton_append];exact ih _
  ·have hb:(k==NameKind.free)=false:=by simpa using hk
   simp only[hb,Bool.false_eq_true,if_false,List.filterMap_cons];exact ih _
theorem nu(h:∀y∈scope.names,y.2= .free->∃c,env.cells.lookup y.1=some c):closureFor scope env=pure (cj scope env):=by
 have e:=aAU env scope.names [] h;rw[List.append_nil]at e;have e2:closureFor scope env=((forIn scope.names ([]:List (Str×Addr)) λ(x:Str×NameKind) r=>if (x.2== .free)=true then do let c <-cellOf env x.1;pure (ForInStep.yield ((x.1,c)::r))else pure (ForInStep.yield r):Sem (List (Str×Addr)))>>=λ r=>pure r):=rfl;rw[e2,e];rfl
theorem xV(h:(cj scope env).lookup x=some c):env.cells.lookup x=some c:=by
 have hm:=PySem.mem_of_lookup h;unfold cj at hm;rw[List.mem_reverse,List.mem_filterMap]at hm;obtain⟨y,hy,e⟩:=hm;split at e
 ·cases q:env.cells.lookup y.1 with
  |none=>rw[q]at e;cases e
  |some c'=>
   rw[q]at e;have e':=Option.some.inj e;injection e' with e1 e2
   subst e1 e2;exact q
 ·cases e
theorem aDe(hx:scope.names.lookup x=some .free)(h:env.cells.lookup x=some c):(cj scope env).lookup x=some c:=by
 have hm:(x,NameKind.free)∈scope.names:=PySem.mem_of_lookup hx
 have:(x,c)∈cj scope env:=by
  unfold cj;rw[List.mem_reverse,List.mem_filterMap];exact⟨_,hm,by simp[h]⟩
 cases q:(cj scope env).lookup x with
 |none=>
  exact absurd this (by
   intro hm'
   have:=List.lookup_eq_none_iff.mp q _ hm'
   simp at this)
 |some c'=>
  have:=xV q
  rw[h]at this;exact this.symm▸rfl
def Cx.block(X:Cx)(scope:Scope)(C:Addr)(N:List Str)(fp:List Addr)(s₀:Shared)(H₀:Hp):Cx:=
  {prog:=X.prog,w:=X.w,K:=X.K,mg:=X.mg,base:=X.base,A:=X.A,N:=N,s₀:=s₀,H₀:=H₀,env:=compEnvC scope (cj scope X.env) C X.env,outer:=X.stack,stack:=X.stack,ex:=fp,
    fn:=λ _=>false,calm:=X.calm,pn:=[],xe:=λ _ _=>False}
structure iQ(X:Cx)(scope:Scope)(N:List Str)(st:St->St)(ks:List Nat):Prop where
 kind:scope.kind= .function
 cell:∀y∈scope.names,y.2≠.cell
 loc:∀y∈scope.names,y.2= .local->scope.names.lookup y.1=some .local
 free:∀y∈scope.names,y.2= .free->X.env.kindOf y.1=some .cell\/X.env.kindOf y.1=some .free
 len:∀σ,(st σ).length=N.length
 val:∀σ (i:Nat) x v,N[i]? =some x->(st σ)[i]? =some (some v)->scope.names.lookup x=some .free/\i∉ks/\∃j:Nat,X.N[j]? =some x/\σ[j]? =some (some v)
theorem aBo(h:(relabel scope env).names.lookup x=some .cell\/(relabel scope env).names.lookup x=some .free)(hc:∀y∈scope.names,y.2≠.cell):scope.names.lookup x=some .free:=by
 have go:∀names:List (Str×NameKind),(∀y∈names,y.2≠.cell)->((names.map λ(n,k)=>if (k==NameKind.free&&env.scope.kind== .function&&env.kindOf n==some .cell)then(n,NameKind.cell)else(n,k)).lookup x=some .cell\/
   (names.map λ(n,k)=>if (k==NameKind.free&&env.scope.kind== .function&&env.kindOf n==some .cell)then(n,NameKind.cell)else(n,k)).lookup x=some .free)->names.lookup x=some .free:=by
  intro names;induction names with
  |nil=>intro _ h;simp at h
  |cons y r ih=>
   obtain⟨n,k⟩:=y;intro hc h;have hr:=ih λ y hy=>hc y (List.mem_cons_of_mem _ hy)
   have hk:k≠.cell:=hc (n,k) List.mem_cons_self;rw[List.map_cons]at h;by_cases hx:x==n
   ·rw[List.lookup_cons,hx]
    show some k=some .free;by_cases hcc:(k==NameKind.free&&env.scope.kind== .function&&env.kindOf n==some .cell)=true
    ·rw[Bool.and_eq_true,Bool.and_eq_true]at hcc
     rw[eq_of_beq hcc.1.1]
    ·simp only[if_neg hcc,List.lookup_cons,hx]at h
     rcases h with h|h
     ·exact absurd (Option.some.inj h) hk
     ·exact h
   ·have hx':(x==n)=false:=by simpa using hx
    rw[List.lookup_cons,hx'];refine hr ?_;by_cases hcc:(k==NameKind.free&&env.scope.kind== .function&&env.kindOf n==some .cell)=true
    ·simp only[if_pos hcc,List.lookup_cons,hx']at h
     exact h
    ·simp only[if_neg hcc,List.lookup_cons,hx']at h
     exact h
 exact go scope.names hc h
theorem aBp(h:scope.names.lookup x=some .free):(relabel scope env).names.lookup x=some .cell\/(relabel scope env).names.lookup x=some .free:=by
 have go:∀names:List (Str×NameKind),names.lookup x=some .free->((names.map λ(n,k)=>if (k==NameKind.free&&env.scope.kind== .function&&env.kindOf n==some .cell)then(n,NameKind.cell)else(n,k)).lookup x=some .cell\/
   (names.map λ(n,k)=>if (k==NameKind.free&&env.scope.kind== .function&&env.kindOf n==some .cell)then(n,NameKind.cell)else(n,k)).lookup x=some .free):=by
  intro names;induction names with
  |nil=>intro h;simp at h
  |cons y r ih=>
   obtain⟨n,k⟩:=y;intro h;rw[List.map_cons];by_cases hx:x==n
   ·rw[List.lookup_cons,hx]at h
    have hk:k= .free:=Option.some.inj h;by_cases hcc:(k==NameKind.free&&env.scope.kind== .function&&env.kindOf n==some .cell)=true
    ·simp only[if_pos hcc,List.lookup_cons,hx]
     exact .inl trivial
    ·simp only[if_neg hcc,List.lookup_cons,hx]
     exact .inr (by rw[hk])
   ·have hx':(x==n)=false:=by simpa using hx
    rw[List.lookup_cons,hx']at h;by_cases hcc:(k==NameKind.free&&env.scope.kind== .function&&env.kindOf n==some .cell)=true
    ·simp only[if_pos hcc,List.lookup_cons,hx']
     exact ih h
    ·simp only[if_neg hcc,List.lookup_cons,hx']
     exact ih h
 exact go scope.names h
section
variable{X:Cx}{pins:List (Addr×Obj)}{σ:St}{H H':Hp}{s:Shared}
theorem Inv.block{st:St->St}{D C:Addr}(I:Inv X pins σ H s)(B:iQ X scope N st ks)
  (hfp:∀b∈fp,uO X pins H b)(hob:∀b∈fp,∃ob,s.heap.get? b=some ob)
  (hD:s.heap.objs.size<=D)(hC:s.heap.objs.size<=C)(hDC:D≠C)(keep:∀b u,s.heap.get? b=some u->h'.get? b=some u)(hns:h'.Ns C λ _=>none)(hacc:gm X.prog X.w (upd H D o) h' D o):
  Inv (X.block scope C N fp s H) [] (st σ) (upd H D o) {s with heap:=h',toks:=tk}:=by
 have hHD:H D=none:=I.hok.fresh hD;have hcl:∀x c,(cj scope X.env).lookup x=some c->X.env.cells.lookup x=some c:=λ x c e=>xV e
 have hfresh:∀b∈fp,b<s.heap.objs.size:=λ b hb=>by
  obtain⟨ob,e⟩:=hob b hb;exact Heap.lt_size e
 refine⟨⟨I.mod,?_,I.ok.glob,I.ok.blt,hC,λ x y c e1 e2=>I.ok.inj x y c (hcl x c e1) (hcl y c e2),λ x hx=>?_,λ x c hf=>absurd (show false=true from hf) Bool.false_ne_true,I.ok.hd,I.ok.frames,.inl rfl,λ b hb=>⟨?_,λ x c e z=>?_⟩,
  I.bs,?_,λ b ob e hb=>?_,λ b hb hs=>?_,I.stack,I.stkFree⟩,rfl,I.bare,Un.laid keep hD hHD,⟨_,hns,λ i x v e1 e2 hv=>?_⟩,λ x c e=>?_,?_,λ x c e=>?_,λ p hp=>absurd (show p∈([]:List (Addr×Obj))from hp) (by simp),I.hok.laid keep hD hacc,B.len σ⟩
 ·show(relabel scope X.env).kind= .function
  exact B.kind
 ·have hfree:=aBo hx B.cell
  obtain⟨c,hc⟩:=I.ok.has x (B.free (x,.free) (PySem.mem_of_lookup hfree) rfl);exact⟨c,aDe hfree hc⟩
 ·exact Nat.ne_of_lt (Nat.lt_of_lt_of_le (hfresh b hb) hC)
 ·exact(hfp b hb).2.2.2.2.1 x c (hcl x c e) z
 ·exact Nat.le_trans I.ok.bsz I.sz
 ·rcases(hfp b hb).2.2.2.1 with z|z
  ·exact I.ok.noex b ob e z
  ·exact absurd (Nat.lt_of_lt_of_le (Heap.lt_size (I.ok.bs b ob e).1) z) (Nat.lt_irrefl _)
 ·rcases List.mem_cons.mp (I.stkSub b hs)with z|z
  ·exact(hfp b hb).2.1 z
  ·exact(hfp b hb).2.2.1 z
 ·obtain⟨hfree,_,j,f1,f2⟩:=B.val σ i x v e1 e2
  obtain⟨m,hn,hl⟩:=I.loc;have hk:=B.free (x,.free) (PySem.mem_of_lookup hfree) rfl;obtain⟨u,ru,hu⟩:=hl j x v f1 f2 (hk.elim (λ z=>.inr (.inl z)) λ z=>.inr (.inr z));rcases hu with ⟨k,_⟩|⟨_,c,ec,ic⟩
  ·rcases hk with z|z
   ·exact absurd (k.symm.trans z) (by decide)
   ·exact absurd (k.symm.trans z) (by decide)
  ·refine⟨u,ru,.inr ⟨?_,c,aDe hfree ec,ic.keeps keep⟩⟩
   rcases hv with z|z|z
   ·have z':(relabel scope X.env).names.lookup x=some .local:=z
    rcases aBp (env:=X.env) hfree with y|y
    ·exact absurd (z'.symm.trans y) (by decide)
    ·exact absurd (z'.symm.trans y) (by decide)
   ·exact .inl z
   ·exact .inr z
 ·obtain⟨v,ic⟩:=I.cell x c (hcl x c e)
  exact⟨v,ic.keeps keep⟩
 ·show upd H D o C=none
  rw[bZ (Ne.symm hDC)];exact I.hok.fresh hC
 ·show upd H D o c=none
  obtain⟨v,ic⟩:=I.cell x c (hcl x c e);rw[bZ (Nat.ne_of_lt (Nat.lt_of_lt_of_le ic.lt hD))];exact I.freeC x c (hcl x c e)
end
section
variable{prog:Program}{w:World}{A:Around}{R:Result->Shared->Prop}{s:Shared}
theorem aCN(I:Nat->Shared->Prop)
  (turn:∀n s,I n s->wpAny (model prog w) A (pyNext it) (λ r s₁=>match r with
   |none=>R (.ok .next) s₁
   |some v=>wpAny (model prog w) A (letOwnedTupleGo target it v) (λ _ s₁=>wpAny (model prog w) A (assign target env v) (λ _ s₂=>
     wpAny (model prog w) A (forIn ifs true λ c r=>if r=true then do let ok <-isTrue c env (eval c env);pure (ForInStep.yield ok)else pure (ForInStep.yield r)) (λ ok s₃=>
      if ok=true then wpAny (model prog w) A (eval elt env) (λ x s₄=>
       wpAny (model prog w) A (call (.builtin "list.append") [acc,x]) (λ _ s₅=>∃m,m<n/\I m s₅) (λ _ _=>False) s₄) (λ _ _=>False) s₃
      else∃m,m<n/\I m s₃) (λ _ _=>False) s₂) (λ _ _=>False) s₁) (λ _ _=>False) s₁) (λ _ _=>False) s)
  (n:Nat)(h:I n s):codeAny (model prog w) A (.compLoop (.ListComp elt [⟨target,iter,ifs,0⟩] scope pos) 0 it acc env) R s:=by
 refine codeAny_loop rfl I (λ n s hI=>?_) n h;show wpAny _ A ((compTurn (.ListComp elt [⟨target,iter,ifs,0⟩] scope pos) 0 it acc env).onRaise (λ x=>do noteFrame x env;theTreesLotGoes x)) _ _ s;refine wpAny_noted ?_;rw[compTurn_list];refine wpAny_bind (wpAny_standAt (wpAny_bind (wpAny_mono (turn n s hI) (λ r s₁ h₁=>?_) λ _ _ h'=>h'.elim)));cases r with
 |none=>exact wpAny_pure h₁
 |some v=>
  refine wpAny_bind (wpAny_mono h₁ (λ _ s₁ h₁=>?_) λ _ _ h'=>h'.elim);refine wpAny_bind (wpAny_mono h₁ (λ _ s₂ h₂=>wpAny_bind (wpAny_mono h₂ (λ ok s₃ h₃=>?_) λ _ _ h'=>h'.elim)) λ _ _ h'=>h'.elim);cases ok with
  |false=>exact wpAny_pure ⟨rfl,h₃⟩
  |true=>
   exact wpAny_bind (wpAny_bind (wpAny_mono h₃ (λ x s₄ h₄=>wpAny_bind (wpAny_mono h₄ (λ _ s₅ h₅=>wpAny_pure (wpAny_pure ⟨rfl,h₅⟩)) λ _ _ h'=>h'.elim)) λ _ _ h'=>h'.elim))
end
def p6(g:TG)(ks:List Nat):Prop:=∀v σ H (Q:St->Hp->Prop),g v σ H Q->g v σ H (λ σ' H'=>Q σ' H'/\σ'.length=σ.length/\∀k,k∉ks->σ'[k]? =σ[k]?)
def aA1(g:TGs)(ks:List Nat):Prop:=∀vs σ H (Q:St->Hp->Prop),g vs σ H Q->g vs σ H (λ σ' H'=>Q σ' H'/\σ'.length=σ.length/\∀k,k∉ks->σ'[k]? =σ[k]?)
theorem aKn(h:i∈ks):p6 (xK i) ks:=λ v σ H Q q=>⟨q,List.length_set,λ k hk=>List.getElem?_set_ne (λ(e:i=k)=>hk (e▸h))⟩
theorem aKm:aA1 aNY ks:=λ vs σ H Q ⟨e,q⟩=>⟨e,q,rfl,λ _ _=>rfl⟩
def aB3(g:TG):Prop:=∀v σ H (Q Q':St->Hp->Prop),(∀σ' H',Q σ' H'->Q' σ' H')->g v σ H Q->g v σ H Q'
def w6(g:TGs):Prop:=∀v σ H (Q Q':St->Hp->Prop),(∀σ' H',Q σ' H'->Q' σ' H')->g v σ H Q->g v σ H Q'
theorem aKp:aB3 (xK i):=λ v σ H Q Q' imp q=>imp _ _ q
theorem aKo:w6 aNY:=λ v σ H Q Q' imp ⟨e,q⟩=>⟨e,imp _ _ q⟩
theorem aIj(h1:aB3 t)(h2:w6 u):w6 (aIl t u):=λ vs σ H Q Q' imp ⟨v,r,e,q⟩=>⟨v,r,e,h1 _ _ _ _ _ (λ σ' H' q'=>h2 _ _ _ _ _ imp q') q⟩
theorem aIf(h1:p6 t ks)(m1:aB3 t)(h2:aA1 u ks)(m2:w6 u):aA1 (aIl t u) ks:=λ vs σ H Q ⟨v,r,e,q⟩=>
 ⟨v,r,e,m1 _ _ _ _ _ (λ σ' H' ⟨q',l',k'⟩=>m2 _ _ _ _ _ (λ σ2 H2 ⟨q2,l2,k2⟩=>⟨q2,l2.trans l',λ k hk=>(k2 k hk).trans (k' k hk)⟩) (h2 _ _ _ _ q')) (h1 _ _ _ _ q)⟩
theorem wR{K:PySem.W.Frag}(h:aA1 t ks):p6 (aKq K n t) ks:=λ v σ H Q ⟨a,xs,e1,e2,e3,q⟩=>⟨a,xs,e1,e2,e3,h _ _ _ _ q⟩
theorem aNX{K:PySem.W.Frag}(h:w6 t):aB3 (aKq K n t):=λ v σ H Q Q' imp ⟨a,xs,e1,e2,e3,q⟩=>⟨a,xs,e1,e2,e3,h _ _ _ _ _ imp q⟩
def aC2(X:Cx)(ifs:List Expr)(t:TT):Prop:=
 ∀(pins:List (Addr×Obj)) (s:Shared) (σ:St) (H:Hp) (Q:Bool->Hp->Prop),Inv X pins σ H s->t σ H Q->
  wpAny (model X.prog X.w) X.A (forIn ifs true λ c r=>if r=true then do let ok <-isTrue c X.env (eval c X.env);pure (ForInStep.yield ok)else pure (ForInStep.yield r)) (TP X pins σ Q) X.xe s
def aOq:TT:=λ _ H Q=>Q true H
theorem aM0:aC2 X [] aOq:=λ _ _ _ H _ I h=>wpAny_tests_nil ⟨H,I,h⟩
theorem aMZ(h:PT X c t):aC2 X [c] t:=λ pins s σ H Q I q=>wpAny_tests_one (h pins s σ H Q I q)
def tLC(wi:TI)(st:St->St)(g:TG)(tt:TT)(te:TE):TE:=λ σ H Q=>wi σ H λ J H1=>∀l,H1 l=none->∃W:Nat->Nat->List V->Hp->Prop,(∃m,W 0 m [] (upd H1 l (.lst [])))/\
 ∀i m acc H2,W i m acc H2->H2 l=some (.lst acc)/\acc.length<sizeLine/\((J.stop i H2/\Q (.ref l) H2)\/(J.go i H2/\∀x H3,J.yld i H2 x H3->g x (st σ) H3 λ σ4 H4=>tt σ4 H4 λ ok H5=>
  if ok=true then te σ4 H5 λ y H6=>H6 l=some (.lst acc)/\∃m',m'<m/\W (i+1) m' (acc++[y]) (upd H6 l (.lst (acc++[y])))else∃m',m'<m/\W (i+1) m' acc H5))
section
variable{X:Cx}{elt tg iter:Expr}{ifs:List Expr}{scope:Scope}{pos:Pos}{N:List Str}{st:St->St}{ks:List Nat}{wi:TI}{g:TG}{tt:TT}{te:TE}
theorem aDO(B:iQ X scope N st ks)(hc:X.calm=true)(hg:∀C fp s₀ H₀,PG (X.block scope C N fp s₀ H₀) tg g)(hgo:p6 g ks)(ht:∀C fp s₀ H₀,aC2 (X.block scope C N fp s₀ H₀) ifs tt)
  (he:∀C fp s₀ H₀,PE (X.block scope C N fp s₀ H₀) elt te){H1:Hp}{Q:VK}{RR:Value->Addr->Result->Shared->Prop}
  (I:Inv X pins σ H1 s₂)(T:Turn X.prog X.w X.K tg J fp it tn)(h0:tn 0 s₂.heap)(hfp:∀b∈fp,uO X pins H1 b)
  (h:∀l,H1 l=none->∃W:Nat->Nat->List V->Hp->Prop,(∃m,W 0 m [] (upd H1 l (.lst [])))/\
   ∀i m acc H2,W i m acc H2->H2 l=some (.lst acc)/\acc.length<sizeLine/\((J.stop i H2/\Q (.ref l) H2)\/(J.go i H2/\∀x H3,J.yld i H2 x H3->g x (st σ) H3 λ σ4 H4=>tt σ4 H4 λ ok H5=>
    if ok=true then te σ4 H5 λ y H6=>H6 l=some (.lst acc)/\∃m',m'<m/\W (i+1) m' (acc++[y]) (upd H6 l (.lst (acc++[y])))else∃m',m'<m/\W (i+1) m' acc H5)))
  (hRR:∀D C H' s',(∃σ',Inv (X.block scope C N fp s₂ H1) [] σ' H' s')->s₂.heap.objs.size<=C->Q (.ref D) H'->RR (.ref D) C (.ok .next) s'):
  wpAny (model X.prog X.w) X.A (newList []) (λ acc s₃=>wpAny (model X.prog X.w) X.A (newFunctionEnv scope X.env.globals (cj scope X.env) [] X.env.qual none .none (some X.env)) (λ cenv s₄=>
   codeAny (model X.prog X.w) X.A (.compStart (.ListComp elt [⟨tg,iter,ifs,0⟩] scope pos) 0 (.ref it) acc {cenv with scope:=relabel scope X.env}) (RR acc cenv.locals) s₄) E s₃) E s₂:=by
 refine wpAny_newObj_type (wpAny_newFunctionEnv B.cell (by intro y hy;simp at hy) (λ h₁ hns₁ hsb₁=>?_) B.kind);dsimp only at hns₁ hsb₁ ⊢;generalize hH2:s₂.heap.push {cls:=.type "list",dict:=none,data:=.seq ([]:List Value).toArray}=P2 at hns₁ hsb₁ ⊢;have hC:P2.objs.size=s₂.heap.objs.size+1:=by rw[<-hH2,Heap.size_push]
 have hDC:s₂.heap.objs.size≠P2.objs.size:=by rw[hC];exact Nat.ne_of_lt (Nat.lt_succ_self _)
 have hCle:s₂.heap.objs.size<=P2.objs.size:=by rw[hC];exact Nat.le_succ _
 have old:∀b o,s₂.heap.get? b=some o->h₁.get? b=some o:=λ b o e=>
  hsb₁.extBut b o (by rw[hC];exact Nat.ne_of_lt (Nat.lt_succ_of_lt (Heap.lt_size e))) (Heap.get?_push_of_some _ (hH2▸Heap.get?_push_of_some _ e))
 have hacc:h₁.get? s₂.heap.objs.size=some {cls:=.type "list",dict:=none,data:=.seq ([]:List Value).toArray}:=hsb₁.extBut _ _ hDC (Heap.get?_push_of_some _ (hH2▸Heap.get?_push_size _ rfl));generalize hCe:P2.objs.size=C at hns₁ hsb₁ hDC hCle ⊢;have hHD:H1 s₂.heap.objs.size=none:=I.hok.fresh (Nat.le_refl _);have I0:Inv (X.block scope C N fp s₂ H1) [] (st σ) (upd H1 s₂.heap.objs.size (.lst [])) {s₂ with heap:=h₁,toks:=s₂.toks+([]:List (Str×Value)).length}:=
  I.block B hfp (λ b hb=>by obtain⟨o,e,_⟩:=T.obj 0 _ h0 b hb;exact⟨o,e⟩) (Nat.le_refl _) hCle hDC old (by simpa using hns₁) ⟨Nat.zero_le _,[],0,.nil,hacc⟩
 obtain⟨W,⟨m0,w0⟩,step⟩:=h _ hHD;have h01:tn 0 h₁:=T.keep 0 _ _ h0 λ b _ o e=>old b o e
 have stat:∀{H':Hp},(∀b∈fp,H' b=none)->∀b∈fp,uO (X.block scope C N fp s₂ H1) [] H' b:=λ{H'} hn b hb=>
  ⟨hn b hb,(I0.ok.exf b hb).1,I0.ok.exfs b hb,.inl hb,λ x c e=>(I0.ok.exf b hb).2 x c e,λ p hp=>absurd (show p∈([]:List (Addr×Obj))from hp) (by simp)⟩
 have fr0:∀b∈fp,upd H1 s₂.heap.objs.size (.lst []) b=none:=λ b hb=>by
  obtain⟨o,e,_⟩:=T.obj 0 _ h0 b hb;rw[bZ (Nat.ne_of_lt (Heap.lt_size e))];exact(hfp b hb).1
 have loop:∀s₃:Shared,s₃={s₂ with heap:=h₁,toks:=s₂.toks+([]:List (Str×Value)).length}->
   codeAny (model X.prog X.w) X.A (.compLoop (.ListComp elt [⟨tg,iter,ifs,0⟩] scope pos) 0 (.ref it) (.ref s₂.heap.objs.size) (X.block scope C N fp s₂ H1).env) (RR (.ref s₂.heap.objs.size) C) s₃:=by
  rintro s₃ rfl;refine aCN (λ n s'=>∃i acc H2,Inv (X.block scope C N fp s₂ H1) [] (st σ) H2 s'/\tn i s'.heap/\(∀b∈fp,H2 b=none)/\W i n acc H2) ?_ m0 ⟨0,[],_,I0,h01,fr0,w0⟩;rintro n s3 ⟨i,acc,H2,I2,st2,fr2,w2⟩;obtain⟨hl,hz,alt⟩:=step i n acc H2 w2;rcases alt with ⟨stop,q⟩|⟨go,nxt⟩
  ·refine thn (T.done (X.block scope C N fp s₂ H1) rfl rfl rfl hc i [] s3 (st σ) H2 _ I2 (stat fr2) st2 stop) λ r s4 ⟨hr,I4⟩=>?_
   subst hr;exact hRR _ C H2 s4 ⟨_,I4⟩ hCle q
  ·refine thn (T.item (X.block scope C N fp s₂ H1) rfl rfl rfl hc i [] s3 (st σ) H2 _ I2 (stat fr2) st2 go) λ r s4 ⟨u,hr,h4⟩=>?_
   subst hr;refine thn h4 λ _ s5 ⟨x,H5,I5,r5,y5,st5,fr5⟩=>?_
   have I5':=I5.pinned (stat fr5) (T.obj _ _ st5);refine thn (hg C fp s₂ H1 _ s5 (st σ) H5 x u _ I5' r5 (hgo _ _ _ _ (nxt x H5 y5))) λ _ s6 ⟨σ6,H6,I6,q6,aGZ,ag6⟩=>?_
   refine thn (ht C fp s₂ H1 _ s6 σ6 H6 _ I6 q6) λ ok s7 ⟨H7,I7,q7⟩=>?_
   have again:∀{H9:Hp} {s9:Shared} {acc':List V},Inv (X.block scope C N fp s₂ H1) ([]++uD fp s5.heap) σ6 H9 s9->(∃m',m'<n/\W (i+1) m' acc' H9)->
     ∃m,m<n/\∃i acc H2,Inv (X.block scope C N fp s₂ H1) [] (st σ) H2 s9/\tn i s9.heap/\(∀b∈fp,H2 b=none)/\W i m acc H2:=λ{H9 s9 acc'} I9 ⟨m',hm,w9⟩=>by
    have pin9:∀b∈fp,∀o,s5.heap.get? b=some o->s9.heap.get? b=some o/\H9 b=none:=λ b hb o e=>by
     have z:=I9.pin (b,o) (List.mem_append_right _ (List.mem_append_right _ (mO hb e)));exact⟨z.1,z.2.1⟩
    refine⟨m',hm,i+1,acc',H9,I9.unpinned.weak (by rw[aGZ]) (λ k v e=>?_),T.keep _ _ _ st5 λ b hb o e=>(pin9 b hb o e).1,λ b hb=>?_,w9⟩
    ·have hk:k<(st σ).length:=(List.getElem?_eq_some_iff.mp e).1
     have hkN:k<N.length:=by rw[<-B.len σ];exact hk
     obtain⟨_,hks,_⟩:=B.val σ k _ v (List.getElem?_eq_getElem hkN) e;rw[ag6 k hks];exact e
    ·obtain⟨o,e,_⟩:=T.obj _ _ st5 b hb
     exact(pin9 b hb o e).2
   cases ok with
   |false=>
    rw[if_neg Bool.false_ne_true]at q7 ⊢;exact again I7 q7
   |true=>
    rw[if_pos rfl]at q7 ⊢;refine thn (he C fp s₂ H1 _ s7 σ6 H7 _ I7 q7) λ u8 s8 ⟨y,H8,I8,r8,hl8,q8⟩=>?_
    refine thn (wK _ s8 σ6 H8 (.ref s₂.heap.objs.size) [y] (.ref s₂.heap.objs.size) [u8] (λ _ H9=>H9=upd H8 s₂.heap.objs.size (.lst (acc++[y]))) I8 rfl (.cons r8 .nil) ⟨_,acc,y,rfl,rfl,hl8,hz,rfl⟩) λ _ s9 ⟨_,H9,I9,_,e9⟩=>?_
    subst e9;exact again I9 q8
 exact codeAny_compStart_list (loop _ rfl) (T.self X.A 0 _ _ _ h01 (loop _ rfl))
theorem aCW(I:Inv X pins σ H1 s₂)(hfp:∀b∈fp,uO X pins H1 b)(h:∃σ',Inv (X.block scope C N fp s₂ H1) [] σ' H' s'):Inv X pins σ H' s':=by
 obtain⟨σ',J⟩:=h;exact I.call' (ch:=fp) J.os J.base J.hok J.bare λ b hb=>⟨(hfp b hb).2.2.2.1,(hfp b hb).2.1,(hfp b hb).2.2.2.2.1,(hfp b hb).2.2.2.2.2⟩
theorem aOT(B:iQ X scope N st ks)(hc:X.calm=true)(hi:PI X tg iter wi)(hg:∀C fp s₀ H₀,PG (X.block scope C N fp s₀ H₀) tg g)(hgo:p6 g ks)(ht:∀C fp s₀ H₀,aC2 (X.block scope C N fp s₀ H₀) ifs tt)
  (he:∀C fp s₀ H₀,PE (X.block scope C N fp s₀ H₀) elt te)(hs:∀x,foldedSetIterable iter X.env x=pure x:=by intro _;rfl):PE X (.ListComp elt [⟨tg,iter,ifs,0⟩] scope pos) (tLC wi st g tt te):=by
 intro pins s σ H Q I h;have hcl:closureFor scope X.env=pure (cj scope X.env):=nu λ y hy hk=>I.ok.has _ (B.free y hy hk)
 rw[eval_ListComp];refine wpAny_comprehension_free (use:=none) rfl hs hcl B.kind B.loc (thn (hi pins s σ H _ I h) λ v s1 h1=>thn h1 λ itv s2 h2=>?_);obtain⟨it,fp,tn,J,H2,e,I2,T,st2,f2,hq⟩:=h2;subst e;refine aDO (RR:=λ acc C=>compPost (model X.prog X.w) X.A X.xe none (EP X pins σ Q) acc C) B hc hg hgo ht he I2 T st2 f2 hq ?_;intro D C H' s' hJ hCle q;have I3:=aCW I2 f2 hJ;obtain⟨σ',J'⟩:=hJ;obtain⟨m,hn,_⟩:=id J'.loc;have hHC:H' C=none:=J'.free;refine⟨m,hn,λ h'' hs''=>⟨.ref D,H',?_,rfl,q⟩⟩;exact I3.turned (t':=s'.toks) (λ b o ne e=>(hs''.2 b ne).trans e) hHC (Nat.ne_of_gt (Nat.lt_of_lt_of_le I2.lt hCle)) (.inr (Nat.le_trans I2.sz hCle))
  (λ x c e z=>by obtain⟨v,ic⟩:=I2.cell x c e;exact absurd (Nat.lt_of_lt_of_le ic.lt (by rw[z];exact hCle)) (Nat.lt_irrefl _))
  (λ p hp z=>absurd (Nat.lt_of_lt_of_le (Heap.lt_size (I2.pin p hp).1) (by rw[z];exact hCle)) (Nat.lt_irrefl _))
theorem aCv(hN:X.N.Nodup)(hx1:X.N[i]? =some x)(hx2:Loc X.env.scope x)(B:iQ X scope N st ks)(hc:X.calm=true)(hi:PI X tg iter wi)(hg:∀C fp s₀ H₀,PG (X.block scope C N fp s₀ H₀) tg g)(hgo:p6 g ks)
  (ht:∀C fp s₀ H₀,aC2 (X.block scope C N fp s₀ H₀) ifs tt)(he:∀C fp s₀ H₀,PE (X.block scope C N fp s₀ H₀) elt te)(hsw:swapsWith (.ListComp elt [⟨tg,iter,ifs,0⟩] scope pos) (some (.Name x pos')) spos.line X.env=pure true)
  (hs:∀x,foldedSetIterable iter X.env x=pure x:=by intro _;rfl)(hf:X.fn x=true\/X.env.scope.names.lookup x=some .local:=by first|exact .inl rfl|exact .inr rfl|assumption):
  PS X (.Assign [.Name x pos'] (.ListComp elt [⟨tg,iter,ifs,0⟩] scope pos) spos) (aHG (tLC wi st g tt te) (xK i)):=by
 intro pins s σ H D I h;have hcl:closureFor scope X.env=pure (cj scope X.env):=nu λ y hy hk=>I.ok.has _ (B.free y hy hk)
 rw[exec_Assign_Name_used _ _ _ _ hsw];refine wpAny_bind (wpAny_standAt (wpAny_bind ?_));show wpAny _ _ (do let _ <-comprehension (.ListComp elt [⟨tg,iter,ifs,0⟩] scope pos) scope X.env _ (newList []) false (eval iter X.env) (some (assign (.Name x pos') X.env))) _ _ s;refine wpAny_bind (wpAny_mono (wpAny_comprehension_free (use:=some (assign (.Name x pos') X.env)) (Q:=λ _ s'=>SP X pins D .next s') rfl hs hcl B.kind B.loc (thn (hi pins s σ H _ I h) λ v s1 h1=>thn h1 λ itv s2 h2=>?_)) (λ _ s' hq=>wpAny_pure (wpAny_pure hq)) λ _ _ e=>e);obtain⟨it,fp,tn,J,H2,e,I2,T,st2,f2,hq⟩:=h2;subst e;refine aDO (Q:=λ x H1=>xK i x σ H1 D.nx) (RR:=λ acc C=>compPost (model X.prog X.w) X.A X.xe (some (assign (.Name x pos') X.env)) (λ _ s'=>SP X pins D .next s') acc C) B hc hg hgo ht he I2 T st2 f2 hq ?_;intro DD C H' s' hJ hCle q;have I3:=aCW I2 f2 hJ;obtain⟨σ',J'⟩:=hJ;obtain⟨m,hn,_⟩:=id J'.loc;have hHC:H' C=none:=J'.free;have neL:C≠X.env.locals:=Nat.ne_of_gt (Nat.lt_of_lt_of_le I2.lt hCle);have neC:∀x c,X.env.cells.lookup x=some c->c≠C:=λ x c e z=>by obtain⟨v,ic⟩:=I2.cell x c e;exact absurd (Nat.lt_of_lt_of_le ic.lt (by rw[z];exact hCle)) (Nat.lt_irrefl _)
 show wpAny _ _ (assign (.Name x pos') X.env (.ref DD)) _ _ _;refine wpAny_assign_Name ?_;refine aAp I3 hN hx1 hx2 (show RelV (.ref DD) (.ref DD)from rfl) (λ s4 I4 ⟨a,hsa,ha⟩=>?_) hf;have nea:C≠a:=by
  rcases ha with z|z
  ·rw[z];exact neL
  ·exact Ne.symm (neC _ _ z)
 refine⟨m,hn.sameBut hsa nea,λ h'' hs''=>⟨_,H',?_,q⟩⟩;exact I4.turned (t':=s4.toks) (λ b o ne e=>(hs''.2 b ne).trans e) hHC neL (.inr (Nat.le_trans I2.sz hCle)) neC
  (λ p hp z=>absurd (Nat.lt_of_lt_of_le (Heap.lt_size (I2.pin p hp).1) (by rw[z];exact hCle)) (Nat.lt_irrefl _))
end
def CX1(P:Program)(w:World):CXT:=λ outer H s E e s'=>∃(ea:Addr) (cls a0:Value) (B:Heap) (H':Hp),e= .ref ea/\s'.os=s.os/\AllBare s'.gens/\Un (frs outer) [] H H' s.heap s'.heap/\HOk P w H' B/\Heap.FlyingW B outer ea cls a0 s'.heap/\
 (∀b o,s.heap.get? b=some o->H b=none->b∉frs outer->B.get? b=some o)/\(∀b o,s.heap.get? b=some o->b∉frs outer->∃o',B.get? b=some o')/\E cls none H'
structure nF(X:Cx)(E:XK):Prop where
 stk:X.stack=X.env::X.outer
 fr:X.env.frame=some X.env.locals
 ex:X.ex=[]
 xe:X.xe=λ e s'=>wpAny (model X.prog X.w) X.A (leaving X.env e) (λ _ s''=>CX1 X.prog X.w X.outer X.H₀ X.s₀ E e s'') (λ e' s''=>CX1 X.prog X.w X.outer X.H₀ X.s₀ E e' s'') s'
theorem nF.of{K:PySem.W.Frag}:
  nF (aDa (CX1 P w) P w K mg base N qual scope f cd A outer s₀ H₀ E) E:=⟨rfl,rfl,rfl,rfl⟩
section
variable{X:Cx}{E:XK}
theorem aIo{B h':Heap}(hX:X.ex=[])(I:Inv X pins σ H s)
  (a1:∀b o,s.heap.get? b=some o->H b=none->b∉frs X.stack->B.get? b=some o)(a2:∀b o,s.heap.get? b=some o->b∉frs X.stack->∃o',B.get? b=some o')
  (a3:B.StaysIn h')(a4:∀b o,b∈frs X.outer->s.heap.get? b=some o->H b=none->(∀vs,o.data≠.fields vs)->∃sl,h'.get? b=some {o with slots:=sl})
  (a5:∀b o,s.heap.get? b=some o->H b=none->H' b=none)(a6:∀b xs,H b=some (.tup xs)->H' b=some (.tup xs))(a7:∀b o u,H b=some (.frz o u)->H' b=some (.frz o u))(a8:∀b ps,H b=some (.tbl ps)->∃more,H' b=some (.tbl (ps++more))):
  Un (frs X.outer) [] X.H₀ H' X.s₀.heap h'/\(∀b o,X.s₀.heap.get? b=some o->X.H₀ b=none->b∉frs X.outer->B.get? b=some o)/\(∀b o,X.s₀.heap.get? b=some o->b∉frs X.outer->∃o',B.get? b=some o'):=by
 have nx:∀b,b∉X.ex:=λ b z=>by rw[hX]at z;cases z
 have noS:∀b o,X.s₀.heap.get? b=some o->b∉frs X.outer->b∉frs X.stack:=λ b o e nf hb=>by
  rcases List.mem_cons.mp (I.stkSub b hb)with z|z
  ·exact absurd z (Nat.ne_of_lt (Nat.lt_of_lt_of_le (Heap.lt_size e) I.ok.above))
  ·exact nf z
 have bk:∀b o,X.s₀.heap.get? b=some o->X.H₀ b=none->b∉frs X.outer->B.get? b=some o:=λ b o e n nf=>
  a1 b o (I.base.keep b o e n nf (nx b)) (I.base.free b o e n (nx b)) (noS b o e nf)
 have ba:∀b o,X.s₀.heap.get? b=some o->b∉frs X.outer->∃o',B.get? b=some o':=λ b o e nf=>by
  obtain⟨o1,e1⟩:=I.base.there b o e (nx b);exact a2 b o1 e1 (noS b o e nf)
 have sl:∀b o,X.s₀.heap.get? b=some o->X.H₀ b=none->b∈frs X.outer->∃sl,h'.get? b=some {o with slots:=sl}:=λ b o e n hb=>by
  obtain⟨sl1,e1⟩:=I.base.slot b o e n hb (nx b);obtain⟨_,o2,ho2,hnf⟩:=I.ok.funs.mem hb;rw[e]at ho2;cases ho2;obtain⟨sl2,e2⟩:=a4 b _ hb e1 (I.base.free b o e n (nx b)) hnf;exact⟨sl2,e2⟩
 refine⟨⟨λ b o e n nf _=>a3 b o (bk b o e n nf),λ b o e n hb _=>sl b o e n hb,λ b o e n _=>?_,λ b o e _=>?_,λ b xs e=>a6 b xs (I.base.tups b xs e),λ b o u e=>a7 b o u (I.base.frzs b o u e),λ b ps e=>?_⟩,bk,ba⟩
 ·obtain⟨o1,e1⟩:=I.base.there b o e (nx b)
  exact a5 b o1 e1 (I.base.free b o e n (nx b))
 ·by_cases hb:b∈frs X.outer
  ·obtain⟨s2,e2⟩:=sl b o e (I.ok.frf b hb) hb
   exact⟨_,e2⟩
  ·obtain⟨o',e'⟩:=ba b o e hb
   exact⟨o',a3 b o' e'⟩
 ·obtain⟨m1,e1⟩:=I.base.tbls b ps e
  obtain⟨m2,e2⟩:=a8 b _ e1;exact⟨m1++m2,by rw[e2,Array.append_assoc]⟩
theorem nF.pass(D:nF X E):aC1 (CX1 X.prog X.w) X E:=by
 intro pins σ H s e s' I h;obtain⟨ea,cls,a0,B,H',rfl,os,bare,un,hok,fly,bk,ba,hE⟩:=h;rw[D.xe];have fly':=fly;rw[D.stk]at fly';have hfr:=I.ok.frames;rw[D.stk]at hfr;refine wpAny_leaves_onW (L:=X.env.locals) hfr D.fr fly' λ h' fl up=>?_
 have a4:∀b o,b∈frs X.outer->s.heap.get? b=some o->H b=none->(∀vs,o.data≠.fields vs)->∃sl,h'.get? b=some {o with slots:=sl}:=λ b o hb e n nf=>by
  have hb':b∈frs X.stack:=by
   rw[D.stk];unfold frs;rw[List.filterMap_cons,D.fr];exact List.mem_cons_of_mem _ hb
  obtain⟨s1,e1⟩:=un.slot b o e n hb' (λ z=>nomatch z);obtain⟨s2,e2⟩:=up b _ e1 nf;exact⟨s2,e2⟩
 obtain⟨u1,u2,u3⟩:=aIo (B:=B) (h':=h') (H':=H') D.ex I bk ba fl.1 a4 (λ b o e n=>un.free b o e n (λ z=>nomatch z)) un.tups un.frzs un.tbls;exact⟨ea,cls,a0,B,H',rfl,os.trans I.os,bare,u1,hok,fl,u2,u3,hE⟩
theorem nF.raise(D:nF X E){ea:Addr}(I:Inv X pins σ H s)
  (hx:Heap.MadeExcOf s.heap h1 ea cls vs)(hE:E cls none H):X.xe (.ref ea) {s with heap:=h1}:=by
 rw[D.xe];have stk:s.heap.FunFrames X.base X.stack:=I.stack;have hin:∀env∈X.stack,∀a,env.frame=some a->a∈frs X.stack:=λ env he a ha=>List.mem_filterMap.mpr ⟨env,he,ha⟩
 have stk2:=PySem.W.funFrames_hide stk hin;have hfr:=I.ok.frames;rw[D.stk]at hfr;have stk3:s.heap.FunFrames (PySem.W.hideAll s.heap (frs X.stack)) (X.env::X.outer):=by rw[<-D.stk];exact stk2
 refine wpAny_leaves_madeW (L:=X.env.locals) (base:=PySem.W.hideAll s.heap (frs X.stack)) hfr D.fr (λ b o q=>PySem.W.of_hideAll _ q) stk3 hx λ h' t fl tup bn up=>?_
 have hok:HOk X.prog X.w H (PySem.W.hideAll s.heap (frs X.stack)):=λ a o e=>by
  refine(I.hok a o e).stay (λ b u hb q=>PySem.W.hideAll_get _ q λ hm=>?_) (λ _ z=>z) λ _ _ z=>z
  have hn:=I.stkFree b hm;rcases hb with z|z
  ·rw[z,e]at hn;cases hn
  ·rw[z]at hn;cases hn
 obtain⟨u1,u2,u3⟩:=aIo (B:=PySem.W.hideAll s.heap (frs X.stack)) (h':=h') (H':=H) D.ex I (λ b o e n nf=>PySem.W.hideAll_get _ e nf) (λ b o e nf=>⟨o,PySem.W.hideAll_get _ e nf⟩) fl.1
  (λ b o hb e n nf=>up b o (hx.keeps b o e) nf) (λ b o e n=>n) (λ _ _ e=>e) (λ _ _ _ e=>e) (λ b ps e=>⟨#[],by rw[e];simp⟩)
 exact⟨ea,cls,.ref t,_,H,rfl,I.os,I.bare,u1,hok,fl,u2,u3,hE⟩
theorem nF.own(D:nF X E):PassesOwn (model X.prog X.w) X.A X.env X.xe:=λ e s' h=>by
 rw[D.xe]at h ⊢;exact wpAny_leaving_again (SameStack.refl _) h
end
section
variable{P:Program}{w:World}{K:PySem.W.Frag}{mg:Str->Option Value}{base:Heap}
theorem Fun.okX{st:Stmt}(F:Fun K x q st f fd)(S:bD N ps (aR st))(len:∀vs H Q E,sp vs H Q E->vs.length=ps.length)
  (hbody:∀(cdv:Value) (A:Around) (outer:List Env) (s:Shared) (H:Hp) (vs:List V) (Q:VK) (E:XK),nH k (A.deeper (envOfC q (aR st) s.heap.objs.size f cdv))->sp vs H Q E->
   ∃t,PSs (aDa (CX1 P w) P w K mg base N q (aR st) f cdv A outer s H E) (lN st) t/\t {nx:=λ _ H'=>Q .non H',rt:=Q} (start N vs) H):dJ P w K mg base (CX1 P w) (k+1) f fd ps sp:=by
 obtain⟨oc,od,kV,doc,pm,an,cdv,ct,osl,rfl,lk,hcd⟩:=F.ex;exact aOd lk hcd S len λ A outer s H vs Q E hr hsp=>hbody cdv A outer s H vs Q E hr hsp
end
def aGr(K:PySem.W.Frag)(C:Addr):Prop:=PySem.W.excIn K C [.type "ValueError",.type "Exception",.type "BaseException",.type "object"] "ValueError.__new__"=true
theorem aMa{K:PySem.W.Frag}(X:K.In h)(hm:mg x=some (.ref C))(q:aGr K C):OwnCls x C [.type "ValueError",.type "Exception",.type "BaseException",.type "object"] "ValueError.__new__" mg h:=by
 refine⟨hm,?_⟩;unfold aGr PySem.W.excIn at q;split at q
 ·rename_i dd cd sl ho
  split at q
  ·rename_i C' bm k0 k1 k2 k3 n k5 hm' hs
   simp only[Bool.and_eq_true,beq_iff_eq,Bool.not_eq_true']at q;obtain⟨⟨⟨⟨⟨rfl,rfl⟩,hdel⟩,ht⟩,hok⟩,hni⟩:=q;obtain⟨nm,bs,mro,ns,qn,hd,sn,sub,ab,col,del⟩:=cd;dsimp only at hm' hdel hok hni;subst hm' hdel;have hsl:sl=#[k0,k1,k2,k3,some (.builtin "ValueError.__new__"),k5]:=by
    obtain⟨l⟩:=sl;simp only at hs;rw[hs]
   subst hsl;exact⟨bm,ns,nm,qn,bs,hd,sn,sub,ab,col,dd,k0,k1,k2,k3,k5,_,X _ _ ho,.of_isNs (PySem.W.isNs_of_in X hok),PySem.W.nsMap_none_of_in X hok hni,PySem.W.tail_of_in X ht⟩
  ·cases q
 ·cases q
def aLs(C:Addr)(E:XK)(ta:TA):TS:=λ _ σ H=>ta σ H λ vs H1=>vs.length<=sizeLine/\E (.ref C) none H1
section
variable{X:Cx}{E:XK}
theorem aHj(D:nF X E)(hc:X.calm=true){rest:List Expr}(hm:X.mg x=some (.ref C))(hC:aGr X.K C)(hg:Gl X x)
  (ha:PA X (e₀::rest) ta)(he:starEach (e₀::rest) X.env=(false,eval e₀ X.env)::starEach rest X.env:=by rfl)
  (hplain:(backTo cpos (starEach rest X.env)).any (·.1)=false:=by rfl)(hd:(x==("__debug__":Str))=false:=by decide):
  PS X (.Raise (some (.Call (.Name x np) (e₀::rest) [] cpos)) none pos) (aLs C E ta):=by
 intro pins s σ H DD I h;obtain⟨tl,NN,nm,q,bs,hdct,sn,sub,ab,col,dd,k0,k1,k2,k3,k5,mN,hCo,hN,hni,T⟩:=(aMa (h:=X.base) I.mod.kin hm hC).obj;have FB:=PySem.F.excBase_ValueError;refine wpAny_Raise_call_subU (C:=C) (nm:=nm) (q:=q) (N:=NN) (bs:=bs) (bm:=tl) (hdct:=hdct) (sn:=sn) (sub:=sub) (ab:=ab) (col:=col) (dd:=dd) (k0:=k0) (k1:=k1) (k2:=k2) (k3:=k3) (k5:=k5)
  FB FB.hasB FB (mN:=mN) (T.hasType FB.hasBase) (I.ok.hd hc) (by rw[he];show(false||(backTo cpos (starEach rest X.env)).any (·.1))=false;rw[hplain];rfl) hni
  (aCC I hg hm ⟨rfl,?_⟩ hd)
 have harg:=ha cpos pins s σ H _ I h;rw[he]at harg ⊢;refine Calls.evalArgs_plain (wpAny_mono harg (λ vs s₂ h₂=>?_) λ _ _ y=>y);obtain⟨xs,H2,I2,rv,hz,hE⟩:=h₂;refine⟨rfl,by show vs.length<=sizeLine;rw[<-rv.length];exact hz,I2.bk _ _ hCo,hN.keeps I2.bk,T.keeps I2.bk,λ h' ea hx=>D.raise I2 hx hE⟩
end
structure w5(d:Nat)(e tg iter:Expr)(ifs:List Expr)(body:Env->Addr->Sem Unit):Prop where
 under:∀(A:Around) (it:Value) (D:Addr) (env:Env),A.under (.compLoop e d it (.ref D) env)=A
 den:∀(prog:Program) (w:World) (it:Value) (D:Addr) (env:Env),(model prog w).den (.compLoop e d it (.ref D) env)=(compTurn e d it (.ref D) env).onRaise (λ x=>do noteFrame x env;theTreesLotGoes x)
 turn:∀(it:Value) (D:Addr) (env:Env),compTurn e d it (.ref D) env=(do
   standAt iter.pos
   match <-pyNext it with
   |none=>pure (.done .next)
   |some v=>
    letOwnedTupleGo tg it v
    assign tg env v
    let mut ok:=true
    for c in ifs do if ok then ok <-isTrue c env (eval c env)
    if ok then
     body env D
    again (.compLoop e d it (.ref D) env))
section
variable{s:Shared}{A:Around}{prog:Program}{w:World}{R:Result->Shared->Prop}
theorem vM{D:Addr}(hb:w5 d e tg iter ifs body)(I:Nat->Shared->Prop)
  (one:∀n s,I n s->wpAny (model prog w) A (pyNext it) (λ r s₁=>match r with
   |none=>R (.ok .next) s₁
   |some v=>wpAny (model prog w) A (letOwnedTupleGo tg it v) (λ _ s₁=>wpAny (model prog w) A (assign tg env v) (λ _ s₂=>
     wpAny (model prog w) A (forIn ifs true λ c r=>if r=true then do let ok <-isTrue c env (eval c env);pure (ForInStep.yield ok)else pure (ForInStep.yield r)) (λ ok s₃=>if ok=true then wpAny (model prog w) A (body env D) (λ _ s₅=>∃m,m<n/\I m s₅) (λ _ _=>False) s₃
      else∃m,m<n/\I m s₃) (λ _ _=>False) s₂) (λ _ _=>False) s₁) (λ _ _=>False) s₁) (λ _ _=>False) s)
  (n:Nat)(h:I n s):codeAny (model prog w) A (.compLoop e d it (.ref D) env) R s:=by
 refine codeAny_loop rfl I (λ n s hJ=>?_) n h;rw[hb.under,hb.den];refine wpAny_noted ?_;rw[hb.turn];refine wpAny_bind (wpAny_standAt (wpAny_bind (wpAny_mono (one n s hJ) (λ r s₁ h₁=>?_) λ _ _ h'=>h'.elim)));cases r with
 |none=>exact wpAny_pure h₁
 |some v=>
  refine wpAny_bind (wpAny_mono h₁ (λ _ s₁ h₁=>?_) λ _ _ h'=>h'.elim);refine wpAny_bind (wpAny_mono h₁ (λ _ s₂ h₂=>wpAny_bind (wpAny_mono h₂ (λ ok s₃ h₃=>?_) λ _ _ h'=>h'.elim)) λ _ _ h'=>h'.elim);cases ok with
  |false=>exact wpAny_pure (And.intro rfl h₃)
  |true=>exact wpAny_bind (wpAny_mono h₃ (λ _ s₄ h₄=>wpAny_pure ⟨rfl,h₄⟩) λ _ _ h'=>h'.elim)
end
def ye(d:Nat)(e:Expr):Prop:=∀{prog:Program} {w:World} {A:Around} {R:Result->Shared->Prop} {s:Shared} {it acc:Value} {env:Env},
  codeAny (model prog w) A (.compLoop e d it acc env) R s->
  wpAny (model prog w) A (pyIter it) (λ it' s'=>codeAny (model prog w) A (.compLoop e d it' acc env) R s') (notedBy (model prog w) A env λ x s'=>R (.error x) s') s->
  codeAny (model prog w) A (.compStart e d it acc env) R s
structure aJS(mk:Sem Value)(obs:Obj->Prop)(o:Addr->HO):Prop where
 make:∀{prog:Program} {w:World} {A:Around} {Q:Value->Shared->Prop} {E:Value->Shared->Prop} {s:Shared},(∀ob,obs ob->Q (.ref s.heap.objs.size) {s with heap:=s.heap.push ob})->wpAny (model prog w) A mk Q E s
 live:∀ob,obs ob->ob.isFreed=false
 ok:∀{P:Program} {w:World} {H:Hp} {h:Heap} {a:Addr} {ob:Obj},obs ob->h.get? a=some ob->sysModules<a->gm P w H h a (o a)
def PB(X:Cx)(body:Env->Addr->Sem Unit)(tb:Addr->St->Hp->(Hp->Prop)->Prop):Prop:=
 ∀(D:Addr) (pins:List (Addr×Obj)) (s:Shared) (σ:St) (H:Hp) (Q:Hp->Prop),Inv X pins σ H s->tb D σ H Q->wpAny (model X.prog X.w) X.A (body X.env D) (λ _ s'=>∃H',Inv X pins σ H' s'/\Q H') X.xe s
theorem aPI(I:Inv X pins σ H s):sysModules<s.heap.objs.size:=
 Nat.lt_trans (by decide) (I.mod.glob.keeps I.bk).lt
def aOB(o:Addr->HO)(wi:TI)(st:St->St)(g:TG)(tt:TT)(tb:Addr->St->Hp->(Hp->Prop)->Prop):TE:=λ σ H Q=>wi σ H λ J H1=>∀l,H1 l=none->∃W:Nat->Nat->Hp->Prop,(∃m,W 0 m (upd H1 l (o l)))/\
 ∀i m H2,W i m H2->((J.stop i H2/\Q (.ref l) H2)\/(J.go i H2/\∀x H3,J.yld i H2 x H3->g x (st σ) H3 λ σ4 H4=>tt σ4 H4 λ ok H5=>
  if ok=true then tb l σ4 H5 λ H6=>∃m',m'<m/\W (i+1) m' H6 else∃m',m'<m/\W (i+1) m' H5))
section
variable{X:Cx}{e tg iter:Expr}{ifs:List Expr}{scope:Scope}{N:List Str}{st:St->St}{ks:List Nat}{wi:TI}{g:TG}{tt:TT}{body:Env->Addr->Sem Unit}{tb:Addr->St->Hp->(Hp->Prop)->Prop}{pos:Pos}{mk:Sem Value}{obs:Obj->Prop}{o:Addr->HO}
theorem aJE(B:iQ X scope N st ks)(hc:X.calm=true)(hT:w5 0 e tg iter ifs body)(hS:ye 0 e)(hA:aJS mk obs o)(hg:∀C fp s₀ H₀,PG (X.block scope C N fp s₀ H₀) tg g)(hgo:p6 g ks)(ht:∀C fp s₀ H₀,aC2 (X.block scope C N fp s₀ H₀) ifs tt)
  (he:∀C fp s₀ H₀,PB (X.block scope C N fp s₀ H₀) body tb){Q:VK}{RR:Value->Addr->Result->Shared->Prop}
  (I:Inv X pins σ H1 s₂)(T:Turn X.prog X.w X.K tg J fp it tn)(h0:tn 0 s₂.heap)(hfp:∀b∈fp,uO X pins H1 b)
  (h:∀l,H1 l=none->∃W:Nat->Nat->Hp->Prop,(∃m,W 0 m (upd H1 l (o l)))/\
   ∀i m H2,W i m H2->((J.stop i H2/\Q (.ref l) H2)\/(J.go i H2/\∀x H3,J.yld i H2 x H3->g x (st σ) H3 λ σ4 H4=>tt σ4 H4 λ ok H5=>
    if ok=true then tb l σ4 H5 λ H6=>∃m',m'<m/\W (i+1) m' H6 else∃m',m'<m/\W (i+1) m' H5)))
  (hRR:∀D C H' s',(∃σ',Inv (X.block scope C N fp s₂ H1) [] σ' H' s')->s₂.heap.objs.size<=C->Q (.ref D) H'->RR (.ref D) C (.ok .next) s'):
  wpAny (model X.prog X.w) X.A mk (λ acc s₃=>wpAny (model X.prog X.w) X.A (newFunctionEnv scope X.env.globals (cj scope X.env) [] X.env.qual none .none (some X.env)) (λ cenv s₄=>
   codeAny (model X.prog X.w) X.A (.compStart e 0 (.ref it) acc {cenv with scope:=relabel scope X.env}) (RR acc cenv.locals) s₄) E s₃) E s₂:=by
 refine hA.make λ ob hob=>wpAny_newFunctionEnv B.cell (by intro y hy;simp at hy) (λ h₁ hns₁ hsb₁=>?_) B.kind
 dsimp only at hns₁ hsb₁ ⊢;generalize hH2:s₂.heap.push ob=P2 at hns₁ hsb₁ ⊢;have hC:P2.objs.size=s₂.heap.objs.size+1:=by rw[<-hH2,Heap.size_push]
 have hDC:s₂.heap.objs.size≠P2.objs.size:=by rw[hC];exact Nat.ne_of_lt (Nat.lt_succ_self _)
 have hCle:s₂.heap.objs.size<=P2.objs.size:=by rw[hC];exact Nat.le_succ _
 have old:∀b o,s₂.heap.get? b=some o->h₁.get? b=some o:=λ b o e=>
  hsb₁.extBut b o (by rw[hC];exact Nat.ne_of_lt (Nat.lt_succ_of_lt (Heap.lt_size e))) (Heap.get?_push_of_some _ (hH2▸Heap.get?_push_of_some _ e))
 have hacc:h₁.get? s₂.heap.objs.size=some ob:=hsb₁.extBut _ _ hDC (Heap.get?_push_of_some _ (hH2▸Heap.get?_push_size _ (hA.live ob hob)));generalize hCe:P2.objs.size=C at hns₁ hsb₁ hDC hCle ⊢;have hHD:H1 s₂.heap.objs.size=none:=I.hok.fresh (Nat.le_refl _);have I0:Inv (X.block scope C N fp s₂ H1) [] (st σ) (upd H1 s₂.heap.objs.size (o s₂.heap.objs.size)) {s₂ with heap:=h₁,toks:=s₂.toks+([]:List (Str×Value)).length}:=
  I.block B hfp (λ b hb=>by obtain⟨o,e,_⟩:=T.obj 0 _ h0 b hb;exact⟨o,e⟩) (Nat.le_refl _) hCle hDC old (by simpa using hns₁) (hA.ok hob hacc (aPI I))
 obtain⟨W,⟨m0,w0⟩,step⟩:=h _ hHD;have h01:tn 0 h₁:=T.keep 0 _ _ h0 λ b _ o e=>old b o e
 have stat:∀{H':Hp},(∀b∈fp,H' b=none)->∀b∈fp,uO (X.block scope C N fp s₂ H1) [] H' b:=λ{H'} hn b hb=>
  ⟨hn b hb,(I0.ok.exf b hb).1,I0.ok.exfs b hb,.inl hb,λ x c e=>(I0.ok.exf b hb).2 x c e,λ p hp=>absurd (show p∈([]:List (Addr×Obj))from hp) (by simp)⟩
 have fr0:∀b∈fp,upd H1 s₂.heap.objs.size (o s₂.heap.objs.size) b=none:=λ b hb=>by
  obtain⟨o,e,_⟩:=T.obj 0 _ h0 b hb;rw[bZ (Nat.ne_of_lt (Heap.lt_size e))];exact(hfp b hb).1
 have loop:∀sx:Shared,sx={s₂ with heap:=h₁,toks:=s₂.toks+([]:List (Str×Value)).length}->
   codeAny (model X.prog X.w) X.A (.compLoop e 0 (.ref it) (.ref s₂.heap.objs.size) (X.block scope C N fp s₂ H1).env) (RR (.ref s₂.heap.objs.size) C) sx:=by
  rintro sx rfl;refine vM hT (λ n s'=>∃i H2,Inv (X.block scope C N fp s₂ H1) [] (st σ) H2 s'/\tn i s'.heap/\(∀b∈fp,H2 b=none)/\W i n H2) ?_ m0 ⟨0,_,I0,h01,fr0,w0⟩;rintro n s3 ⟨i,H2,I2,st2,fr2,w2⟩;rcases step i n H2 w2 with ⟨stop,q⟩|⟨go,nxt⟩
  ·refine thn (T.done (X.block scope C N fp s₂ H1) rfl rfl rfl hc i [] s3 (st σ) H2 _ I2 (stat fr2) st2 stop) λ r s4 ⟨hr,I4⟩=>?_
   subst hr;exact hRR _ C H2 s4 ⟨_,I4⟩ hCle q
  ·refine thn (T.item (X.block scope C N fp s₂ H1) rfl rfl rfl hc i [] s3 (st σ) H2 _ I2 (stat fr2) st2 go) λ r s4 ⟨u,hr,h4⟩=>?_
   subst hr;refine thn h4 λ _ s5 ⟨x,H5,I5,r5,y5,st5,fr5⟩=>?_
   have I5p:=I5.pinned (stat fr5) (T.obj _ _ st5);refine thn (hg C fp s₂ H1 _ s5 (st σ) H5 x u _ I5p r5 (hgo _ _ _ _ (nxt x H5 y5))) λ _ s6 ⟨σ6,H6,I6,q6,aGZ,ag6⟩=>?_
   refine thn (ht C fp s₂ H1 _ s6 σ6 H6 _ I6 q6) λ ok s7 ⟨H7,I7,q7⟩=>?_
   have again:∀{H9:Hp} {s9:Shared},Inv (X.block scope C N fp s₂ H1) ([]++uD fp s5.heap) σ6 H9 s9->(∃m',m'<n/\W (i+1) m' H9)->
     ∃m,m<n/\∃i H2,Inv (X.block scope C N fp s₂ H1) [] (st σ) H2 s9/\tn i s9.heap/\(∀b∈fp,H2 b=none)/\W i m H2:=λ{H9 s9} I9 ⟨m',hm,w9⟩=>by
    have pin9:∀b∈fp,∀o,s5.heap.get? b=some o->s9.heap.get? b=some o/\H9 b=none:=λ b hb o e=>by
     have z:=I9.pin (b,o) (List.mem_append_right _ (List.mem_append_right _ (mO hb e)));exact⟨z.1,z.2.1⟩
    refine⟨m',hm,i+1,H9,I9.unpinned.weak (by rw[aGZ]) (λ k v e=>?_),T.keep _ _ _ st5 λ b hb o e=>(pin9 b hb o e).1,λ b hb=>?_,w9⟩
    ·have hk:k<(st σ).length:=(List.getElem?_eq_some_iff.mp e).1
     have hkN:k<N.length:=by rw[<-B.len σ];exact hk
     obtain⟨_,hks,_⟩:=B.val σ k _ v (List.getElem?_eq_getElem hkN) e;rw[ag6 k hks];exact e
    ·obtain⟨o,e,_⟩:=T.obj _ _ st5 b hb
     exact(pin9 b hb o e).2
   cases ok with
   |false=>
    rw[if_neg Bool.false_ne_true]at q7 ⊢;exact again I7 q7
   |true=>
    rw[if_pos rfl]at q7 ⊢;exact thn (he C fp s₂ H1 _ _ s7 σ6 H7 _ I7 q7) λ _ s8 ⟨H8,I8,q8⟩=>again I8 q8
 exact hS (loop _ rfl) (T.self X.A 0 _ _ _ h01 (loop _ rfl))
theorem aOU(B:iQ X scope N st ks)(hc:X.calm=true)(hi:PI X tg iter wi)(hg:∀C fp s₀ H₀,PG (X.block scope C N fp s₀ H₀) tg g)(hgo:p6 g ks)(ht:∀C fp s₀ H₀,aC2 (X.block scope C N fp s₀ H₀) ifs tt)
  (hT:w5 0 e tg iter ifs body)(hS:ye 0 e)(hA:aJS mk obs o)(he:∀C fp s₀ H₀,PB (X.block scope C N fp s₀ H₀) body tb)(hcs:clausesOf e=⟨tg,iter,ifs,0⟩::gs)(hev:eval e X.env=comprehension e scope X.env (firstIterPos (⟨tg,iter,ifs,0⟩::gs) pos) mk false (eval iter X.env))(hs:∀x,foldedSetIterable iter X.env x=pure x:=by intro _;rfl):PE X e (aOB o wi st g tt tb):=by
 intro pins s σ H Q I h;have hcl:closureFor scope X.env=pure (cj scope X.env):=nu λ y hy hk=>I.ok.has _ (B.free y hy hk)
 rw[hev];refine wpAny_comprehension_free (use:=none) hcs hs hcl B.kind B.loc (thn (hi pins s σ H _ I h) λ v s1 h1=>thn h1 λ itv s2 h2=>?_);obtain⟨it,fp,tn,J,H2,e,I2,T,st2,f2,hq⟩:=h2;subst e;refine aJE (RR:=λ acc C=>compPost (model X.prog X.w) X.A X.xe none (EP X pins σ Q) acc C) B hc hT hS hA hg hgo ht he I2 T st2 f2 hq ?_;intro D C H' s' hJ hCle q;have I3:=aCW I2 f2 hJ;obtain⟨σ',J'⟩:=hJ;obtain⟨m,hn,_⟩:=id J'.loc;have hHC:H' C=none:=J'.free;refine⟨m,hn,λ h'' hs''=>⟨.ref D,H',?_,rfl,q⟩⟩;exact I3.turned (t':=s'.toks) (λ b o ne e=>(hs''.2 b ne).trans e) hHC (Nat.ne_of_gt (Nat.lt_of_lt_of_le I2.lt hCle)) (.inr (Nat.le_trans I2.sz hCle))
  (λ x c e z=>by obtain⟨v,ic⟩:=I2.cell x c e;exact absurd (Nat.lt_of_lt_of_le ic.lt (by rw[z];exact hCle)) (Nat.lt_irrefl _))
  (λ p hp z=>absurd (Nat.lt_of_lt_of_le (Heap.lt_size (I2.pin p hp).1) (by rw[z];exact hCle)) (Nat.lt_irrefl _))
end
section
variable{X:Cx}{elt tg iter:Expr}{ifs:List Expr}{scope:Scope}{pos:Pos}{N:List Str}{st:St->St}{ks:List Nat}{wi:TI}{g:TG}{tt:TT}{te:TE}
end
def aCB(elt:Expr)(env:Env)(D:Addr):Sem Unit:=do let _ <-call (.builtin "list.append") [.ref D,<-eval elt env]
def aLS(te:TE):Addr->St->Hp->(Hp->Prop)->Prop:=λ D σ H Q=>te σ H λ y H1=>∃acc,H1 D=some (.lst acc)/\acc.length<sizeLine/\Q (upd H1 D (.lst (acc++[y])))
theorem aM9(he:PE X elt te):PB X (aCB elt) (aLS te):=by
 intro D pins s σ H Q I h;unfold aCB;refine wpAny_bind (thn (he pins s σ H _ I h) λ u s1 ⟨y,H1,I1,r1,acc,hD,hz,q⟩=>wpAny_bind ?_);refine thn (wK _ s1 σ H1 (.ref D) [y] (.ref D) [u] (λ _ H9=>H9=upd H1 D (.lst (acc++[y]))) I1 rfl (.cons r1 .nil) ⟨_,acc,y,rfl,rfl,hD,hz,rfl⟩) λ _ s2 ⟨_,H2,I2,_,e⟩=>?_
 subst e;exact wpAny_pure ⟨_,I2,q⟩
theorem aLI:aJS (newList []) (λ ob=>ob={cls:=.type "list",data:=.seq #[]}) (λ _=>.lst []) where
 make:=λ h=>wpAny_newObj_type (h _ rfl)
 live:=by rintro ob rfl;rfl
 ok:=by
  rintro P w H h a ob rfl hg hb;exact⟨Nat.zero_le _,[],_,.nil,hg⟩
def um(e iter2:Expr)(env:Env)(D:Addr):Sem Unit:=do
 let x <-eval iter2 env
 standAt iter2.pos
 let x <-foldedSetIterable iter2 env x;let _ <-runOwn (.compStart e 1 (<-holding [x] (pyIter x)) (.ref D) env) env
theorem aGy(elt tg iter tg2 iter2:Expr)(ifs ifs2:List Expr)(scope:Scope)(pos:Pos):w5 0 (.ListComp elt [⟨tg,iter,ifs,0⟩,⟨tg2,iter2,ifs2,0⟩] scope pos) tg iter ifs (um (.ListComp elt [⟨tg,iter,ifs,0⟩,⟨tg2,iter2,ifs2,0⟩] scope pos) iter2):=
 ⟨λ _ _ _ _=>rfl,λ _ _ _ _ _=>rfl,λ _ _ _=>by unfold um compTurn;simp only[bind_assoc];rfl⟩
theorem aGx(elt tg iter tg2 iter2:Expr)(ifs ifs2:List Expr)(scope:Scope)(pos:Pos):w5 1 (.ListComp elt [⟨tg,iter,ifs,0⟩,⟨tg2,iter2,ifs2,0⟩] scope pos) tg2 iter2 ifs2 (aCB elt):=
 ⟨λ _ _ _ _=>rfl,λ _ _ _ _ _=>rfl,λ _ _ _=>rfl⟩
theorem aC7(hcl:(clausesOf e)[d]? =some ⟨tg,iter,ifs,0⟩)(hu:∀(A:Around) (it acc:Value) (env:Env),A.under (.compStart e d it acc env)=A)
  (hd:∀(prog:Program) (w:World) (it acc:Value) (env:Env),(model prog w).den (.compStart e d it acc env)=(compStart e d it acc env).onRaise (λ x=>do noteFrame x env;standAt theWindowsPlace)):ye d e:=by
 intro prog w A R s it acc env h0 h;refine codeAny_of_tree ?_;rw[hu,hd];refine wpAny_notedAt ?_;unfold compStart;rw[hcl];show wpAny _ A (ask>>=_) _ _ s;refine wpAny_bind (wpAny_askSetting (wpAny_ite ?_));split
 ·first|exact wpAny_bind (wpAny_pure (wpAny_pure (And.intro rfl h0)))|exact wpAny_pure (And.intro rfl h0)
 ·first
   |exact wpAny_bind (wpAny_rule (wpAny_bind (wpAny_standAt (wpAny_bind (wpAny_mono h (λ it2 s2 h2=>wpAny_pure (And.intro rfl h2)) λ _ _ x=>x)))))
   |(refine wpAny_bind (wpAny_rule ?_);(show wpAny _ _ (standAt iter.pos>>=_) _ _ s);exact wpAny_bind (wpAny_standAt (wpAny_bind (wpAny_mono h (λ it2 s2 h2=>wpAny_pure (And.intro rfl h2)) λ _ _ x=>x))))
def aHC(ks:List Nat)(wi:TI)(g:TG)(tt:TT)(tb:Addr->St->Hp->(Hp->Prop)->Prop):Addr->St->Hp->(Hp->Prop)->Prop:=λ D σ H Q=>(∀k∈ks,∀v,σ[k]?≠some (some v))/\wi σ H λ J H1=>∃W:Nat->Nat->Hp->Prop,(∃m,W 0 m H1)/\
 ∀i m H2,W i m H2->((J.stop i H2/\Q H2)\/(J.go i H2/\∀x H3,J.yld i H2 x H3->g x σ H3 λ σ4 H4=>tt σ4 H4 λ ok H5=>
  if ok=true then tb D σ4 H5 λ H6=>∃m',m'<m/\W (i+1) m' H6 else∃m',m'<m/\W (i+1) m' H5))
theorem aKE(hc:X.calm=true)(hx:∀v s,X.xe v s->False)(hT:w5 1 e tg iter ifs body)(hS:ye 1 e)
  (hi:PI X tg iter wi)(hg:PG X tg g)(hgo:p6 g ks)(ht:aC2 X ifs tt)(he:PB X body tb)(hs:∀x,foldedSetIterable iter X.env x=pure x:=by intro _;rfl):PB X (um e iter) (aHC ks wi g tt tb):=by
 have nf:∀{α:Type} {m:Sem α} {Q:α->Shared->Prop} {s:Shared},wpAny (model X.prog X.w) X.A m Q X.xe s->wpAny (model X.prog X.w) X.A m Q (λ _ _=>False) s:=λ h=>wpAny_mono h (λ _ _ q=>q) hx
 intro D pins s σ H Q I h;obtain⟨hno,h⟩:=h;unfold um;refine wpAny_bind (thn (hi pins s σ H _ I h) λ v s1 h1=>wpAny_bind (wpAny_standAt (wpAny_bind (wpAny_of_eq (hs v) (wpAny_bind (wpAny_holding (thn h1 λ itv s2 h2=>wpAny_bind ?_)))))));obtain⟨it,fp,tn,J,H1,e1,I1,T,st1,f1,W,⟨m0,w0⟩,step⟩:=h2;subst e1;have stat:∀{H':Hp},(∀b∈fp,H' b=none)->∀b∈fp,uO X pins H' b:=λ{H'} hn b hb=>⟨hn b hb,(f1 b hb).2⟩
 have loop:codeAny (model X.prog X.w) X.A (.compLoop e 1 (.ref it) (.ref D) X.env) (λ r s'=>match r with| .ok _=>(∃H',Inv X pins σ H' s'/\Q H')| .error _=>False) s2:=by
  refine vM hT (λ n s'=>∃i H2,Inv X pins σ H2 s'/\tn i s'.heap/\(∀b∈fp,H2 b=none)/\W i n H2) ?_ m0 ⟨0,H1,I1,st1,λ b hb=>(f1 b hb).1,w0⟩;rintro n s3 ⟨i,H2,I2,st2,fr2,w2⟩;rcases step i n H2 w2 with ⟨stop,q⟩|⟨go,nxt⟩
  ·refine thn (T.done X rfl rfl rfl hc i pins s3 σ H2 _ I2 (stat fr2) st2 stop) λ r s4 ⟨hr,I4⟩=>?_
   subst hr;exact⟨H2,I4,q⟩
  ·refine thn (T.item X rfl rfl rfl hc i pins s3 σ H2 _ I2 (stat fr2) st2 go) λ r s4 ⟨u,hr,h4⟩=>?_
   subst hr;refine thn h4 λ _ s5 ⟨x,H5,I5,r5,y5,st5,fr5⟩=>?_
   have I5p:=I5.pinned (stat fr5) (T.obj _ _ st5);refine thn (nf (hg _ s5 σ H5 x u _ I5p r5 (hgo _ _ _ _ (nxt x H5 y5)))) λ _ s6 ⟨σ6,H6,I6,q6,aGZ,ag6⟩=>?_
   refine thn (nf (ht _ s6 σ6 H6 _ I6 q6)) λ ok s7 ⟨H7,I7,q7⟩=>?_
   have again:∀{H9:Hp} {s9:Shared},Inv X (pins++uD fp s5.heap) σ6 H9 s9->(∃m',m'<n/\W (i+1) m' H9)->∃m,m<n/\∃i H2,Inv X pins σ H2 s9/\tn i s9.heap/\(∀b∈fp,H2 b=none)/\W i m H2:=λ{H9 s9} I9 ⟨m',hm,w9⟩=>by
    have pin9:∀b∈fp,∀o,s5.heap.get? b=some o->s9.heap.get? b=some o/\H9 b=none:=λ b hb o e=>by
     have z:=I9.pin (b,o) (List.mem_append_right _ (List.mem_append_right _ (mO hb e)));exact⟨z.1,z.2.1⟩
    refine⟨m',hm,i+1,H9,I9.unpinned.weak (by rw[aGZ]) (λ k v e=>?_),T.keep _ _ _ st5 λ b hb o e=>(pin9 b hb o e).1,λ b hb=>?_,w9⟩
    ·by_cases hk:k∈ks
     ·exact absurd e (hno k hk v)
     ·rw[ag6 k hk];exact e
    ·obtain⟨o,e,_⟩:=T.obj _ _ st5 b hb
     exact(pin9 b hb o e).2
   cases ok with
   |false=>
    rw[if_neg Bool.false_ne_true]at q7 ⊢;exact again I7 q7
   |true=>
    rw[if_pos rfl]at q7 ⊢;exact thn (nf (he D _ s7 σ6 H7 _ I7 q7)) λ _ s8 ⟨H8,I8,q8⟩=>again I8 q8
 refine wpAny_runOwn (h:=none) (codeAny_mono (hS loop (T.self X.A 0 _ _ _ st1 loop)) λ r s' hr=>?_);cases r with
 |ok f=>exact wpAny_pure hr
 |error x=>exact hr.elim
end L2
namespace VL
open PySem PySem.Spec PyProof.Rows L2
inductive D where
 |non|bl (b:Bool)|int (i:Int)|str (x:Str)|tup (l:List D)|lst (l:List D)|dct (ks vs:List D)|set (l:List Int)|scr (l:List Int)|fn (x:Str)
instance:Inhabited D:=⟨.non⟩
def kD:Key->D
 | .inl i=>.int i
 | .inr x=>.str x
variable{K:PySem.W.Frag}
def qz(K:PySem.W.Frag)(H:Hp)(a:Addr)(ns:List Int):Prop:=(∃o,H a=some (.frz o (.lst (ns.map V.int))))\/
 ∃(o:Obj) (its:Array Value) (n:Nat),K.lookup a=some o/\o.cls= .type "list"/\o.dict=none/\o.data= .seq its n/\its.size<=sizeLine/\Vals (ns.map V.int) its.toList
theorem qz.sq(h:qz K H a ns):SqL K H a (ns.map V.int):=by
 rcases h with h|h
 ·exact .inl (.inr h)
 ·exact .inr h
def hsh(ns:List Int):Int:=reduceHash (Builtin.Tuple.tupleHashOf (ns.map hashInt))
def dxO(a:Addr)(es:List (List Int×Addr×V)):HO:=.ext λ h=>es.length<=sizeLine/\(a==sysModules)=false/\∃(xs:List (List Int×Addr×Value)) (o:Obj) (ts:Array DictEntry) (ep:Nat),Paired (λ e x=>e.1=x.1/\e.2.1=x.2.1/\RelV e.2.2 x.2.2) es xs/\
 h.get? a=some o/\o.ExactDict/\o.data= .dict ts ep/\ts.toList=xs.map λ x=>⟨hsh x.1,.ref x.2.1,x.2.2⟩
structure DxK(K:PySem.W.Frag)(H:Hp)(a:Addr)(es:List (List Int×Addr×V)):Prop where
 at_:H a=some (dxO a es)
 ks:∀e∈es,SqT K H e.2.1 (e.1.map V.int)
 nd:(es.map (·.1)).Nodup
mutual
inductive Rp(K:PySem.W.Frag):(Addr->Prop)->Hp->V->D->Prop where
 |non {A:Addr->Prop} {H:Hp}:Rp K A H .non .non
 |bl {A:Addr->Prop} {H:Hp} (b:Bool):Rp K A H (.bl b) (.bl b)
 |int {A:Addr->Prop} {H:Hp} (i:Int):Rp K A H (.int i) (.int i)
 |str {A:Addr->Prop} {H:Hp} (x:Str):Rp K A H (.str x) (.str x)
 |tup {A:Addr->Prop} {H:Hp} {a:Addr} {xs:List V} {ds:List D} (h:SqT K H a xs) (r:Rps K A H xs ds):Rp K A H (.ref a) (.tup ds)
 |lst {A:Addr->Prop} {H:Hp} {a:Addr} {xs:List V} {ds:List D} (h:H a=some (.lst xs)) (m:A a) (r:Rps K (λ p=>A p/\p≠a) H xs ds):Rp K A H (.ref a) (.lst ds)
 |dK {A:Addr->Prop} {H:Hp} {a:Addr} {kvs:List (Key×V)} {ds:List D} (h:H a=some (.dK kvs)) (m:A a) (r:Rps K (λ p=>A p/\p≠a) H (kvs.map (·.2)) ds):Rp K A H (.ref a) (.dct (kvs.map λ p=>kD p.1) ds)
 |dT {A:Addr->Prop} {H:Hp} {a:Addr} {es:List (List Int×Addr×V)} {ds:List D} (h:DxK K H a es) (m:A a) (r:Rps K (λ p=>A p/\p≠a) H (es.map (·.2.2)) ds):Rp K A H (.ref a) (.dct (es.map λ e=>.tup (e.1.map .int)) ds)
 |set {A:Addr->Prop} {H:Hp} {a:Addr} {S:Int->Bool} {l:List Int} (h:H a=some (.set S l.length)) (m:A a) (hS:∀i,S i=decide (i∈l)) (nd:l.Nodup):Rp K A H (.ref a) (.set l)
 |scr {A:Addr->Prop} {H:Hp} {a:Addr} {ns:List Int} (h:qz K H a ns):Rp K A H (.ref a) (.scr ns)
 |fn {A:Addr->Prop} {H:Hp} {a:Addr} {x:Str} (h:PySem.W.nsIn K mainGlobals x=some (some (.ref a))):Rp K A H (.ref a) (.fn x)
inductive Rps(K:PySem.W.Frag):(Addr->Prop)->Hp->List V->List D->Prop where
 |nil {A:Addr->Prop} {H:Hp}:Rps K A H [] []
 |cons {A:Addr->Prop} {H:Hp} {x:V} {d:D} {xs:List V} {ds:List D} (h:Rp K A H x d) (r:Rps K A H xs ds):Rps K A H (x::xs) (d::ds)
end
theorem qz.mono(s:aq H H')(h:qz K H a ns):qz K H' a ns:=by
 rcases h with ⟨o,h⟩|h
 ·exact .inl ⟨o,s _ _ h⟩
 ·exact .inr h
theorem DxK.mono(h:DxK K H a es)(s:aq H H'):DxK K H' a es:=⟨s _ _ h.at_,λ e he=>s.sqt (h.ks e he),h.nd⟩
theorem Rp.mono'(s:aq H H')(r:Rp K A H x d)(hA:∀p o,H p=some o->A p->A' p):Rp K A' H' x d:=
 Rp.rec (motive_1:=λ A H x d _=>∀H',aq H H'->∀A':Addr->Prop,(∀p o,H p=some o->A p->A' p)->Rp K A' H' x d) (motive_2:=λ A H xs ds _=>∀H',aq H H'->∀A':Addr->Prop,(∀p o,H p=some o->A p->A' p)->Rps K A' H' xs ds)
  (λ _ _ _ _=>.non) (λ b _ _ _ _=>.bl b) (λ i _ _ _ _=>.int i) (λ x _ _ _ _=>.str x) (λ h _ ih _ s _ hA=>.tup (s.sqt h) (ih _ s _ hA))
  (λ h m _ ih _ s _ hA=>.lst (s _ _ h) (hA _ _ h m) (ih _ s _ λ p o e z=>⟨hA p o e z.1,z.2⟩)) (λ h m _ ih _ s _ hA=>.dK (s _ _ h) (hA _ _ h m) (ih _ s _ λ p o e z=>⟨hA p o e z.1,z.2⟩))
  (λ h m _ ih _ s _ hA=>.dT (h.mono s) (hA _ _ h.at_ m) (ih _ s _ λ p o e z=>⟨hA p o e z.1,z.2⟩)) (λ h m hS nd _ s _ hA=>.set (s _ _ h) (hA _ _ h m) hS nd) (λ h _ s _ _=>.scr (h.mono s)) (λ h _ _ _ _=>.fn h) (λ _ _ _ _=>.nil) (λ _ _ ih ir _ s _ hA=>.cons (ih _ s _ hA) (ir _ s _ hA)) r H' s A' hA
theorem Rps.mono'(s:aq H H')(r:Rps K A H xs ds)(hA:∀p o,H p=some o->A p->A' p):Rps K A' H' xs ds:=
 Rps.rec (motive_1:=λ A H x d _=>∀H',aq H H'->∀A':Addr->Prop,(∀p o,H p=some o->A p->A' p)->Rp K A' H' x d) (motive_2:=λ A H xs ds _=>∀H',aq H H'->∀A':Addr->Prop,(∀p o,H p=some o->A p->A' p)->Rps K A' H' xs ds)
  (λ _ _ _ _=>.non) (λ b _ _ _ _=>.bl b) (λ i _ _ _ _=>.int i) (λ x _ _ _ _=>.str x) (λ h _ ih _ s _ hA=>.tup (s.sqt h) (ih _ s _ hA))
  (λ h m _ ih _ s _ hA=>.lst (s _ _ h) (hA _ _ h m) (ih _ s _ λ p o e z=>⟨hA p o e z.1,z.2⟩)) (λ h m _ ih _ s _ hA=>.dK (s _ _ h) (hA _ _ h m) (ih _ s _ λ p o e z=>⟨hA p o e z.1,z.2⟩))
  (λ h m _ ih _ s _ hA=>.dT (h.mono s) (hA _ _ h.at_ m) (ih _ s _ λ p o e z=>⟨hA p o e z.1,z.2⟩)) (λ h m hS nd _ s _ hA=>.set (s _ _ h) (hA _ _ h m) hS nd) (λ h _ s _ _=>.scr (h.mono s)) (λ h _ _ _ _=>.fn h) (λ _ _ _ _=>.nil) (λ _ _ ih ir _ s _ hA=>.cons (ih _ s _ hA) (ir _ s _ hA)) r H' s A' hA
theorem Rp.mono(s:aq H H')(hA:∀p o,H p=some o->A p->A' p)(r:Rp K A H x d):Rp K A' H' x d:=r.mono' s hA
theorem Rps.mono(s:aq H H')(hA:∀p o,H p=some o->A p->A' p)(r:Rps K A H x d):Rps K A' H' x d:=r.mono' s hA
theorem Rp.up(s:aq H H')(r:Rp K A H x d):Rp K A H' x d:=r.mono s λ _ _ _ h=>h
theorem Rp.wk(hA:∀p o,H p=some o->A p->A' p)(r:Rp K A H x d):Rp K A' H x d:=r.mono (aq.refl H) hA
theorem Rps.up(s:aq H H')(r:Rps K A H x d):Rps K A H' x d:=r.mono s λ _ _ _ h=>h
theorem Rps.wk(hA:∀p o,H p=some o->A p->A' p)(r:Rps K A H x d):Rps K A' H x d:=r.mono (aq.refl H) hA
def mQ:HO->Bool
 | .lst _=>true| .dK _=>true| .dT _=>true| .set _ _=>true| .ext _=>true|_=>false
theorem aB5(s:oA l H H')(hl:H l=some o)(ho:mQ o=true)(h:SqT K H a xs):SqT K H' a xs:=by
 rcases h with (h|⟨u,h⟩)|h
 ·refine .inl (.inl (s _ _ (λ e=>?_) h))
  subst e;rw[hl]at h;cases h;cases ho
 ·refine .inl (.inr ⟨u,s _ _ (λ e=>?_) h⟩)
  subst e;rw[hl]at h;cases h;cases ho
 ·exact .inr h
theorem aFN(s:oA l H H')(hl:H l=some o)(ho:mQ o=true)(h:qz K H a ns):qz K H' a ns:=by
 rcases h with ⟨u,h⟩|h
 ·exact .inl ⟨u,s _ _ (λ e=>by subst e;rw[hl]at h;cases h;cases ho) h⟩
 ·exact .inr h
theorem DxK.but(h:DxK K H a es)(s:oA l H H')(hl:H l=some o)(ho:mQ o=true)(ne:a≠l):DxK K H' a es:=
 ⟨s _ _ ne h.at_,λ e he=>aB5 s hl ho (h.ks e he),h.nd⟩
theorem Rp.but'(s:oA l H H')(hl:H l=some o)(ho:mQ o=true)(r:Rp K A H x d)(hA:¬A l):Rp K A H' x d:=
 Rp.rec (motive_1:=λ A H x d _=>∀H',oA l H H'->∀o:HO,H l=some o->mQ o=true->¬A l->Rp K A H' x d) (motive_2:=λ A H xs ds _=>∀H',oA l H H'->∀o:HO,H l=some o->mQ o=true->¬A l->Rps K A H' xs ds)
  (λ _ _ _ _ _ _=>.non) (λ b _ _ _ _ _ _=>.bl b) (λ i _ _ _ _ _ _=>.int i) (λ x _ _ _ _ _ _=>.str x) (λ h _ ih _ s o hl ho hA=>.tup (aB5 s hl ho h) (ih _ s o hl ho hA))
  (λ h m _ ih _ s o hl ho hA=>.lst (s _ _ (λ e=>hA (e▸m)) h) m (ih _ s o hl ho λ z=>hA z.1)) (λ h m _ ih _ s o hl ho hA=>.dK (s _ _ (λ e=>hA (e▸m)) h) m (ih _ s o hl ho λ z=>hA z.1))
  (λ h m _ ih _ s o hl ho hA=>.dT (h.but s hl ho λ e=>hA (e▸m)) m (ih _ s o hl ho λ z=>hA z.1)) (λ h m hS nd _ s o hl ho hA=>.set (s _ _ (λ e=>hA (e▸m)) h) m hS nd) (λ h _ s o hl ho _=>.scr (aFN s hl ho h)) (λ h _ _ _ _ _ _=>.fn h) (λ _ _ _ _ _ _=>.nil) (λ _ _ ih ir _ s o hl ho hA=>.cons (ih _ s o hl ho hA) (ir _ s o hl ho hA)) r H' s o hl ho hA
theorem Rps.but'(s:oA l H H')(hl:H l=some o)(ho:mQ o=true)(r:Rps K A H xs ds)(hA:¬A l):Rps K A H' xs ds:=
 Rps.rec (motive_1:=λ A H x d _=>∀H',oA l H H'->∀o:HO,H l=some o->mQ o=true->¬A l->Rp K A H' x d) (motive_2:=λ A H xs ds _=>∀H',oA l H H'->∀o:HO,H l=some o->mQ o=true->¬A l->Rps K A H' xs ds)
  (λ _ _ _ _ _ _=>.non) (λ b _ _ _ _ _ _=>.bl b) (λ i _ _ _ _ _ _=>.int i) (λ x _ _ _ _ _ _=>.str x) (λ h _ ih _ s o hl ho hA=>.tup (aB5 s hl ho h) (ih _ s o hl ho hA))
  (λ h m _ ih _ s o hl ho hA=>.lst (s _ _ (λ e=>hA (e▸m)) h) m (ih _ s o hl ho λ z=>hA z.1)) (λ h m _ ih _ s o hl ho hA=>.dK (s _ _ (λ e=>hA (e▸m)) h) m (ih _ s o hl ho λ z=>hA z.1))
  (λ h m _ ih _ s o hl ho hA=>.dT (h.but s hl ho λ e=>hA (e▸m)) m (ih _ s o hl ho λ z=>hA z.1)) (λ h m hS nd _ s o hl ho hA=>.set (s _ _ (λ e=>hA (e▸m)) h) m hS nd) (λ h _ s o hl ho _=>.scr (aFN s hl ho h)) (λ h _ _ _ _ _ _=>.fn h) (λ _ _ _ _ _ _=>.nil) (λ _ _ ih ir _ s o hl ho hA=>.cons (ih _ s o hl ho hA) (ir _ s o hl ho hA)) r H' s o hl ho hA
theorem Rp.but(s:oA l H H')(hl:H l=some o)(ho:mQ o=true)(hA:¬A l)(r:Rp K A H x d):Rp K A H' x d:=r.but' s hl ho hA
theorem Rps.but(s:oA l H H')(hl:H l=some o)(ho:mQ o=true)(hA:¬A l)(r:Rps K A H x d):Rps K A H' x d:=r.but' s hl ho hA
mutual
def imm:D->Bool
 | .tup l=>lJ l
 | .lst _=>false
 | .dct _ _=>false
 | .set _=>false
 |_=>true
def lJ:List D->Bool
 |[]=>true
 |d::r=>imm d&&lJ r
end
theorem aBE(e:lJ (d::r)=true):imm d=true/\lJ r=true:=by
 simp only[lJ,Bool.and_eq_true]at e;exact e
theorem aKg(e:imm (.tup l)=true):lJ l=true:=by simpa[imm]using e
theorem aKk(e:imm (.lst l)=true):False:=by simp[imm]at e
theorem aFi(e:imm (.dct l k)=true):False:=by simp[imm]at e
theorem aKh(e:imm (.set l)=true):False:=by simp[imm]at e
theorem Rp.imm'(r:Rp K A H x d)(e:VL.imm d=true):Rp K A' H x d:=
 Rp.rec (motive_1:=λ _ H x d _=>VL.imm d=true->Rp K A' H x d) (motive_2:=λ _ H xs ds _=>lJ ds=true->Rps K A' H xs ds)
  (λ _=>.non) (λ b _=>.bl b) (λ i _=>.int i) (λ x _=>.str x) (λ h _ ih e=>.tup h (ih (aKg e)))
  (λ _ _ _ _ e=>(aKk e).elim) (λ _ _ _ _ e=>(aFi e).elim) (λ _ _ _ _ e=>(aFi e).elim) (λ _ _ _ _ e=>(aKh e).elim) (λ h _=>.scr h) (λ h _=>.fn h) (λ _=>.nil) (λ _ _ ih ir e=>.cons (ih (aBE e).1) (ir (aBE e).2)) r e
theorem Rp.imm(r:Rp K A H x d)(h:VL.imm d=true):Rp K A' H x d:=r.imm' h
theorem Rp.int_inv(r:Rp K A H v (.int i)):v= .int i:=by cases r;rfl
theorem Rp.tup_inv(r:Rp K A H v (.tup ds)):∃a xs,v= .ref a/\SqT K H a xs/\Rps K A H xs ds:=by cases r with|tup h r=>exact⟨_,_,rfl,h,r⟩
theorem Rp.lst_inv(r:Rp K A H v (.lst ds)):∃a xs,v= .ref a/\H a=some (.lst xs)/\A a/\Rps K (λ p=>A p/\p≠a) H xs ds:=by cases r with|lst h m r=>exact⟨_,_,rfl,h,m,r⟩
theorem Rp.scr_inv(r:Rp K A H v (.scr ns)):∃a,v= .ref a/\qz K H a ns:=by cases r with|scr h=>exact⟨_,rfl,h⟩
theorem Rps.one_inv(r:Rps K A H vs [d]):∃v,vs=[v]/\Rp K A H v d:=by cases r with|cons h r=>cases r;exact⟨_,rfl,h⟩
section
variable{A:Addr->Prop}{H:Hp}
theorem Rps.length:∀{xs:List V} {ds:List D},Rps K A H xs ds->xs.length=ds.length:=by
 intro xs ds h;induction xs generalizing ds with
 |nil=>cases h;rfl
 |cons x xs ih=>cases h with|cons _ r=>exact congrArg (·+1) (ih r)
theorem Rps.get:∀{xs:List V} {ds:List D} {i:Nat} {x:V},Rps K A H xs ds->xs[i]? =some x->∃d,ds[i]? =some d/\Rp K A H x d
 |_,_,_,_,.nil,e=>by simp at e
 |_,_,0,_,.cons h _,e=>by simp at e;subst e;exact⟨_,rfl,h⟩
 |_,_,i+1,x,.cons _ r,e=>by
  obtain⟨d,h1,h2⟩:=Rps.get (i:=i) (x:=x) r (by simpa using e);exact⟨d,by simpa using h1,h2⟩
theorem Rps.getD:∀{xs:List V} {ds:List D} {i:Nat} {d:D},Rps K A H xs ds->ds[i]? =some d->∃x,xs[i]? =some x/\Rp K A H x d
 |_,_,_,_,.nil,e=>by simp at e
 |_,_,0,_,.cons h _,e=>by simp at e;subst e;exact⟨_,rfl,h⟩
 |_,_,i+1,d,.cons _ r,e=>by
  obtain⟨x,h1,h2⟩:=Rps.getD (i:=i) (d:=d) r (by simpa using e);exact⟨x,by simpa using h1,h2⟩
theorem Rps.append:∀{xs ys:List V} {ds es:List D},Rps K A H xs ds->Rps K A H ys es->Rps K A H (xs++ys) (ds++es):=by
 intro xs ys ds es h s;induction xs generalizing ds with
 |nil=>cases h;exact s
 |cons x xs ih=>cases h with|cons h r=>exact .cons h (ih r)
theorem Rps.take:∀{xs:List V} {ds:List D} (n:Nat),Rps K A H xs ds->Rps K A H (xs.take n) (ds.take n)
 |_,_,0,_=>.nil
 |_,_,_+1,.nil=>.nil
 |_,_,n+1,.cons h r=>.cons h (Rps.take n r)
theorem Rps.drop:∀{xs:List V} {ds:List D} (n:Nat),Rps K A H xs ds->Rps K A H (xs.drop n) (ds.drop n)
 |_,_,0,r=>r
 |_,_,_+1,.nil=>.nil
 |_,_,n+1,.cons _ r=>Rps.drop n r
theorem Rps.reverse:∀{xs:List V} {ds:List D},Rps K A H xs ds->Rps K A H xs.reverse ds.reverse:=by
 intro xs ds h;induction xs generalizing ds with
 |nil=>cases h;exact .nil
 |cons x xs ih=>
  cases h with
  |cons h r=>
   rw[List.reverse_cons,List.reverse_cons];exact Rps.append (ih r) (.cons h .nil)
theorem Rps.ints:∀{ns:List Int},Rps K A H (ns.map V.int) (ns.map D.int)
 |[]=>.nil
 |n::ns=>.cons (.int n) Rps.ints
theorem Rps.ints_of:∀{xs:List V} {ns:List Int},Rps K A H xs (ns.map D.int)->xs=ns.map V.int
 |_,[],.nil=>rfl
 |_,n::ns,.cons h r=>by
  cases h;rw[List.map_cons,Rps.ints_of r]
end
theorem aU(h:a=b):a=b:=h
inductive Rs(α:Type) where
 |ok (a:α)|ex (c:Str)|st
def Rs.bd{α β:Type}:Rs α->(α->Rs β)->Rs β
 | .ok a,f=>f a
 | .ex c,_=>.ex c
 | .st,_=>.st
@[simp] theorem aH(a:α)(f:α->Rs β):(Rs.ok a).bd f=f a:=aU rfl
theorem dY{r:Rs α}(h:r.bd f= .ok b):∃a,r= .ok a/\f a= .ok b:=by
 cases r with
 |ok a=>exact⟨a,rfl,h⟩
 |ex c=>cases h
 |st=>cases h
inductive Slot where
 |no|sh (d:D)|nw (d:D)|ow (d:D)|oz (d:D)|o2 (l:List (List D))
abbrev En:=List Slot
abbrev Lab:=Addr->Nat×Nat
abbrev Mode:=Option (List Nat)
def inM(m:Mode)(n:Nat):Prop:=match m with
 |none=>True
 |some L=>n∈L
def jn:Mode->Mode->Mode
 |some a,some b=>some (a++b)
 |_,_=>none
theorem aO8(h:inM a n):inM (jn a b) n:=by
 cases a with
 |none=>cases b<;>exact trivial
 |some L=>
  cases b with
  |none=>exact trivial
  |some M=>exact List.mem_append_left _ h
theorem aO7(h:inM b n):inM (jn a b) n:=by
 cases a with
 |none=>cases b<;>exact trivial
 |some L=>
  cases b with
  |none=>exact trivial
  |some M=>exact List.mem_append_right _ h
def fpM(m:Mode)(lab:Lab)(H:Hp):Addr->Prop:=λ p=>H p=none\/inM m (lab p).1
theorem aIn(h:fpM a lab H p):fpM (jn a b) lab H p:=h.imp id aO8
theorem aIm(h:fpM b lab H p):fpM (jn a b) lab H p:=h.imp id aO7
theorem qd(s:aq H H')(h:fpM m lab H' p):fpM m lab H p:=h.imp (λ z=>s.free z) id
structure Gx where
 H0:Hp
 E:XK
 cl:Str->Addr
def aGQ:D->Bool
 | .lst _=>true
 | .dct _ _=>true
 | .set _=>true
 |_=>false
def jN(K:PySem.W.Frag)(H:Hp)(lab:Lab)(i:Nat)(v:V):Slot->Prop
 | .no=>True
 | .sh d=>Rp K (λ p=>(lab p).1<=1) H v d
 | .nw d=>Rp K (λ p=>(lab p).1=1) H v d
 | .ow d=>Rp K (λ p=>(lab p).1=1\/(lab p).1=i+2) H v d/\(aGQ d=true->∃a,v= .ref a/\(lab a).1=i+2)
 | .oz d=>∃a xs ds,v= .ref a/\d= .lst ds/\H a=some (.lst xs)/\(lab a).1=i+2/\Rps K (λ p=>(lab p).1<=1) H xs ds
 | .o2 l=>∃a xs,v= .ref a/\H a=some (.lst xs)/\lab a=(i+2,0)/\xs.length=l.length/\∀(j:Nat) x ds,xs[j]? =some x->l[j]? =some ds->Rp K (λ p=>lab p=(i+2,j+1)) H x (.lst ds)
structure RR(K:PySem.W.Frag)(G:Gx)(τ:List (V×D))(ρ:En)(σ:L2.St)(H:Hp)(lab:Lab):Prop where
 len:σ.length=ρ.length
 sl:∀(i:Nat) (s:Slot),ρ[i]? =some s->s= .no\/∃v,σ[i]? =some (some v)/\jN K H lab i v s
 old:aq G.H0 H
 new:∀p,(lab p).1≠0->G.H0 p=none
 tm:∀q∈τ,Rp K (λ p=>(lab p).1<=1) H q.1 q.2
theorem jN.up(s:aq H H')(h:jN K H lab i v x):jN K H' lab i v x:=by
 cases x with
 |no=>exact trivial
 |sh d=>exact Rp.up s h
 |nw d=>exact Rp.up s h
 |ow d=>exact⟨Rp.up s h.1,h.2⟩
 |oz d=>
  obtain⟨a,xs,ds,e1,e2,e3,e4,e5⟩:=h;exact⟨a,xs,ds,e1,e2,s _ _ e3,e4,e5.up s⟩
 |o2 l=>
  obtain⟨a,xs,e1,e2,e3,e4,e5⟩:=h;exact⟨a,xs,e1,s _ _ e2,e3,e4,λ j x ds f1 f2=>(e5 j x ds f1 f2).up s⟩
theorem aH3(r:Rp K A H (.ref a) d)(hm:aGQ d=true):∃o,H a=some o/\mQ o=true/\A a:=by
 cases r with
 |lst h m _=>exact⟨_,h,rfl,m⟩
 |dK h m _=>exact⟨_,h,rfl,m⟩
 |dT h m _=>exact⟨_,h.at_,rfl,m⟩
 |set h m _ _=>exact⟨_,h,rfl,m⟩
 |tup _ _=>cases hm
 |scr _=>cases hm
 |fn _=>cases hm
theorem aMH(r:Rp K A H v d)(hm:aGQ d=true):∃a,v= .ref a:=by
 cases r with
 |lst h m _=>exact⟨_,rfl⟩
 |dK h m _=>exact⟨_,rfl⟩
 |dT h m _=>exact⟨_,rfl⟩
 |set h m _ _=>exact⟨_,rfl⟩
 |_=>cases hm
theorem jN.lab{lab lab':Lab}(hl:∀p o,H p=some o->lab' p=lab p)(h:jN K H lab i v x):jN K H lab' i v x:=by
 cases x with
 |no=>exact trivial
 |sh d=>exact Rp.wk (λ p o e q=>(hl p o e).symm▸q) h
 |nw d=>exact Rp.wk (λ p o e q=>(hl p o e).symm▸q) h
 |ow d=>
  obtain⟨h,t⟩:=h;refine⟨Rp.wk (λ p o e q=>(hl p o e).symm▸q) h,λ m=>?_⟩;obtain⟨a,rfl,ea⟩:=t m;obtain⟨o,ho,_⟩:=aH3 h m;exact⟨a,rfl,(congrArg (·.1) (hl a o ho)).trans ea⟩
 |oz d=>
  obtain⟨a,xs,ds,e1,e2,e3,e4,e5⟩:=h;exact⟨a,xs,ds,e1,e2,e3,(congrArg (·.1) (hl _ _ e3)).trans e4,Rps.wk (λ p o e q=>(hl p o e).symm▸q) e5⟩
 |o2 l=>
  obtain⟨a,xs,e1,e2,e3,e4,e5⟩:=h;exact⟨a,xs,e1,e2,(hl _ _ e2).trans e3,e4,λ j x ds f1 f2=>Rp.wk (λ p o e q=>(hl p o e).symm▸q) (e5 j x ds f1 f2)⟩
section
variable{G:Gx}{τ:List (V×D)}{ρ:En}{σ:L2.St}{H H':Hp}{lab lab':Lab}
theorem RR.up(R:RR K G τ ρ σ H lab)(s:aq H H'):RR K G τ ρ σ H' lab:=
 ⟨R.len,λ i x e=>(R.sl i x e).imp id λ⟨v,e1,e2⟩=>⟨v,e1,e2.up s⟩,R.old.trans s,R.new,λ q hq=>(R.tm q hq).up s⟩
theorem RR.relab(R:RR K G τ ρ σ H lab)(hl:∀p o,H p=some o->lab' p=lab p)(hn:∀p,(lab' p).1≠0->G.H0 p=none):RR K G τ ρ σ H lab':=
 ⟨R.len,λ i x e=>(R.sl i x e).imp id λ⟨v,e1,e2⟩=>⟨v,e1,e2.lab hl⟩,R.old,hn,λ q hq=>Rp.wk (λ p o e z=>by rw[hl p o e];exact z) (R.tm q hq)⟩
theorem RR.drop(R:RR K G (τ'++τ) ρ σ H lab):RR K G τ ρ σ H lab:=⟨R.len,R.sl,R.old,R.new,λ z hz=>R.tm z (List.mem_append_right _ hz)⟩
theorem RR.put(R:RR K G τ ρ σ H lab)(h:jN K H lab i v s):RR K G τ (ρ.set i s) (σ.set i (some v)) H lab:=by
 refine⟨by rw[List.length_set,List.length_set,R.len],λ j x e=>?_,R.old,R.new,R.tm⟩;by_cases hj:i=j
 ·subst hj
  have hi:i<ρ.length:=by
   have:=(List.getElem?_eq_some_iff.mp e).1
   rwa [List.length_set]at this
  rw[List.getElem?_set_self hi]at e;cases e;exact .inr ⟨v,by rw[List.getElem?_set_self (by rw[R.len];exact hi)],h⟩
 ·rw[List.getElem?_set_ne hj]at e
  rcases R.sl j x e with z|⟨u,e1,e2⟩
  ·exact .inl z
  ·exact .inr ⟨u,by rw[List.getElem?_set_ne hj];exact e1,e2⟩
def cQ(H:Hp)(n:Nat)(lab:Lab):Lab:=λ p=>match H p with
 |none=>(n,0)
 |some _=>lab p
theorem bc(h:H p=some o):cQ H n lab p=lab p:=by unfold cQ;rw[h]
theorem zR(h:H p=none):cQ H n lab p=(n,0):=by unfold cQ;rw[h]
theorem RR.fresh{P:Nat->Prop}(h1:P 1)(hm:∀k,inM m k->P k)(R:RR K G τ ρ σ H lab)(s:aq H H')(r:Rp K (fpM m lab H) H' v d):
  RR K G τ ρ σ H' (cQ H 1 lab)/\Rp K (λ p=>P (cQ H 1 lab p).1) H' v d:=by
 refine⟨(R.relab (λ p o e=>bc e) λ p hp=>?_).up s,Rp.wk (λ p o e z=>?_) r⟩
 ·cases e:H p with
  |none=>exact R.old.free e
  |some o=>rw[bc e]at hp;exact R.new p hp
 ·rcases z with z|z
  ·rw[zR z];exact h1
  ·cases e:H p with
   |none=>rw[zR e];exact h1
   |some o=>rw[bc e];exact hm _ z
theorem RR.freshO(i:Nat)(hm:∀k,inM m k->k=1\/k=i+2)(R:RR K G τ ρ σ H lab)(s:aq H H')(r:Rp K (fpM m lab H) H' v d)(ht:aGQ d=true->∃a,v= .ref a/\H a=none):
  ∃lab',RR K G τ ρ σ H' lab'/\jN K H' lab' i v (.ow d):=by
 obtain⟨R',r'⟩:=R.fresh (P:=λ k=>k=1\/k=i+2) (.inl rfl) hm s r;cases hd:aGQ d with
 |false=>exact⟨_,R',r',λ z=>absurd z (by simp[hd])⟩
 |true=>
  obtain⟨a,rfl,ha⟩:=ht hd;refine⟨λ p=>if p=a then(i+2,0)else cQ H 1 lab p,?_,Rp.wk (λ p o e z=>?_) r',λ _=>⟨a,rfl,by show(if a=a then((i+2,0):Nat×Nat)else cQ H 1 lab a).1=i+2;rw[if_pos rfl]⟩⟩
  ·refine(R.relab (lab':=λ p=>if p=a then(i+2,0)else cQ H 1 lab p) (λ p o e=>?_) λ p hp=>?_).up s
   ·rw[if_neg (λ z=>by subst z;rw[ha]at e;cases e),bc e]
   ·by_cases z:p=a
    ·subst z;exact R.old.free ha
    ·rw[if_neg z]at hp;exact R'.new p hp
  ·dsimp only
   by_cases q:p=a
   ·rw[if_pos q];exact .inr rfl
   ·rw[if_neg q];exact z
theorem aL9(h:jN K H lab i v (.oz d)):Rp K (λ p=>(lab p).1<=1\/(lab p).1=i+2) H v d:=by
 obtain⟨a,xs,ds,rfl,rfl,h1,h2,h3⟩:=h;exact .lst h1 (.inr h2) (h3.wk λ p o e z=>⟨.inl z,λ q=>by subst q;lia⟩)
end
structure Ct where
 ι:Type
 X:ι->Cx
 prog:Program
 w:World
 K:PySem.W.Frag
 mg:Str->Option Value
 base:Heap
 k:Nat
 G:Gx
 cx:∀i,(X i).prog=prog/\(X i).w=w/\(X i).K=K/\(X i).mg=mg/\(X i).base=base
 calm:∀i,(X i).calm=true
 room:∀i,nH k (X i).A
 own:∀i,PassesOwn (model (X i).prog (X i).w) (X i).A (X i).env (X i).xe
 pass:∀i,aC1 (CX1 (X i).prog (X i).w) (X i) G.E
 dOk:Bool
 dcx:dOk=true->∀i,nF (X i) G.E
theorem Ct.hK(C:Ct)(i:C.ι):(C.X i).K=C.K:=(C.cx i).2.2.1
def WR{α:Type}(G:Gx)(r:Rs α)(P:α->Prop):Prop:=match r with
 | .ok a=>P a
 | .ex c=>∀H',aq G.H0 H'->G.E (.ref (G.cl c)) none H'
 | .st=>False
theorem WR.bd(h:WR G (r.bd k) P):WR G r (λ a=>WR G (k a) P):=by
 cases r with
 |ok a=>exact h
 |ex c=>exact h
 |st=>exact h
theorem WR.imp(h:WR G r P)(f:∀a,r= .ok a->P a->P' a):WR G r P':=by
 cases r with
 |ok a=>exact f a rfl h
 |ex c=>exact h
 |st=>exact h
abbrev QE(K:PySem.W.Frag)(m:Mode)(lab:Lab)(H:Hp)(Q:VK):D->Prop:=λ d=>∀v H',aq H H'->Rp K (fpM m lab H) H' v d->Q v H'
abbrev QA(K:PySem.W.Frag)(m:Mode)(lab:Lab)(H:Hp)(Q:List V->Hp->Prop):List D->Prop:=λ ds=>∀vs H',aq H H'->Rps K (fpM m lab H) H' vs ds->Q vs H'
abbrev QT(H:Hp)(Q:Bool->Hp->Prop):Bool->Prop:=λ b=>∀H',aq H H'->Q b H'
def km(K:PySem.W.Frag)(G:Gx)(m:Mode)(t:TE)(f:En->Rs D):Prop:=∀τ σ H ρ lab (Q:VK),RR K G τ ρ σ H lab->WR G (f ρ) (QE K m lab H Q)->t σ H Q
def aLJ(K:PySem.W.Frag)(G:Gx)(m:Mode)(t:TA)(f:En->Rs (List D)):Prop:=∀τ σ H ρ lab (Q:List V->Hp->Prop),RR K G τ ρ σ H lab->WR G (f ρ) (QA K m lab H Q)->t σ H Q
def aDr(K:PySem.W.Frag)(G:Gx)(t:TT)(f:En->Rs Bool):Prop:=∀τ σ H ρ lab (Q:Bool->Hp->Prop),RR K G τ ρ σ H lab->WR G (f ρ) (QT H Q)->t σ H Q
def SE(C:Ct)(m:Mode)(e:Expr)(f:En->Rs D):Prop:=∃t,(∀i,PE (C.X i) e t)/\km C.K C.G m t f
def SA(C:Ct)(m:Mode)(es:List Expr)(f:En->Rs (List D)):Prop:=∃t,(∀i,PA (C.X i) es t)/\aLJ C.K C.G m t f
def ST(C:Ct)(e:Expr)(f:En->Rs Bool):Prop:=∃t,(∀i,PT (C.X i) e t)/\aDr C.K C.G t f
def SW(C:Ct)(e:Expr)(f:En->Rs Bool):Prop:=∃t,(∀i,PW (C.X i) e t)/\aDr C.K C.G t f
theorem SW.st(h:SW C e f):ST C e f:=let⟨t,h1,h2⟩:=h;⟨t,λ i=>(h1 i).pt,h2⟩
def jC(i:Nat):En->Rs D:=λ ρ=>match ρ[i]? with
 |some (.sh d)=>.ok d
 |some (.nw d)=>.ok d
 |some (.ow d)=>.ok d
 |some (.oz d)=>.ok d
 |some (.o2 l)=>.ok (.lst (l.map .lst))
 |_=>.st
def aB(i:Nat):En->Rs D:=λ ρ=>match ρ[i]? with
 |some (.sh d)=>.ok d
 |some (.nw d)=>.ok d
 |_=>.st
def ik(i:Nat):En->Rs D:=λ ρ=>match ρ[i]? with
 |some (.nw d)=>.ok d
 |_=>.st
def nW(i:Nat):En->Rs D:=λ ρ=>match ρ[i]? with
 |some (.ow d)=>.ok d
 |some (.o2 l)=>.ok (.lst (l.map .lst))
 |_=>.st
def cD(d:D):En->Rs D:=λ _=>.ok d
theorem aF2{K:PySem.W.Frag}{H:Hp}{lab:Lab}{i:Nat}{v:V}{l:List (List D)}(h:jN K H lab i v (.o2 l)):Rp K (λ p=>(lab p).1=i+2) H v (.lst (l.map .lst)):=by
 obtain⟨a,xs,rfl,ha,hla,hlen,hin⟩:=h;refine .lst ha (by rw[hla]) ?_;have go:∀(xs:List V) (l:List (List D)) (n:Nat),xs.length=l.length->0<n->(∀(j:Nat) x ds,xs[j]? =some x->l[j]? =some ds->Rp K (λ p=>lab p=(i+2,n+j)) H x (.lst ds))->Rps K (λ p=>(lab p).1=i+2/\p≠a) H xs (l.map .lst):=by
  intro xs;induction xs with
  |nil=>intro l n hl _ _;cases l with|nil=>exact .nil|cons _ _=>simp at hl
  |cons x xs ih=>
   intro l n hl hn h;cases l with
   |nil=>simp at hl
   |cons ds l=>
    refine .cons (Rp.wk (λ p o e z=>⟨by rw[z],λ e=>by rw[e,hla]at z;have z2:(0:Nat)=n+0:=congrArg Prod.snd z;lia⟩) (h 0 x ds rfl rfl)) (ih l (n+1) (by simpa using hl) (by lia) λ j y es e1 e2=>?_);have z:=h (j+1) y es (by simpa using e1) (by simpa using e2);rw[show n+1+j=n+(j+1)by lia];exact z
 exact go xs l 1 hlen (by lia) λ j x ds e1 e2=>by have z:=hin j x ds e1 e2;rw[show 1+j=j+1 by lia];exact z
section
variable{C:Ct}{pos:Pos}
theorem aJa(K:PySem.W.Frag)(G:Gx)(i:Nat):km K G (some [0,1,i+2]) (ym i) (jC i):=by
 intro τ σ H ρ lab Q R W;unfold jC at W;cases e:ρ[i]? with
 |none=>rw[e]at W;exact W.elim
 |some s=>
  rw[e]at W;rcases R.sl i s e with rfl|⟨v,ev,hv⟩
  ·exact False.elim W
  ·cases s with
   |no=>exact False.elim W
   |sh d=>exact⟨v,ev,W v H (aq.refl H) (Rp.wk (λ p o e z=>.inr (by show(lab p).1∈[0,1,i+2];rcases(show(lab p).1=0\/(lab p).1=1 by lia)with q|q<;>rw[q]<;>simp)) hv)⟩
   |nw d=>exact⟨v,ev,W v H (aq.refl H) (Rp.wk (λ p o e z=>.inr (by show(lab p).1∈[0,1,i+2];rw[z];simp)) hv)⟩
   |ow d=>exact⟨v,ev,W v H (aq.refl H) (Rp.wk (λ p o e z=>.inr (by show(lab p).1∈[0,1,i+2];rcases z with q|q<;>rw[q]<;>simp)) hv.1)⟩
   |oz d=>exact⟨v,ev,W v H (aq.refl H) (Rp.wk (λ p o e z=>.inr (by show(lab p).1∈[0,1,i+2];rcases(show(lab p).1=0\/(lab p).1=1\/(lab p).1=i+2 by lia)with q|q|q<;>rw[q]<;>simp)) (aL9 hv))⟩
   |o2 l=>exact⟨v,ev,W v H (aq.refl H) (Rp.wk (λ p o e z=>.inr (by show(lab p).1∈[0,1,i+2];rw[z];simp)) (aF2 hv))⟩
theorem aHO(K:PySem.W.Frag)(G:Gx)(i:Nat):km K G (some [0,1]) (ym i) (aB i):=by
 intro τ σ H ρ lab Q R W;unfold aB at W;cases e:ρ[i]? with
 |none=>rw[e]at W;exact W.elim
 |some s=>
  rw[e]at W;rcases R.sl i s e with rfl|⟨v,ev,hv⟩
  ·exact False.elim W
  ·cases s with
   |sh d=>exact⟨v,ev,W v H (aq.refl H) (Rp.wk (λ p o e z=>.inr (by show(lab p).1∈[0,1];rcases(show(lab p).1=0\/(lab p).1=1 by lia)with q|q<;>rw[q]<;>simp)) hv)⟩
   |nw d=>exact⟨v,ev,W v H (aq.refl H) (Rp.wk (λ p o e z=>.inr (by show(lab p).1∈[0,1];rw[z];simp)) hv)⟩
   |_=>exact False.elim W
theorem aHQ(K:PySem.W.Frag)(G:Gx)(i:Nat):km K G (some [1]) (ym i) (ik i):=by
 intro τ σ H ρ lab Q R W;unfold ik at W;cases e:ρ[i]? with
 |none=>rw[e]at W;exact W.elim
 |some s=>
  rw[e]at W;rcases R.sl i s e with rfl|⟨v,ev,hv⟩
  ·exact False.elim W
  ·cases s with
   |nw d=>exact⟨v,ev,W v H (aq.refl H) (Rp.wk (λ p o e z=>.inr (by show(lab p).1∈[1];rw[z];simp)) hv)⟩
   |_=>exact False.elim W
theorem aHP(K:PySem.W.Frag)(G:Gx)(i:Nat):km K G (some [1,i+2]) (ym i) (nW i):=by
 intro τ σ H ρ lab Q R W;unfold nW at W;cases e:ρ[i]? with
 |none=>rw[e]at W;exact W.elim
 |some s=>
  rw[e]at W;rcases R.sl i s e with rfl|⟨v,ev,hv⟩
  ·exact False.elim W
  ·cases s with
   |ow d=>exact⟨v,ev,W v H (aq.refl H) (Rp.wk (λ p o e z=>.inr (by show(lab p).1∈[1,i+2];rcases z with q|q<;>rw[q]<;>simp)) hv.1)⟩
   |o2 l=>exact⟨v,ev,W v H (aq.refl H) (Rp.wk (λ p o e z=>.inr (by show(lab p).1∈[1,i+2];rw[z];simp)) (aF2 hv))⟩
   |_=>exact False.elim W
theorem qJ(i:Nat)(hN:∀j,(C.X j).N[i]? =some x:=by intro _;rfl)(hv:∀j,Vis (C.X j).env.scope x:=by intro _;first|exact Or.inl rfl|exact Or.inr (Or.inl rfl)|exact Or.inr (Or.inr rfl))(hd:(x==("__debug__":Str))=false:=by decide)
  (hcd:(x==("__classdict__":Str))=false:=by decide):SE C (some [0,1,i+2]) (.Name x pos) (jC i):=⟨_,λ j=>nj (hN j) (hv j) hd hcd,aJa _ _ i⟩
theorem aC(i:Nat)(hN:∀j,(C.X j).N[i]? =some x:=by intro _;rfl)(hv:∀j,Vis (C.X j).env.scope x:=by intro _;first|exact Or.inl rfl|exact Or.inr (Or.inl rfl)|exact Or.inr (Or.inr rfl))(hd:(x==("__debug__":Str))=false:=by decide)
  (hcd:(x==("__classdict__":Str))=false:=by decide):SE C (some [0,1]) (.Name x pos) (aB i):=⟨_,λ j=>nj (hN j) (hv j) hd hcd,aHO _ _ i⟩
theorem iU(i:Nat)(hN:∀j,(C.X j).N[i]? =some x:=by intro _;rfl)(hv:∀j,Vis (C.X j).env.scope x:=by intro _;first|exact Or.inl rfl|exact Or.inr (Or.inl rfl)|exact Or.inr (Or.inr rfl))(hd:(x==("__debug__":Str))=false:=by decide)
  (hcd:(x==("__classdict__":Str))=false:=by decide):SE C (some [1]) (.Name x pos) (ik i):=⟨_,λ j=>nj (hN j) (hv j) hd hcd,aHQ _ _ i⟩
theorem o7(i:Nat)(hN:∀j,(C.X j).N[i]? =some x:=by intro _;rfl)(hv:∀j,Vis (C.X j).env.scope x:=by intro _;first|exact Or.inl rfl|exact Or.inr (Or.inl rfl)|exact Or.inr (Or.inr rfl))(hd:(x==("__debug__":Str))=false:=by decide)
  (hcd:(x==("__classdict__":Str))=false:=by decide):SE C (some [1,i+2]) (.Name x pos) (nW i):=⟨_,λ j=>nj (hN j) (hv j) hd hcd,aHP _ _ i⟩
theorem aJ:SE C (some []) (.Constant (.int i) j pos) (cD (.int i)):=⟨_,λ _=>aBr,λ τ σ H ρ lab Q R W=>W _ H (aq.refl H) (.int i)⟩
theorem fJ:SE C (some []) (.Constant (.bool b) j pos) (cD (.bl b)):=⟨_,λ _=>aOV,λ τ σ H ρ lab Q R W=>W _ H (aq.refl H) (.bl b)⟩
theorem tM:SE C (some []) (.Constant .none j pos) (cD .non):=⟨_,λ _=>aM6,λ τ σ H ρ lab Q R W=>W _ H (aq.refl H) .non⟩
theorem vh:SE C (some []) (.Constant (.str x) j pos) (cD (.str x)):=⟨_,λ _=>aM2,λ τ σ H ρ lab Q R W=>W _ H (aq.refl H) (.str x)⟩
theorem aBg(hm:C.mg x=some u)(r:RelV v u)(hd:∀A H,Rp C.K A H v d)(hdb:(x==("__debug__":Str))=false:=by decide)(hg:∀i,Gl (C.X i) x:=by intro _;rfl):SE C (some []) (.Name x pos) (cD d):=
 ⟨_,λ i=>aJz (hg i) (by rw[(C.cx i).2.2.2.1];exact hm) r hdb,λ τ σ H ρ lab Q R W=>W _ H (aq.refl H) (hd _ _)⟩
def kO(d:D):Rs D:=if imm d=true then .ok d else .st
def aP(f:En->Rs D):En->Rs D:=λ ρ=>(f ρ).bd kO
theorem aW(h:SE C m e f):SE C (some []) e (aP f):=by
 obtain⟨t,h1,h2⟩:=h;refine⟨t,h1,λ τ σ H ρ lab Q R W=>h2 τ σ H ρ lab Q R (W.bd.imp λ d _ w v H' s r=>?_)⟩;unfold kO at w;by_cases hd:imm d=true
 ·rw[if_pos hd]at w
  exact w v H' s (r.imm hd)
 ·rw[if_neg hd]at w
  exact False.elim w
def aF:En->Rs (List D):=λ _=>.ok []
def aA(f:En->Rs D)(g:En->Rs (List D)):En->Rs (List D):=λ ρ=>(f ρ).bd λ d=>(g ρ).bd λ ds=>.ok (d::ds)
variable{m m1 m2:Mode}{e a b:Expr}{es:List Expr}{f fa fb:En->Rs D}{g:En->Rs (List D)}
theorem aG:SA C (some []) [] aF:=⟨_,λ _=>jK,λ τ σ H ρ lab Q R W=>W _ H (aq.refl H) .nil⟩
theorem aD(h:SE C m1 e f)(hr:SA C m2 es g)(hs:∀i,starEach (e::es) (C.X i).env=(false,eval e (C.X i).env)::starEach es (C.X i).env:=by intro _;rfl):SA C (jn m1 m2) (e::es) (aA f g):=by
 obtain⟨t,h1,h2⟩:=h;obtain⟨u,k1,k2⟩:=hr;refine⟨_,λ i=>gF (h1 i) (k1 i) (hs i),λ τ σ H ρ lab Q R W=>?_⟩;refine h2 τ σ H ρ lab _ R (W.bd.imp λ d _ w x H1 s1 r1=>?_);refine k2 τ σ H1 ρ lab _ (R.up s1) (w.bd.imp λ ds _ w xs H2 s2 r2=>?_);exact w (x::xs) H2 (s1.trans s2) (.cons (r1.mono s2 λ p o _ z=>aIn z) (r2.wk λ p o _ z=>aIm (qd s1 z)))
def aZ(g:En->Rs (List D)):En->Rs D:=λ ρ=>(g ρ).bd λ ds=>if ds.length<=sizeLine then .ok (.tup ds)else .st
def fD(g:En->Rs (List D)):En->Rs D:=λ ρ=>(g ρ).bd λ ds=>if ds.length<=sizeLine then .ok (.lst ds)else .st
theorem aa{x1}(h:SA C m es g):SE C m (.Tuple es x1 pos) (aZ g):=by
 obtain⟨t,h1,h2⟩:=h;refine⟨_,λ i=>aJx (h1 i),λ τ σ H ρ lab Q R W=>h2 τ σ H ρ lab _ R (W.bd.imp λ ds _ w xs H1 s1 r1=>?_)⟩;by_cases hz:ds.length<=sizeLine
 ·rw[if_pos hz]at w
  exact⟨by rw[r1.length];exact hz,λ p H' s hp _=>w _ H' (s1.trans s) (.tup (SqT.of hp) (r1.up s))⟩
 ·rw[if_neg hz]at w
  exact False.elim w
theorem jY(h:SA C m es g):SE C m (.List es pos) (fD g):=by
 obtain⟨t,h1,h2⟩:=h;refine⟨_,λ i=>ue (h1 i),λ τ σ H ρ lab Q R W=>h2 τ σ H ρ lab _ R (W.bd.imp λ ds _ w xs H1 s1 r1=>?_)⟩;by_cases hz:ds.length<=sizeLine
 ·rw[if_pos hz]at w
  exact⟨by rw[r1.length];exact hz,λ p H' s hp hn=>w _ H' (s1.trans s) (.lst hp (.inl (s1.free hn)) ((r1.wk λ q o e z=>⟨z,λ e'=>by subst e';rw[hn]at e;cases e⟩).up s))⟩
 ·rw[if_neg hz]at w
  exact False.elim w
theorem aJf:SE C (some []) (.Dict [] [] pos) (cD (.dct [] [])):=
 ⟨_,λ _=>aHq,λ τ σ H ρ lab Q R W p H' s hp hn=>W _ H' s (.dK (kvs:=[]) hp (.inl hn) .nil)⟩
def aNu(H:Hp)(v:V)(d:D):Prop:=aGQ d=true->∃a,v= .ref a/\H a=none
def aNi(K:PySem.W.Frag)(G:Gx)(m:Mode)(t:TE)(f:En->Rs D):Prop:=∀τ σ H ρ lab (Q:VK),RR K G τ ρ σ H lab->WR G (f ρ) (λ d=>∀v H',aq H H'->Rp K (fpM m lab H) H' v d->aNu H v d->Q v H')->t σ H Q
def SF(C:Ct)(m:Mode)(e:Expr)(f:En->Rs D):Prop:=∃t,(∀i,PE (C.X i) e t)/\aNi C.K C.G m t f
theorem km.toF{K:PySem.W.Frag}{G:Gx}{t:TE}{f:En->Rs D}(h:km K G (some []) t f):aNi K G (some []) t f:=λ τ σ H ρ lab Q R W=>
 h τ σ H ρ lab Q R (W.imp λ d _ w v H' s r=>w v H' s r λ hm=>by
  obtain⟨a,rfl⟩:=aMH r hm;obtain⟨o,_,_,z⟩:=aH3 r hm;rcases z with z|z
  ·exact⟨a,rfl,z⟩
  ·cases z)
theorem vd(h:SA C m es g):SF C m (.List es pos) (fD g):=by
 obtain⟨t,h1,h2⟩:=h;refine⟨_,λ i=>ue (h1 i),λ τ σ H ρ lab Q R W=>h2 τ σ H ρ lab _ R (W.bd.imp λ ds _ w xs H1 s1 r1=>?_)⟩;by_cases hz:ds.length<=sizeLine
 ·rw[if_pos hz]at w
  exact⟨by rw[r1.length];exact hz,λ p H' s hp hn=>w _ H' (s1.trans s) (.lst hp (.inl (s1.free hn)) ((r1.wk λ q o e z=>⟨z,λ e'=>by subst e';rw[hn]at e;cases e⟩).up s)) λ _=>⟨p,rfl,s1.free hn⟩⟩
 ·rw[if_neg hz]at w
  exact False.elim w
def OpS(K:PySem.W.Frag)(r:R2)(fd:D->D->Rs D):Prop:=∀(A:Addr->Prop) x y d e H (Q:VK) z,Rp K A H x d->Rp K A H y e->fd d e= .ok z->(∀v H',aq H H'->Rp K (λ p=>H p=none\/A p) H' v z->Q v H')->r x y H Q
def UnS(K:PySem.W.Frag)(r:V->Hp->VK->Prop)(fd:D->Rs D):Prop:=∀(A:Addr->Prop) x d H (Q:VK) z,Rp K A H x d->fd d= .ok z->(∀v H',aq H H'->Rp K (λ p=>H p=none\/A p) H' v z->Q v H')->r x H Q
def p7(K:PySem.W.Frag)(r:List V->Hp->VK->Prop)(fd:List D->Rs D):Prop:=∀(A:Addr->Prop) xs ds H (Q:VK) z,Rps K A H xs ds->fd ds= .ok z->(∀v H',aq H H'->Rp K (λ p=>H p=none\/A p) H' v z->Q v H')->r xs H Q
def okD(r:Rs D):Rs D:=match r with
 | .ok d=>.ok d
 |_=>.st
def op2(fd:D->D->Rs D)(fa fb:En->Rs D):En->Rs D:=λ ρ=>(fa ρ).bd λ x=>(fb ρ).bd λ y=>okD (fd x y)
def op1(fd:D->Rs D)(fa:En->Rs D):En->Rs D:=λ ρ=>(fa ρ).bd λ x=>okD (fd x)
def opA(fd:List D->Rs D)(fa:En->Rs (List D)):En->Rs D:=λ ρ=>(fa ρ).bd λ x=>okD (fd x)
theorem WR.okD(h:WR G (okD r) P):∃z,r= .ok z/\P z:=by
 cases r with
 |ok z=>exact⟨z,rfl,h⟩
 |ex c=>exact False.elim h
 |st=>exact False.elim h
theorem aB8{K:PySem.W.Frag}{G:Gx}{r:R2}{ta tb:TE}{fd:D->D->Rs D}(hs:OpS K r fd)(h1:km K G m1 ta fa)(h2:km K G m2 tb fb):km K G (jn m1 m2) (tOp r ta tb) (op2 fd fa fb):=by
 intro τ σ H ρ lab Q R W;refine h1 τ σ H ρ lab _ R (W.bd.imp λ d _ w x H1 s1 r1=>?_);refine h2 τ σ H1 ρ lab _ (R.up s1) (w.bd.imp λ e _ w y H2 s2 r2=>?_);obtain⟨z,ez,w⟩:=w.okD;refine hs (fpM (jn m1 m2) lab H) x y d e H2 Q z (r1.mono s2 λ p o _ q=>aIn q) (r2.wk λ p o _ q=>aIm (qd s1 q)) ez λ v H' s r=>w v H' ((s1.trans s2).trans s) (r.wk λ p o _ q=>?_)
 rcases q with q|q
 ·exact .inl ((s1.trans s2).free q)
 ·exact q
theorem aJc{K:PySem.W.Frag}{G:Gx}{r:V->Hp->VK->Prop}{ta:TE}{fd:D->Rs D}(hs:UnS K r fd)(h1:km K G m ta fa):km K G m (tUn r ta) (op1 fd fa):=by
 intro τ σ H ρ lab Q R W;refine h1 τ σ H ρ lab _ R (W.bd.imp λ d _ w x H1 s1 r1=>?_);obtain⟨z,ez,w⟩:=w.okD;refine hs (fpM m lab H) x d H1 Q z r1 ez λ v H' s r=>w v H' (s1.trans s) (r.wk λ p o _ q=>?_)
 rcases q with q|q
 ·exact .inl (s1.free q)
 ·exact q
theorem aFK{K:PySem.W.Frag}{G:Gx}{r:List V->Hp->VK->Prop}{ta:TA}{fd:List D->Rs D}(hs:p7 K r fd)(h1:aLJ K G m ta g):km K G m (tCB r ta) (opA fd g):=by
 intro τ σ H ρ lab Q R W;refine h1 τ σ H ρ lab _ R (W.bd.imp λ d _ w x H1 s1 r1=>?_);obtain⟨z,ez,w⟩:=w.okD;refine hs (fpM m lab H) x d H1 Q z r1 ez λ v H' s r=>w v H' (s1.trans s) (r.wk λ p o _ q=>?_)
 rcases q with q|q
 ·exact .inl (s1.free q)
 ·exact q
theorem gf(h:SE C m e f)(hi:∀ρ d,f ρ= .ok d->imm d=true):SE C (some []) e f:=by
 obtain⟨t,h1,h2⟩:=h;exact⟨t,h1,λ τ σ H ρ lab Q R W=>h2 τ σ H ρ lab Q R (W.imp λ d ed w v H' s r=>w v H' s (r.imm (hi ρ d ed)))⟩
theorem lK(h:∀x y z,fd x y= .ok z->imm z=true)(e:op2 fd fa fb ρ= .ok d):imm d=true:=by
 obtain⟨x,_,e⟩:=dY e;obtain⟨y,_,e⟩:=dY e;unfold okD at e;split at e
 ·rename_i z hz
  cases e;exact h x y _ hz
 ·cases e
theorem aKi(h:∀x z,fd x= .ok z->imm z=true)(e:op1 fd fa ρ= .ok d):imm d=true:=by
 obtain⟨x,_,e⟩:=dY e;unfold okD at e;split at e
 ·rename_i z hz
  cases e;exact h x _ hz
 ·cases e
theorem nQ(h:∀x z,fd x= .ok z->imm z=true)(e:opA fd g ρ= .ok d):imm d=true:=by
 obtain⟨x,_,e⟩:=dY e;unfold okD at e;split at e
 ·rename_i z hz
  cases e;exact h x _ hz
 ·cases e
theorem aAv(ro:∀i,OpR (C.X i) (binaryOp op) r)(hs:OpS C.K r fd)(ha:SE C m1 a fa)(hb:SE C m2 b fb):SE C (jn m1 m2) (.BinOp a op b pos) (op2 fd fa fb):=by
 obtain⟨t,h1,h2⟩:=ha;obtain⟨u,k1,k2⟩:=hb;exact⟨_,λ i=>aL7 (ro i) (h1 i) (k1 i),aB8 hs h2 k2⟩
theorem aOG(ro:∀i,UnR (C.X i) (unaryOp op) r)(hs:UnS C.K r fd)(ha:SE C m a fa):SE C m (.UnaryOp op a pos) (op1 fd fa):=by
 obtain⟨t,h1,h2⟩:=ha;exact⟨_,λ i=>aHo (ro i) (h1 i),aJc hs h2⟩
theorem zE(ro:∀i,OpR (C.X i) (compareOp op) r)(hs:OpS C.K r fd)(ha:SE C m1 a fa)(hb:SE C m2 b fb)(hm:behindInMarks op b=false:=by first|exact aIC _|(with_unfolding_all rfl)):
  SE C (jn m1 m2) (.Compare a [op] [b] pos) (op2 fd fa fb):=by
 obtain⟨t,h1,h2⟩:=ha;obtain⟨u,k1,k2⟩:=hb;exact⟨_,λ i=>aKB (ro i) (h1 i) (k1 i) hm,aB8 hs h2 k2⟩
variable{p:Pos}{x:Str}{id T:String}
theorem kJ(ro:∀i,dR (C.X i) (.builtin id) r)(hs:p7 C.K r fd)(hg:∀i,Gl (C.X i) x)(hm:C.mg x=none)(hv:bootBuiltins x=some (.builtin id))(ha:SA C m (e::es) g)
  (hn:x≠"__name__":=by decide)(hdb:(x==("__debug__":Str))=false:=by decide)(he:∀i,starEach (e::es) (C.X i).env=(false,eval e (C.X i).env)::starEach es (C.X i).env:=by intro _;rfl)
  (hpl:∀i,(backTo pos (starEach es (C.X i).env)).any (·.1)=false:=by intro _;rfl):SE C m (.Call (.Name x p) (e::es) [] pos) (opA fd g):=by
 obtain⟨t,h1,h2⟩:=ha;exact⟨_,λ i=>uf (ro i) (hg i) (by rw[(C.cx i).2.2.2.1];exact hm) hv (h1 i) hn hdb (he i) (hpl i),aFK hs h2⟩
theorem aCg(ro:∀i,dR (C.X i) (.type T) r)(hs:p7 C.K r fd)(hg:∀i,Gl (C.X i) x)(hm:C.mg x=none)(hv:bootBuiltins x=some (.type T))(ha:SA C m (e::es) g)
  (hn:x≠"__name__":=by decide)(hdb:(x==("__debug__":Str))=false:=by decide)(he:∀i,starEach (e::es) (C.X i).env=(false,eval e (C.X i).env)::starEach es (C.X i).env:=by intro _;rfl)
  (hpl:∀i,(backTo pos (starEach es (C.X i).env)).any (·.1)=false:=by intro _;rfl):SE C m (.Call (.Name x p) (e::es) [] pos) (opA fd g):=by
 obtain⟨t,h1,h2⟩:=ha;exact⟨_,λ i=>jf (ro i) (hg i) (by rw[(C.cx i).2.2.2.1];exact hm) hv (h1 i) hn hdb (he i) (hpl i),aFK hs h2⟩
def iw(f g:En->Rs D):En->Rs D:=λ ρ=>(f ρ).bd λ d=>match d with
 | .bl true=>g ρ
 | .bl false=>.ok (.bl false)
 |_=>.st
def orD(f g:En->Rs D):En->Rs D:=λ ρ=>(f ρ).bd λ d=>match d with
 | .bl false=>g ρ
 | .bl true=>.ok (.bl true)
 |_=>.st
def aKR:D->Rs D
 | .bl b=>.ok (.bl (!b))
 |_=>.st
variable{rest:List Expr}
theorem g8{op}(h:SE C m a fa):SE C m (.BoolOp op [a] pos) fa:=by
 obtain⟨t,h1,h2⟩:=h;exact⟨_,λ i=>aM4 (h1 i),h2⟩
theorem fB(ha:SE C m1 a fa)(hb:SE C m2 (.BoolOp .And (b::rest) pos) fb):SE C m2 (.BoolOp .And (a::b::rest) pos) (iw fa fb):=by
 obtain⟨t,h1,h2⟩:=ha;obtain⟨u,k1,k2⟩:=hb;refine⟨_,λ i=>aM8 (h1 i) (k1 i),λ τ σ H ρ lab Q R W=>h2 τ σ H ρ lab _ R (W.bd.imp λ d _ w x H1 s1 r1=>?_)⟩;cases r1 with
 |bl c=>
  refine⟨c,rfl,?_⟩;cases c with
  |true=>
   rw[if_pos rfl];exact k2 τ σ H1 ρ lab Q (R.up s1) (w.imp λ z _ w v H' s r=>w v H' (s1.trans s) (r.wk λ p o _ q=>qd s1 q))
  |false=>
   rw[if_neg Bool.false_ne_true];exact w _ H1 s1 (.bl false)
 |_=>exact False.elim w
theorem aOH(ha:SE C m1 a fa)(hb:SE C m2 (.BoolOp .Or (b::rest) pos) fb):SE C m2 (.BoolOp .Or (a::b::rest) pos) (orD fa fb):=by
 obtain⟨t,h1,h2⟩:=ha;obtain⟨u,k1,k2⟩:=hb;refine⟨_,λ i=>aOS (h1 i) (k1 i),λ τ σ H ρ lab Q R W=>h2 τ σ H ρ lab _ R (W.bd.imp λ d _ w x H1 s1 r1=>?_)⟩;cases r1 with
 |bl c=>
  refine⟨c,rfl,?_⟩;cases c with
  |false=>
   rw[if_neg Bool.false_ne_true];exact k2 τ σ H1 ρ lab Q (R.up s1) (w.imp λ z _ w v H' s r=>w v H' (s1.trans s) (r.wk λ p o _ q=>qd s1 q))
  |true=>
   rw[if_pos rfl];exact w _ H1 s1 (.bl true)
 |_=>exact False.elim w
theorem aHV(ha:SE C m a fa):SE C (some []) (.UnaryOp .Not a pos) (op1 aKR fa):=by
 obtain⟨t,h1,h2⟩:=ha;refine⟨_,λ i=>aM5 (h1 i),λ τ σ H ρ lab Q R W=>h2 τ σ H ρ lab _ R (W.bd.imp λ d _ w x H1 s1 r1=>?_)⟩;obtain⟨z,ez,w⟩:=w.okD;cases r1 with
 |bl c=>cases ez;exact⟨c,rfl,w _ H1 s1 (.bl _)⟩
 |_=>cases ez
def chD(fd fd':D->D->Rs D)(fa fb fc:En->Rs D):En->Rs D:=λ ρ=>(fa ρ).bd λ x=>(fb ρ).bd λ y=>(okD (fd x y)).bd λ z=>match z with
 | .bl true=>(fc ρ).bd λ w=>okD (fd' y w)
 | .bl false=>.ok (.bl false)
 |_=>.st
theorem aGA{K:PySem.W.Frag}{G:Gx}{r r':R2}{ta tb tc:TE}{fd fd':D->D->Rs D}{fc:En->Rs D}{m3:Mode}(hs:OpS K r fd)(hs':OpS K r' fd')(hi:∀x y z,fd' x y= .ok z->imm z=true)(h1:km K G m1 ta fa)(h2:km K G m2 tb fb)(h3:km K G m3 tc fc):
  km K G (some []) (aHE r r' ta tb tc) (chD fd fd' fa fb fc):=by
 intro τ σ H ρ lab Q R W;refine h1 τ σ H ρ lab _ R (W.bd.imp λ d _ w x H1 s1 r1=>?_);refine h2 τ σ H1 ρ lab _ (R.up s1) (w.bd.imp λ e _ w y H2 s2 r2=>?_);obtain⟨z,ez,w⟩:=w.bd.okD;refine hs (λ _=>True) x y d e H2 _ z (r1.mono s2 λ p o _ q=>trivial) (r2.wk λ p o _ q=>trivial) ez λ v H3 s3 r3=>?_
 cases r3 with
 |bl c=>
  refine⟨c,rfl,?_⟩;cases c with
  |false=>
   rw[if_neg Bool.false_ne_true];exact w _ H3 ((s1.trans s2).trans s3) (.bl false)
  |true=>
   rw[if_pos rfl];refine h3 τ σ H3 ρ lab _ ((R.up s1).up (s2.trans s3)) (w.bd.imp λ e' _ w y' H4 s4 r4=>?_);obtain⟨z',ez',w⟩:=w.okD;exact hs' (λ _=>True) y y' e e' H4 Q z' (r2.mono (s3.trans s4) λ p o _ q=>trivial) (r4.wk λ p o _ q=>trivial) ez' λ v H5 s5 r5=>w v H5 ((((s1.trans s2).trans s3).trans s4).trans s5) (r5.imm (hi _ _ _ ez'))
 |_=>exact False.elim w
theorem aCf(ro:∀i,OpR (C.X i) (compareOp op) r)(hs:OpS C.K r fd)(ro':∀i,OpR (C.X i) (compareOp op') r')(hs':OpS C.K r' fd')(hi:∀x y z,fd' x y= .ok z->imm z=true)
  (ha:SE C m1 a fa)(hb:SE C m2 b fb)(hc:SE C m3 c fc)(hm:lastMarks [op,op'] [b,c]=false:=by with_unfolding_all rfl):SE C (some []) (.Compare a [op,op'] [b,c] pos) (chD fd fd' fa fb fc):=by
 obtain⟨t,h1,h2⟩:=ha;obtain⟨u,k1,k2⟩:=hb;obtain⟨v,l1,l2⟩:=hc;exact⟨_,λ i=>aHr (ro i) (ro' i) (h1 i) (k1 i) (l1 i) hm,aGA hs hs' hi h2 k2 l2⟩
def aLq:D->Rs Bool
 | .non=>.ok false
 | .bl b=>.ok b
 | .int i=>.ok (i !=0)
 | .tup l=>.ok (!l.isEmpty)
 | .lst l=>.ok (!l.isEmpty)
 |_=>.st
def blD:D->Rs Bool
 | .bl b=>.ok b
 |_=>.st
def tst(f:En->Rs D):En->Rs Bool:=λ ρ=>(f ρ).bd aLq
def tsb(f:En->Rs D):En->Rs Bool:=λ ρ=>(f ρ).bd blD
theorem zc{K:PySem.W.Frag}{A:Addr->Prop}{H:Hp}{xs:List V}{ds:List D}(r:Rps K A H xs ds):(!ds.isEmpty)= !xs.isEmpty:=by cases r<;>rfl
theorem eN(ha:SE C m a fa)(he:∀i whole,isTrue a (C.X i).env whole=(do let v <-whole;standAt a.pos;holding [v] (truthy v)):=by intro _ _;rfl):ST C a (tst fa):=by
 obtain⟨t,h1,h2⟩:=ha;refine⟨λ σ H Q=>t σ H λ x H'=>∃k,aNh C.K x H' k/\Q k H',λ i=>by rw[<-C.hK i];exact aHg (h1 i) (he i),λ τ σ H ρ lab Q R W=>h2 τ σ H ρ lab _ R (W.bd.imp λ d _ w x H1 s1 r1=>?_)⟩;cases r1 with
 |non=>exact⟨false,rfl,w H1 s1⟩
 |bl b=>exact⟨b,rfl,w H1 s1⟩
 |int i=>exact⟨i !=0,rfl,w H1 s1⟩
 |tup h r=>exact⟨_,.inr (.inl ⟨_,h,rfl⟩),by rw[<-zc r];exact w H1 s1⟩
 |lst h m r=>exact⟨_,.inl ⟨_,SqL.of h,rfl⟩,by rw[<-zc r];exact w H1 s1⟩
 |_=>exact False.elim w
theorem aJb{K:PySem.W.Frag}{G:Gx}{t:TE}{f:En->Rs D}(h:km K G m t f):aDr K G (aLT t) (tsb f):=λ τ σ H ρ lab Q R W=>h τ σ H ρ lab _ R (W.bd.imp λ d _ w x H1 s1 r1=>by
 cases r1 with
 |bl b=>exact⟨b,rfl,w H1 s1⟩
 |_=>exact False.elim w)
theorem qF(ro:∀i,OpR (C.X i) (compareOp op) r)(hs:OpS C.K r fd)(ha:SE C m1 a fa)(hb:SE C m2 b fb)(hm:behindInMarks op b=false:=by first|exact aIC _|(with_unfolding_all rfl)):
  ST C (.Compare a [op] [b] pos) (tsb (op2 fd fa fb)):=by
 obtain⟨t,h1,h2⟩:=ha;obtain⟨u,k1,k2⟩:=hb;exact⟨_,λ i=>aJo (ro i) (h1 i) (k1 i) hm,aJb (aB8 hs h2 k2)⟩
variable{ga gb:En->Rs Bool}
def aEx(f g:En->Rs Bool):En->Rs Bool:=λ ρ=>(f ρ).bd λ k=>if k=true then g ρ else .ok false
def orT(f g:En->Rs Bool):En->Rs Bool:=λ ρ=>(f ρ).bd λ k=>if k=true then .ok true else g ρ
def fC(f:En->Rs Bool):En->Rs Bool:=λ ρ=>(f ρ).bd λ k=>.ok (!k)
theorem aFF(ha:ST C a ga):SW C (.BoolOp .And [a] pos) ga:=let⟨t,h1,h2⟩:=ha;⟨t,λ i=>aJn (h1 i),h2⟩
theorem kY(ha:ST C a ga):SW C (.BoolOp .Or [a] pos) ga:=let⟨t,h1,h2⟩:=ha;⟨t,λ i=>aMN (h1 i),h2⟩
theorem aHH(ha:ST C a ga)(hb:SW C (.BoolOp .And (b::rest) pos) gb):SW C (.BoolOp .And (a::b::rest) pos) (aEx ga gb):=by
 obtain⟨t,h1,h2⟩:=ha;obtain⟨u,k1,k2⟩:=hb;refine⟨_,λ i=>aMO (h1 i) (k1 i),λ τ σ H ρ lab Q R W=>h2 τ σ H ρ lab _ R (W.bd.imp λ k _ w H1 s1=>?_)⟩;cases k with
 |true=>
  rw[if_pos rfl]at w ⊢;exact k2 τ σ H1 ρ lab Q (R.up s1) (w.imp λ z _ w H' s=>w H' (s1.trans s))
 |false=>
  rw[if_neg Bool.false_ne_true]at w ⊢;exact w H1 s1
theorem oE(ha:ST C a ga)(hb:SW C (.BoolOp .Or (b::rest) pos) gb):SW C (.BoolOp .Or (a::b::rest) pos) (orT ga gb):=by
 obtain⟨t,h1,h2⟩:=ha;obtain⟨u,k1,k2⟩:=hb;refine⟨_,λ i=>aOQ (h1 i) (k1 i),λ τ σ H ρ lab Q R W=>h2 τ σ H ρ lab _ R (W.bd.imp λ k _ w H1 s1=>?_)⟩;cases k with
 |false=>
  rw[if_neg Bool.false_ne_true]at w ⊢;exact k2 τ σ H1 ρ lab Q (R.up s1) (w.imp λ z _ w H' s=>w H' (s1.trans s))
 |true=>
  rw[if_pos rfl]at w ⊢;exact w H1 s1
theorem fL(ha:ST C a ga):ST C (.UnaryOp .Not a pos) (fC ga):=by
 obtain⟨t,h1,h2⟩:=ha;exact⟨_,λ i=>aMQ (h1 i),λ τ σ H ρ lab Q R W=>h2 τ σ H ρ lab _ R (W.bd.imp λ k _ w H1 s1=>w H1 s1)⟩
end
inductive Ou where
 |nx (ρ:En)|rt (d:D)|bk (ρ:En)|ct (ρ:En)|ex (c:Str)|st
def Rs.bo{α:Type}:Rs α->(α->Ou)->Ou
 | .ok a,f=>f a
 | .ex c,_=>.ex c
 | .st,_=>.st
@[simp] theorem cI(a:α)(f:α->Ou):(Rs.ok a).bo f=f a:=aU rfl
def Ou.sq:Ou->(En->Ou)->Ou
 | .nx ρ,f=>f ρ
 |o,_=>o
@[simp] theorem ak(ρ:En)(f:En->Ou):(Ou.nx ρ).sq f=f ρ:=aU rfl
@[simp] theorem sq_rt(d:D)(f:En->Ou):(Ou.rt d).sq f= .rt d:=aU rfl
def WS(K:PySem.W.Frag)(G:Gx)(τ:List (V×D))(o:Ou)(De:Ends):Prop:=match o with
 | .nx ρ=>∀σ H lab,RR K G τ ρ σ H lab->De.nx σ H
 | .bk ρ=>∀σ H lab,RR K G τ ρ σ H lab->De.bk σ H
 | .ct ρ=>∀σ H lab,RR K G τ ρ σ H lab->De.ct σ H
 | .rt d=>∀v H,aq G.H0 H->Rp K (λ p=>G.H0 p=none) H v d->De.rt v H
 | .ex c=>∀H',aq G.H0 H'->G.E (.ref (G.cl c)) none H'
 | .st=>False
theorem WS.bo{K:PySem.W.Frag}(h:WS K G τ (r.bo k) De):WR G r (λ a=>WS K G τ (k a) De):=by
 cases r with
 |ok a=>exact h
 |ex c=>exact h
 |st=>exact h
def aOm(K:PySem.W.Frag)(G:Gx)(t:TS)(f:En->Ou):Prop:=∀τ σ H ρ lab (De:Ends),RR K G τ ρ σ H lab->WS K G τ (f ρ) De->t De σ H
def SS(C:Ct)(s:Stmt)(f:En->Ou):Prop:=∃t,(∀i,PS (C.X i) s t)/\aOm C.K C.G t f
def SSs(C:Ct)(s:List Stmt)(f:En->Ou):Prop:=∃t,(∀i,PSs (C.X i) s t)/\aOm C.K C.G t f
section
variable{C:Ct}{pos:Pos}{s:Stmt}{ss:List Stmt}{f g:En->Ou}{e:Expr}{m:Mode}{fe:En->Rs D}
theorem bT:SSs C [] .nx:=⟨_,λ _=>aJq,λ τ σ H ρ lab De R W=>W σ H lab R⟩
def aQ(f g:En->Ou):En->Ou:=λ ρ=>(f ρ).sq g
theorem aN(h:SS C s f):SSs C [s] f:=let⟨t,h1,h2⟩:=h;⟨t,λ i=>aJp (h1 i),h2⟩
theorem aK(h:SS C s f)(k:SSs C ss g):SSs C (s::ss) (aQ f g):=by
 obtain⟨t,h1,h2⟩:=h;obtain⟨u,k1,k2⟩:=k;refine⟨_,λ i=>aHh (h1 i) (k1 i),λ τ σ H ρ lab De R W=>h2 τ σ H ρ lab _ R ?_⟩;unfold aQ at W;cases h:f ρ with
 |nx ρ'=>rw[h]at W;exact λ σ' H' lab' R'=>k2 τ σ' H' ρ' lab' De R' W
 |rt d=>rw[h]at W;exact W
 |bk ρ'=>rw[h]at W;exact W
 |ct ρ'=>rw[h]at W;exact W
 |ex c=>rw[h]at W;exact W
 |st=>rw[h]at W;exact W
def frz(i:Nat)(ρ:En):En:=match ρ[i]? with
 |some (.ow d)=>ρ.set i (.nw d)
 |some (.o2 l)=>ρ.set i (.nw (.lst (l.map .lst)))
 |_=>ρ
theorem RR.frz{K:PySem.W.Frag}(R:RR K G τ ρ σ H lab)(i:Nat):∃lab',RR K G τ (frz i ρ) σ H lab':=by
 have go:∀d,(∃s,ρ[i]? =some s/\∀v,jN K H lab i v s->Rp K (λ p=>(lab p).1=1\/(lab p).1=i+2) H v d)->(∃v s,ρ[i]? =some s/\σ[i]? =some (some v)/\jN K H lab i v s)->∃lab',RR K G τ (ρ.set i (.nw d)) σ H lab':=by
  rintro d ⟨s0,es0,hrp⟩ ⟨v,s,es,ev,hs⟩;rw[es]at es0;cases es0;have hv:=hrp v hs;let lab':Lab:=λ p=>if (lab p).1=i+2 then(1,0)else lab p
  have lo:∀{p},(lab p).1≠i+2->lab' p=lab p:=λ{p} h=>by show(if (lab p).1=i+2 then((1,0):Nat×Nat)else lab p)=_;rw[if_neg h]
  have ln:∀{p},(lab p).1=i+2->lab' p=(1,0):=λ{p} h=>by show(if (lab p).1=i+2 then((1,0):Nat×Nat)else lab p)=_;rw[if_pos h]
  refine⟨lab',by rw[List.length_set];exact R.len,λ j x e=>?_,R.old,λ p hp=>?_,λ q hq=>Rp.wk (λ p o e z=>by rw[lo (by lia)];exact z) (R.tm q hq)⟩
  ·by_cases hj:i=j
   ·subst hj
    have hi:i<ρ.length:=(List.getElem?_eq_some_iff.mp es).1;rw[List.getElem?_set_self hi]at e;cases e;refine .inr ⟨v,ev,Rp.wk (λ p o e z=>?_) hv⟩;rcases z with z|z
    ·rw[lo (by lia)];exact z
    ·rw[ln z]
   ·rw[List.getElem?_set_ne hj]at e
    rcases R.sl j x e with z|⟨u,e1,e2⟩
    ·exact .inl z
    ·refine .inr ⟨u,e1,?_⟩
     cases x with
     |no=>trivial
     |sh d'=>exact Rp.wk (λ p o e z=>by rw[lo (by lia)];exact z) e2
     |nw d'=>exact Rp.wk (λ p o e z=>by rw[lo (by lia)];exact z) e2
     |ow d'=>
      refine⟨Rp.wk (λ p o e z=>by rw[lo (by lia)];exact z) e2.1,λ hm=>?_⟩;obtain⟨a,rfl,ha⟩:=e2.2 hm;exact⟨a,rfl,by rw[lo (by lia)];exact ha⟩
     |oz d'=>
      obtain⟨a,xs,ds,q1,q2,q3,q4,q5⟩:=e2;exact⟨a,xs,ds,q1,q2,q3,by rw[lo (by lia)];exact q4,Rps.wk (λ p o e z=>by rw[lo (by lia)];exact z) q5⟩
     |o2 l=>
      obtain⟨a,xs,q1,q2,q3,q4,q5⟩:=e2;refine⟨a,xs,q1,q2,?_,q4,λ jj y ds f1 f2=>Rp.wk (λ p o e z=>?_) (q5 jj y ds f1 f2)⟩
      ·rw[lo (by rw[q3];show j+2≠i+2;lia)];exact q3
      ·rw[lo (by rw[z];show j+2≠i+2;lia)];exact z
  ·by_cases h:(lab p).1=i+2
   ·exact R.new p (by lia)
   ·rw[lo h]at hp;exact R.new p hp
 unfold VL.frz;cases e:ρ[i]? with
 |none=>exact⟨lab,R⟩
 |some s=>
  rcases R.sl i s e with rfl|⟨v,ev,hv⟩
  ·exact⟨lab,R⟩
  ·cases s with
   |no=>exact⟨lab,R⟩
   |sh d=>exact⟨lab,R⟩
   |nw d=>exact⟨lab,R⟩
   |oz d=>exact⟨lab,R⟩
   |ow d=>exact go d ⟨_,e,λ _ h=>h.1⟩ ⟨v,_,e,ev,hv⟩
   |o2 l=>exact go _ ⟨_,e,λ _ h=>(aF2 h).wk λ _ _ _ z=>.inr z⟩ ⟨v,_,e,ev,hv⟩
def aKs(i:Nat)(f:En->Ou):En->Ou:=λ ρ=>f (frz i ρ)
theorem aJ4(i:Nat)(h:SSs C ss f):SSs C ss (aKs i f):=by
 obtain⟨t,h1,h2⟩:=h;refine⟨t,h1,λ τ σ H ρ lab De R W=>?_⟩;obtain⟨lab',R'⟩:=R.frz i;exact h2 τ σ H _ lab' De R' W
def aO3:Mode->Bool
 |some L=>L.all (·!=0)
 |none=>false
def retS(fe:En->Rs D):En->Ou:=λ ρ=>(fe ρ).bo .rt
theorem au(he:SE C m e fe)(hm:aO3 m=true:=by rfl):SS C (.Return (some e) pos) (retS fe):=by
 obtain⟨t,h1,h2⟩:=he;refine⟨_,λ i=>aMR (h1 i),λ τ σ H ρ lab De R W=>h2 τ σ H ρ lab _ R (W.bo.imp λ d _ w v H' s r=>w v H' (R.old.trans s) (r.wk λ p o _ z=>?_))⟩;rcases z with z|z
 ·exact R.old.free z
 ·cases m with
  |none=>cases hm
  |some L=>
   refine R.new p λ e0=>?_
   have:=List.all_eq_true.mp hm _ z
   rw[e0]at this;simp at this
def aD8(fe:En->Rs D):En->Ou:=λ ρ=>(fe ρ).bo λ _=>.nx ρ
theorem aJ5(he:SE C m e fe)(hs:∀i,swapsWith e none pos.line (C.X i).env=pure false:=by intro _;rfl):SS C (.Expr e pos) (aD8 fe):=by
 obtain⟨t,h1,h2⟩:=he;exact⟨_,λ i=>rC (h1 i) (hs i),λ τ σ H ρ lab De R W=>h2 τ σ H ρ lab _ R (W.bo.imp λ d _ w v H' s r=>w σ H' lab (R.up s))⟩
def ifS(c:En->Rs Bool)(f g:En->Ou):En->Ou:=λ ρ=>(c ρ).bo λ k=>if k=true then f ρ else g ρ
theorem du{a b:List Stmt}(hc:ST C c fc)(ha:SSs C a f)(hb:SSs C b g):SS C (.If c a b pos) (ifS fc f g):=by
 obtain⟨tc,c1,c2⟩:=hc;obtain⟨t,h1,h2⟩:=ha;obtain⟨u,k1,k2⟩:=hb;refine⟨_,λ i=>aOR (c1 i) (h1 i) (k1 i),λ τ σ H ρ lab De R W=>c2 τ σ H ρ lab _ R (W.bo.imp λ k _ w H1 s1=>?_)⟩;cases k with
 |true=>rw[if_pos rfl]at w ⊢;exact h2 τ σ H1 ρ lab De (R.up s1) w
 |false=>rw[if_neg Bool.false_ne_true]at w ⊢;exact k2 τ σ H1 ρ lab De (R.up s1) w
def SV(C:Ct)(i:Nat)(s:Stmt)(m:Mode)(f:En->Rs D):Prop:=∃t,(∀j,PS (C.X j) s (aHG t (xK i)))/\km C.K C.G m t f
theorem eV(he:SE C m e fe)(hN:∀j,(C.X j).N[i]? =some x:=by intro _;rfl)(hx:∀j,Loc (C.X j).env.scope x:=by intro _;first|exact Or.inl rfl|exact Or.inr rfl)(hs:∀j,swapsWith e (some (.Name x pos')) pos.line (C.X j).env=pure false:=by intro _;rfl)(hf:∀j,(C.X j).fn x=true\/(C.X j).env.scope.names.lookup x=some .local:=by intro _;first|exact .inl rfl|exact .inr rfl)(nd:∀j,(C.X j).N.Nodup:=by intro _;assumption):
  SV C i (.Assign [.Name x pos'] e pos) m fe:=by
 obtain⟨t,h1,h2⟩:=he;exact⟨t,λ j=>aEU (nd j) (hN j) (hx j) (h1 j) (hs j) (hf j),h2⟩
def SVF(C:Ct)(i:Nat)(s:Stmt)(m:Mode)(f:En->Rs D):Prop:=∃t,(∀j,PS (C.X j) s (aHG t (xK i)))/\aNi C.K C.G m t f
theorem uT(he:SF C m e fe)(hN:∀j,(C.X j).N[i]? =some x:=by intro _;rfl)(hx:∀j,Loc (C.X j).env.scope x:=by intro _;first|exact Or.inl rfl|exact Or.inr rfl)(hs:∀j,swapsWith e (some (.Name x pos')) pos.line (C.X j).env=pure false:=by intro _;rfl)(hf:∀j,(C.X j).fn x=true\/(C.X j).env.scope.names.lookup x=some .local:=by intro _;first|exact .inl rfl|exact .inr rfl)(nd:∀j,(C.X j).N.Nodup:=by intro _;assumption):
  SVF C i (.Assign [.Name x pos'] e pos) m fe:=by
 obtain⟨t,h1,h2⟩:=he;exact⟨t,λ j=>aEU (nd j) (hN j) (hx j) (h1 j) (hs j) (hf j),h2⟩
theorem aLV(h:SV C i s (some []) fe):SVF C i s (some []) fe:=let⟨t,h1,h2⟩:=h;⟨t,h1,h2.toF⟩
def aF0(P:Nat->Bool):Mode->Bool
 |some L=>L.all P
 |none=>false
theorem pF(h:aF0 P m=true):∀k,inM m k->P k=true:=by
 intro k hk;cases m with
 |none=>cases h
 |some L=>exact List.all_eq_true.mp h k hk
abbrev okS:Mode->Bool:=aF0 λ k=>decide (k<=1)
abbrev okN:Mode->Bool:=aF0 λ k=>k==1
abbrev okO(i:Nat):Mode->Bool:=aF0 λ k=>k==1||k==i+2
def bY(i:Nat)(fe:En->Rs D):En->Ou:=λ ρ=>(fe ρ).bo λ d=>.nx (ρ.set i (.sh d))
def jE(i:Nat)(fe:En->Rs D):En->Ou:=λ ρ=>(fe ρ).bo λ d=>.nx (ρ.set i (.nw d))
def jX(i:Nat)(fe:En->Rs D):En->Ou:=λ ρ=>(fe ρ).bo λ d=>.nx (ρ.set i (.ow d))
theorem RR.shared{K:PySem.W.Frag}(hm:okS m=true)(R:RR K G τ ρ σ H lab)(s:aq H H')(r:Rp K (fpM m lab H) H' v d):
  RR K G τ ρ σ H' (cQ H 1 lab)/\Rp K (λ p=>(cQ H 1 lab p).1<=1) H' v d:=R.fresh (P:=λ k=>k<=1) (by decide) (λ k hk=>of_decide_eq_true (pF hm k hk)) s r
theorem bU{i:Nat}(h:SV C i s m fe)(hm:okS m=true:=by rfl):SS C s (bY i fe):=by
 obtain⟨t,h1,h2⟩:=h;refine⟨_,h1,λ τ σ H ρ lab De R W=>h2 τ σ H ρ lab _ R (W.bo.imp λ d _ w v H' s r=>?_)⟩;obtain⟨R',r'⟩:=R.shared hm s r;exact w _ _ _ (R'.put (s:=.sh d) r')
theorem gh(h:SV C i s m fe)(hm:okN m=true:=by rfl):SS C s (jE i fe):=by
 obtain⟨t,h1,h2⟩:=h;refine⟨_,h1,λ τ σ H ρ lab De R W=>h2 τ σ H ρ lab _ R (W.bo.imp λ d _ w v H' s r=>?_)⟩;obtain⟨R',r'⟩:=R.fresh (P:=λ k=>k=1) rfl (λ k hk=>beq_iff_eq.mp (pF hm k hk)) s r;exact w _ _ _ (R'.put (s:=.nw d) r')
theorem jW(h:SVF C i s m fe)(hm:okO i m=true:=by rfl):SS C s (jX i fe):=by
 obtain⟨t,h1,h2⟩:=h;refine⟨_,h1,λ τ σ H ρ lab De R W=>h2 τ σ H ρ lab _ R (W.bo.imp λ d _ w v H' s r ht=>?_)⟩;obtain⟨lab',R',r'⟩:=R.freshO i (λ k hk=>by have:=pF hm k hk;simpa using this) s r ht;exact w _ _ _ (R'.put (s:=.ow d) r')
def setZ(i:Nat)(fe:En->Rs D):En->Ou:=λ ρ=>(fe ρ).bo λ d=>match d with
 | .lst ds=>.nx (ρ.set i (.oz (.lst ds)))
 |_=>.st
def aJL(K:PySem.W.Frag)(G:Gx)(g:TG)(fg:D->En->Rs En):Prop:=∀τ v d σ H ρ lab (Q:L2.St->Hp->Prop) ρ',RR K G τ ρ σ H lab->Rp K (λ p=>(lab p).1<=1) H v d->fg d ρ= .ok ρ'->(∀σ',RR K G τ ρ' σ' H lab->Q σ' H)->g v σ H Q
def aOn(K:PySem.W.Frag)(G:Gx)(g:TGs)(fg:List D->En->Rs En):Prop:=∀τ vs ds σ H ρ lab (Q:L2.St->Hp->Prop) ρ',RR K G τ ρ σ H lab->Rps K (λ p=>(lab p).1<=1) H vs ds->fg ds ρ= .ok ρ'->(∀σ',RR K G τ ρ' σ' H lab->Q σ' H)->g vs σ H Q
def SG(C:Ct)(tg:Expr)(ks:List Nat)(fg:D->En->Rs En):Prop:=∃g,(∀i,PG (C.X i) tg g)/\aJL C.K C.G g fg/\p6 g ks/\aB3 g
def SGs(C:Ct)(tg:List Expr)(ks:List Nat)(fg:List D->En->Rs En):Prop:=∃g,(∀i,PGs (C.X i) tg g)/\aOn C.K C.G g fg/\aA1 g ks/\w6 g
def gnm(i:Nat):D->En->Rs En:=λ d ρ=>.ok (ρ.set i (.sh d))
def mU:List D->En->Rs En:=λ ds ρ=>match ds with
 |[]=>.ok ρ
 |_=>.st
def cH(f:D->En->Rs En)(g:List D->En->Rs En):List D->En->Rs En:=λ ds ρ=>match ds with
 |d::r=>(f d ρ).bd (g r)
 |_=>.st
def lL(n:Nat)(g:List D->En->Rs En):D->En->Rs En:=λ d ρ=>match d with
 | .tup ds=>if ds.length=n then g ds ρ else .st
 |_=>.st
variable{ks:List Nat}{fg:D->En->Rs En}{fgs:List D->En->Rs En}{tg:Expr}{tgs:List Expr}
theorem cu(hN:∀j,(C.X j).N[i]? =some x:=by intro _;rfl)(hx:∀j,Loc (C.X j).env.scope x:=by intro _;first|exact Or.inl rfl|exact Or.inr rfl)(hf:∀j,(C.X j).fn x=true\/(C.X j).env.scope.names.lookup x=some .local:=by intro _;first|exact .inl rfl|exact .inr rfl)(nd:∀j,(C.X j).N.Nodup:=by intro _;assumption)(hk:i∈ks:=by decide):SG C (.Name x pos) ks (gnm i):=
 ⟨_,λ j=>aJw (nd j) (hN j) (hx j) (hf j),λ τ v d σ H ρ lab Q ρ' R r e q=>by cases e;exact q _ (R.put (s:=.sh d) r),aKn hk,aKp⟩
theorem rA:SGs C [] ks mU:=by
 refine⟨_,λ _=>aJv,λ τ vs ds σ H ρ lab Q ρ' R r e q=>?_,aKm,aKo⟩;cases r with
 |nil=>cases e;exact⟨rfl,q _ R⟩
 |cons _ _=>cases e
theorem gO(h:SG C tg ks fg)(k:SGs C tgs ks fgs)(hs:∀i,(assignEach (tg::tgs) (C.X i).env).map (·.2)=assign tg (C.X i).env::(assignEach tgs (C.X i).env).map (·.2):=by intro _;rfl):SGs C (tg::tgs) ks (cH fg fgs):=by
 obtain⟨g,h1,h2,h3,h4⟩:=h;obtain⟨u,k1,k2,k3,k4⟩:=k;refine⟨_,λ i=>aHn (h1 i) (k1 i) (hs i),λ τ vs ds σ H ρ lab Q ρ' R r e q=>?_,aIf h3 h4 k3 k4,aIj h4 k4⟩;cases r with
 |nil=>cases e
 |cons h r=>
  obtain⟨ρ1,e1,e2⟩:=dY e;exact⟨_,_,rfl,h2 τ _ _ σ H ρ lab _ ρ1 R h e1 λ σ1 R1=>k2 τ _ _ σ1 H ρ1 lab Q ρ' R1 r e2 q⟩
theorem v9(h:SGs C tgs ks fgs)(hn:∀i,(assignEach tgs (C.X i).env).length=n:=by intro _;rfl)(hst:∀i,(assignEach tgs (C.X i).env).findIdx? (·.1)=none:=by intro _;rfl):SG C (.Tuple tgs k pos) ks (lL n fgs):=by
 obtain⟨u,k1,k2,k3,k4⟩:=h;refine⟨aKq C.K n u,λ i=>by rw[<-C.hK i];exact aMY (C.calm i) (k1 i) (hn i) (hst i),λ τ v d σ H ρ lab Q ρ' R r e q=>?_,wR k3,aNX k4⟩;cases r with
 |tup h r=>
  unfold lL at e;dsimp only at e;split at e
  ·rename_i hl
   exact⟨_,_,rfl,h,by rw[r.length];exact hl,k2 τ _ _ σ H ρ lab Q ρ' R r e q⟩
  ·cases e
 |_=>cases e
def aDj(fe:En->Rs D)(fg:D->En->Rs En):En->Ou:=λ ρ=>(fe ρ).bo λ d=>match fg d ρ with
 | .ok ρ'=>.nx ρ'
 |_=>.st
theorem aHL(he:SE C m e fe)(hg:SG C tg ks fg)(hm:okS m=true:=by rfl)(hs:∀i,swapsWithSole [tg] e pos.line (C.X i).env=pure false:=by intro _;rfl)(hw:∀i,swappedStores [tg] e (C.X i).env=pure none:=by intro _;rfl)
  (h1:∀i,(assignEach [tg] (C.X i).env).map (·.2)=[assign tg (C.X i).env]:=by intro _;rfl):SS C (.Assign [tg] e pos) (aDj fe fg):=by
 obtain⟨t,p1,p2⟩:=he;obtain⟨g,q1,q2,_,_⟩:=hg;refine⟨_,λ i=>aMT (p1 i) (q1 i) (hs i) (hw i) (h1 i),λ τ σ H ρ lab De R W=>p2 τ σ H ρ lab _ R (W.bo.imp λ d _ w v H' s r=>?_)⟩;obtain⟨R',r'⟩:=R.shared hm s r;cases hgd:fg d ρ with
 |ok ρ'=>rw[hgd]at w;exact q2 τ v d σ H' ρ _ _ ρ' R' r' hgd λ σ' R2=>w σ' H' _ R2
 |ex c=>rw[hgd]at w;exact False.elim w
 |st=>rw[hgd]at w;exact False.elim w
def JL(K:PySem.W.Frag)(lab:Lab)(J:It)(H:Hp)(ds:List D):Prop:=∀i,(ds.length<=i->J.stop i H)/\(i<ds.length->J.go i H/\∀x H',J.yld i H x H'->aq H H'/\∃d,ds[i]? =some d/\Rp K (λ p=>(lab p).1<=1) H' x d)
def aJK(K:PySem.W.Frag)(G:Gx)(wi:TI)(f:En->Rs (List D)):Prop:=∀τ σ H ρ lab (Rr:It->Hp->Prop),RR K G τ ρ σ H lab->
 WR G (f ρ) (λ ds=>∀J H1 lab1 τ1,aq H H1->(∀p o,H p=some o->lab1 p=lab p)->RR K G (τ1++τ) ρ σ H1 lab1->(∀lab' H',(∀q∈τ1,Rp K (λ p=>(lab' p).1<=1) H' q.1 q.2)->JL K lab' J H' ds)->Rr J H1)->wi σ H Rr
def SI(C:Ct)(tg iter:Expr)(f:En->Rs (List D)):Prop:=∃wi,(∀i,PI (C.X i) tg iter wi)/\aJK C.K C.G wi f
def aO9(K:PySem.W.Frag)(tl:TE):TI:=λ σ H R=>tl σ H λ x H1=>∃a,x= .ref a/\(((∃xs,SqL K H1 a xs)/\R (Itl K a) H1)\/((∃xs,SqT K H1 a xs)/\R (Itt K a) H1))
theorem aMX(hl:PE X l tl):PI X tg l (aO9 X.K tl):=by
 intro pins s σ H R I h;refine thn (hl pins s σ H _ I h) λ v s1 ⟨x,H1,I1,r1,a,e,q1⟩=>?_
 subst e;cases r1;have hp:∀b∈[s1.heap.objs.size],uO X pins H1 b:=λ b hb=>by
  have e:b=s1.heap.objs.size:=by simpa using hb
  rw[e];exact I1.fpOk (Nat.le_refl _) (I1.hok.fresh (Nat.le_refl _))
 rcases q1 with ⟨⟨xs,hq⟩,q⟩|⟨⟨xs,hq⟩,q⟩
 ·obtain⟨its,rv,p,hz⟩:=I1.list hq
  refine wpAny_pyIter_list p.isList ?_;exact⟨_,_,_,_,H1,rfl,I1.kept (t':=s1.toks) λ b o e=>Heap.get?_push_of_some _ e,aFu a _,⟨_,Heap.get?_push_size _ rfl,rfl,rfl⟩,hp,q⟩
 ·obtain⟨its,rv,p,hz⟩:=I1.tuple hq
  refine wpAny_pyIter_tuple (show s1.heap.IsTuple a its.toArray from p) ?_;exact⟨_,_,_,_,H1,rfl,I1.kept (t':=s1.toks) λ b o e=>Heap.get?_push_of_some _ e,aDw a _,⟨_,Heap.get?_push_size _ rfl,rfl,rfl⟩,hp,q⟩
def itD:D->Rs (List D)
 | .tup l=>.ok l
 | .lst l=>.ok l
 | .scr l=>.ok (l.map .int)
 |_=>.st
def bh(fe:En->Rs D):En->Rs (List D):=λ ρ=>(fe ρ).bd itD
theorem aFc{K:PySem.W.Frag}(h:SqL K H a xs)(r:Rps K (λ p=>(lab p).1<=1) H xs ds):JL K lab (Itl K a) H ds:=by
 have hl:=r.length;refine λ i=>⟨λ hi=>⟨xs,h,by lia⟩,λ hi=>⟨⟨xs,xs[i]'(by lia),h,by simp[hl,hi]⟩,λ x H' y=>?_⟩⟩
 obtain⟨e,y⟩:=y;subst e;obtain⟨d,h1,h2⟩:=r.get (y xs h);exact⟨aq.refl _,d,h1,h2⟩
theorem aNM{K:PySem.W.Frag}(h:SqT K H a xs)(r:Rps K (λ p=>(lab p).1<=1) H xs ds):JL K lab (Itt K a) H ds:=by
 have hl:=r.length;refine λ i=>⟨λ hi=>⟨xs,h,by lia⟩,λ hi=>⟨⟨xs,xs[i]'(by lia),h,by simp[hl,hi]⟩,λ x H' y=>?_⟩⟩
 obtain⟨e,y⟩:=y;subst e;obtain⟨d,h1,h2⟩:=r.get (y xs h);exact⟨aq.refl _,d,h1,h2⟩
theorem dU(he:SE C m e fe)(hm:okS m=true:=by rfl):SI C tg e (bh fe):=by
 obtain⟨t,p1,p2⟩:=he;refine⟨aO9 C.K t,λ i=>by rw[<-C.hK i];exact aMX (p1 i),λ τ σ H ρ lab Rr R W=>p2 τ σ H ρ lab _ R (W.bd.imp λ d _ w v H1 s r=>?_)⟩;obtain⟨R',r'⟩:=R.shared hm s r;cases d with
 |tup l=>
  cases r' with
  |tup h q=>
   rename_i a xs;refine⟨_,rfl,.inr ⟨⟨_,h⟩,w _ H1 _ [(.ref a,.tup l)] s (λ p o e=>bc e) ⟨R'.len,R'.sl,R'.old,R'.new,λ z hz=>?_⟩ λ lab' H' hq=>?_⟩⟩
   ·rcases List.mem_cons.mp hz with rfl|hz
    ·exact .tup h q
    ·exact R'.tm z hz
   ·have z:=hq _ (List.mem_cons_self ..)
    cases z with
    |tup h' q'=>exact aNM h' q'
 |lst l=>
  cases r' with
  |lst h mm q=>
   rename_i a xs;refine⟨_,rfl,.inl ⟨⟨_,SqL.of h⟩,w _ H1 _ [(.ref a,.lst l)] s (λ p o e=>bc e) ⟨R'.len,R'.sl,R'.old,R'.new,λ z hz=>?_⟩ λ lab' H' hq=>?_⟩⟩
   ·rcases List.mem_cons.mp hz with rfl|hz
    ·exact .lst h mm q
    ·exact R'.tm z hz
   ·have z:=hq _ (List.mem_cons_self ..)
    cases z with
    |lst h' _ q'=>exact aFc (SqL.of h') (q'.wk λ _ _ _ z=>z.1)
 |scr l=>
  cases r' with
  |scr h=>
   rename_i a;refine⟨_,rfl,.inl ⟨⟨_,h.sq⟩,w _ H1 _ [(.ref a,.scr l)] s (λ p o e=>bc e) ⟨R'.len,R'.sl,R'.old,R'.new,λ z hz=>?_⟩ λ lab' H' hq=>?_⟩⟩
   ·rcases List.mem_cons.mp hz with rfl|hz
    ·exact .scr h
    ·exact R'.tm z hz
   ·have z:=hq _ (List.mem_cons_self ..)
    cases z with
    |scr h'=>exact aFc h'.sq Rps.ints
 |_=>exact False.elim w
end
section
variable{C:Ct}{pos:Pos}{s:Stmt}{ss:List Stmt}{f g:En->Ou}{e a b:Expr}{es:List Expr}{m m1 m2:Mode}{fe fa fb:En->Rs D}{ks:List Nat}{fg:D->En->Rs En}{tg:Expr}{fi:En->Rs (List D)}{ga:En->Rs (List D)}
def dB(lo hi:Int):List D:=(List.range (hi-lo).toNat).map λ(k:Nat)=>.int (lo+(k:Int))
def dm:List D->Rs (List D)
 |[.int j]=>if -(2^62)<=j/\j<2^62 then .ok (dB 0 j)else .st
 |_=>.st
def uc:List D->Rs (List D)
 |[.int i,.int j]=>if (-(2^62)<=i/\i<2^62)/\(-(2^62)<=j/\j<2^62)then .ok (dB i j)else .st
 |_=>.st
def cX(r:List D->Rs (List D))(ga:En->Rs (List D)):En->Rs (List D):=λ ρ=>(ga ρ).bd r
theorem aIU{K:PySem.W.Frag}{lo hi:Int}:JL K lab (Itr lo (hi-lo).toNat) H (dB lo hi):=by
 have hl:(dB lo hi).length=(hi-lo).toNat:=by unfold dB;simp
 refine λ i=>⟨λ h=>by show(hi-lo).toNat<=i;lia,λ h=>⟨by show i<(hi-lo).toNat;lia,λ x H' y=>?_⟩⟩
 obtain⟨e,rfl⟩:=y;subst e;refine⟨aq.refl _,.int (lo+i),?_,.int _⟩;unfold dB;rw[List.getElem?_map,List.getElem?_range (by lia)];rfl
theorem gA(ha:SA C m [a] ga)(hm:C.mg "range"=none)(hs:∀i,starEach [a] (C.X i).env=[(false,eval a (C.X i).env)]:=by intro _;rfl)(hg:∀i,Gl (C.X i) "range":=by intro _;rfl):SI C tg (.Call (.Name "range" p) [a] [] pos) (cX dm ga):=by
 obtain⟨t,h1,h2⟩:=ha;refine⟨_,λ i=>aGK (hg i) (by rw[(C.cx i).2.2.2.1];exact hm) (h1 i) (hs i),λ τ σ H ρ lab Rr R W=>h2 τ σ H ρ lab _ R (W.bd.imp λ ds _ w vs H1 s r=>?_)⟩;unfold dm at w;split at w
 ·rename_i j _
  split at w
  ·rename_i hj
   cases r with
   |cons h r=>
    cases h;cases r;refine⟨j,rfl,hj.1,hj.2,?_⟩;have z:=w (Itr 0 (j-0).toNat) H1 lab [] s (λ _ _ _=>rfl) (R.up s) λ lab' H' _=>aIU
    rwa [Int.sub_zero]at z
  ·exact False.elim w
 ·exact False.elim w
theorem aB9(ha:SA C m [a,b] ga)(hm:C.mg "range"=none)(hs:∀i,starEach [a,b] (C.X i).env=[(false,eval a (C.X i).env),(false,eval b (C.X i).env)]:=by intro _;rfl)(hs2:∀i,starEach [b] (C.X i).env=[(false,eval b (C.X i).env)]:=by intro _;rfl)(hg:∀i,Gl (C.X i) "range":=by intro _;rfl):SI C tg (.Call (.Name "range" p) [a,b] [] pos) (cX uc ga):=by
 obtain⟨t,h1,h2⟩:=ha;refine⟨_,λ i=>aGJ (hg i) (by rw[(C.cx i).2.2.2.1];exact hm) (h1 i) (hs i) (hs2 i),λ τ σ H ρ lab Rr R W=>h2 τ σ H ρ lab _ R (W.bd.imp λ ds _ w vs H1 s r=>?_)⟩;unfold uc at w;split at w
 ·rename_i i j _
  split at w
  ·rename_i hj
   cases r with
   |cons h r=>
    cases h;cases r with
    |cons h r=>
     cases h;cases r;exact⟨i,j,rfl,⟨hj.1.1,hj.1.2,hj.2.1,hj.2.2⟩,w (Itr i (j-i).toNat) H1 lab [] s (λ _ _ _=>rfl) (R.up s) λ lab' H' _=>aIU⟩
  ·exact False.elim w
 ·exact False.elim w
def forL(fg:D->En->Rs En)(b:En->Ou):List D->En->Ou
 |[],ρ=>.nx ρ
 |d::ds,ρ=>match fg d ρ with
  | .ok ρ1=>match b ρ1 with
   | .nx ρ2=>forL fg b ds ρ2
   | .ct ρ2=>forL fg b ds ρ2
   | .bk ρ2=>.nx ρ2
   |o=>o
  |_=>.st
def iH(fi:En->Rs (List D))(fg:D->En->Rs En)(b:En->Ou):En->Ou:=λ ρ=>(fi ρ).bo λ ds=>forL fg b ds ρ
theorem jD(hi:SI C tg e fi)(hg:SG C tg ks fg)(hb:SSs C ss f)(hs:∀i,∀x,foldedSetIterable e (C.X i).env x=pure x:=by intro _ _;rfl):SS C (.For tg e ss [] pos) (iH fi fg f):=by
 obtain⟨wi,i1,i2⟩:=hi;obtain⟨gg,g1,g2,_,g4⟩:=hg;obtain⟨tb,b1,b2⟩:=hb;refine⟨_,λ i=>aMS (C.own i) (C.calm i) (i1 i) (g1 i) (b1 i) (hs i),λ τ σ H ρ lab De R W=>i2 τ σ H ρ lab _ R (W.bo.imp λ ds _ w J H1 lab1 τ1 s1 _ R1 jl=>?_)⟩;refine⟨λ i n σ' H'=>∃ρ' lab',RR C.K C.G (τ1++τ) ρ' σ' H' lab'/\n=ds.length-i/\i<=ds.length/\WS C.K C.G τ (forL fg f (ds.drop i) ρ') De,⟨ds.length,ρ,lab1,R1,by lia,by lia,w⟩,?_⟩;rintro i n σ' H' ⟨ρ',lab',R',rfl,hi,w'⟩;have jj:=jl lab' H' λ q hq=>R'.tm q (List.mem_append_left _ hq)
 by_cases hlt:i<ds.length
 ·obtain⟨go,yl⟩:=(jj i).2 hlt
  refine .inr ⟨go,λ σ2 H2=>∃ρ2 lab2,RR C.K C.G (τ1++τ) ρ2 σ2 H2 lab2/\WS C.K C.G τ (forL fg f (ds.drop (i+1)) ρ2) De,λ σ2 H2 ⟨ρ2,lab2,R2,w2⟩=>⟨ds.length-(i+1),by lia,ρ2,lab2,R2,rfl,hlt,w2⟩,λ x H2 hy=>?_⟩;obtain⟨s2,d,ed,rx⟩:=yl x H2 hy;replace R':=R'.up s2;have ed2:ds.drop i=d::ds.drop (i+1):=by
   rw[List.drop_eq_getElem_cons hlt]
   have:=List.getElem?_eq_getElem hlt
   rw[ed]at this;cases this;rfl
  rw[ed2]at w';unfold forL at w';cases eg:fg d ρ' with
  |ex c=>rw[eg]at w';exact False.elim w'
  |st=>rw[eg]at w';exact False.elim w'
  |ok ρ1=>
   rw[eg]at w';refine g2 (τ1++τ) x d σ' H2 ρ' lab' _ ρ1 R' rx eg λ σ1 R1'=>b2 (τ1++τ) σ1 H2 ρ1 lab' _ R1' ?_
   dsimp only at w';cases eb:f ρ1 with
   |nx ρ2=>rw[eb]at w';exact λ σ2 H3 lab2 R2=>⟨ρ2,lab2,R2,w'⟩
   |ct ρ2=>rw[eb]at w';exact λ σ2 H3 lab2 R2=>⟨ρ2,lab2,R2,w'⟩
   |bk ρ2=>rw[eb]at w';exact λ σ2 H3 lab2 R2=>w' σ2 H3 lab2 R2.drop
   |rt d=>rw[eb]at w';exact w'
   |ex c=>rw[eb]at w';exact w'
   |st=>rw[eb]at w';exact w'
 ·have e:i=ds.length:=by lia
  subst e;rw[List.drop_length]at w';exact .inl ⟨(jj _).1 (Nat.le_refl _),w' σ' H' lab' R'.drop⟩
def itW(c:En->Rs Bool)(b:En->Ou):Nat->En->Ou
 |0,_=>.st
 |n+1,ρ=>(c ρ).bo λ k=>if k=true then(match b ρ with
   | .nx ρ2=>itW c b n ρ2
   | .ct ρ2=>itW c b n ρ2
   | .bk ρ2=>.nx ρ2
   |o=>o)else .nx ρ
def fuel:Nat:=1000000
def tE(c:En->Rs Bool)(b:En->Ou):En->Ou:=itW c b fuel
theorem aC8(hc:ST C c fc)(hb:SSs C ss f):SS C (.While c ss [] pos) (tE fc f):=by
 obtain⟨tc,c1,c2⟩:=hc;obtain⟨tb,b1,b2⟩:=hb;refine⟨_,λ i=>aHi (C.own i) (c1 i) (b1 i),λ τ σ H ρ lab De R W=>?_⟩;refine⟨λ n σ' H'=>∃ρ' lab',RR C.K C.G τ ρ' σ' H' lab'/\WS C.K C.G τ (itW fc f n ρ') De,⟨fuel,ρ,lab,R,W⟩,?_⟩;rintro n σ' H' ⟨ρ',lab',R',w'⟩;cases n with
 |zero=>exact False.elim w'
 |succ n=>
  refine c2 τ σ' H' ρ' lab' _ R' (WS.bo (show WS C.K C.G τ ((fc ρ').bo _) De from w') |>.imp λ k _ w H1 s1=>?_);cases k with
  |false=>
   rw[if_neg Bool.false_ne_true]at w ⊢;exact w σ' H1 lab' (R'.up s1)
  |true=>
   rw[if_pos rfl]at w ⊢;refine⟨λ σ2 H2=>∃ρ2 lab2,RR C.K C.G τ ρ2 σ2 H2 lab2/\WS C.K C.G τ (itW fc f n ρ2) De,λ σ2 H2 ⟨ρ2,lab2,R2,w2⟩=>⟨n,Nat.lt_succ_self n,ρ2,lab2,R2,w2⟩,?_⟩;refine b2 τ σ' H1 ρ' lab' _ (R'.up s1) ?_;cases eb:f ρ' with
   |nx ρ2=>rw[eb]at w;exact λ σ2 H3 lab2 R2=>⟨ρ2,lab2,R2,w⟩
   |ct ρ2=>rw[eb]at w;exact λ σ2 H3 lab2 R2=>⟨ρ2,lab2,R2,w⟩
   |bk ρ2=>rw[eb]at w;exact w
   |rt d=>rw[eb]at w;exact w
   |ex c=>rw[eb]at w;exact w
   |st=>rw[eb]at w;exact w
def aBq(x:Str)(ga:En->Rs (List D)):En->Ou:=λ ρ=>(ga ρ).bo λ ds=>if ds.length<=sizeLine then .ex x else .st
theorem aHK{rest:List Expr}(hd:C.dOk=true)(hm:C.mg x=some (.ref Ca))(hcl:C.G.cl x=Ca)(hC:aGr C.K Ca)(ha:SA C m (e₀::rest) ga)(he:∀i,starEach (e₀::rest) (C.X i).env=(false,eval e₀ (C.X i).env)::starEach rest (C.X i).env:=by intro _;rfl)(hplain:∀i,(backTo cpos (starEach rest (C.X i).env)).any (·.1)=false:=by intro _;rfl)(hdb:(x==("__debug__":Str))=false:=by decide)(hg:∀i,Gl (C.X i) x:=by intro _;rfl):SS C (.Raise (some (.Call (.Name x np) (e₀::rest) [] cpos)) none pos) (aBq x ga):=by
 obtain⟨t,h1,h2⟩:=ha;refine⟨_,λ i=>aHj (C.dcx hd i) (C.calm i) (by rw[(C.cx i).2.2.2.1];exact hm) (by rw[C.hK i];exact hC) (hg i) (h1 i) (he i) (hplain i) hdb,λ τ σ H ρ lab De R W=>h2 τ σ H ρ lab _ R (W.bo.imp λ ds _ w vs H1 s r=>?_)⟩;by_cases hz:ds.length<=sizeLine
 ·rw[if_pos hz]at w
  refine⟨by rw[r.length];exact hz,?_⟩
  have:=w H1 (R.old.trans s)
  rwa [hcl]at this
 ·rw[if_neg hz]at w
  exact False.elim w
def spF(K:PySem.W.Frag)(cl:Str->Addr)(n:Nat)(F:List D->Rs D):Sp:=λ vs H Q E=>∃ds,vs.length=n/\Rps K (λ _=>True) H vs ds/\WR ⟨H,E,cl⟩ (F ds) (λ d=>∀v H',aq H H'->Rp K (λ p=>H p=none) H' v d->Q v H')
def aO(F:List D->Rs D)(ga:En->Rs (List D)):En->Rs D:=λ ρ=>(ga ρ).bd F
theorem aCb{K:PySem.W.Frag}(hn:∀ρ ds,ga ρ= .ok ds->ds.length=n)(h:aLJ K G m t ga):km K G (some []) (aHF (spF K G.cl n F) [] G.E t) (aO F ga):=by
 intro τ σ H ρ lab Q R W;refine h τ σ H ρ lab _ R (W.bd.imp λ ds eds w vs H1 s r=>⟨ds,by rw[List.append_nil,r.length];exact hn ρ ds eds,by rw[List.append_nil];exact r.wk λ _ _ _ _=>trivial,?_⟩);cases hF:F ds with
 |ok d=>
  rw[hF]at w;exact λ v H' s' r'=>w v H' (s.trans s') (r'.wk λ p o _ z=>.inl (s.free z))
 |ex c=>rw[hF]at w;exact λ H' s'=>w H' ((R.old.trans s).trans s')
 |st=>rw[hF]at w;exact w
variable{k:Nat}{fn:Addr}{fd:FuncData}{ps:List Str}{x:Str}{p:Pos}{F:List D->Rs D}{n:Nat}
theorem aJg(hF:dJ C.prog C.w C.K C.mg C.base (CX1 C.prog C.w) k fn fd ps (spF C.K C.G.cl n F))(hr:k<=C.k)(hm:C.mg x=some (.ref fn))(hk:PySem.W.keepIn C.K (.ref fn)=true)(hb:Binds C.K fd ps [])(ha:SA C m (e::es) ga)(hn:∀ρ ds,ga ρ= .ok ds->ds.length=n)(hdb:(x==("__debug__":Str))=false:=by decide)(he:∀i,starEach (e::es) (C.X i).env=(false,eval e (C.X i).env)::starEach es (C.X i).env:=by intro _;rfl)(hpl:∀i,(backTo pos (starEach es (C.X i).env)).any (·.1)=false:=by intro _;rfl)(hg:∀i,Gl (C.X i) x:=by intro _;rfl):SE C (some []) (.Call (.Name x p) (e::es) [] pos) (aO F ga):=by
 obtain⟨t,h1,h2⟩:=ha;refine⟨_,λ i=>?_,aCb hn h2⟩;obtain⟨e1,e2,e3,e4,e5⟩:=C.cx i;refine aKC (CX:=CX1 (C.X i).prog (C.X i).w) (by rw[e1,e2,e3,e4,e5];exact hF) ((C.room i).mono hr) (hg i) (by rw[e4];exact hm) (by rw[e3];exact hk) (by rw[e3];exact hb) .nil (C.pass i) (h1 i) hdb (he i) (hpl i)
theorem aF9(h:aF ρ= .ok ds):ds.length=0:=by cases h;rfl
theorem z8(h:∀ρ ds,ga ρ= .ok ds->ds.length=n):∀ρ ds,aA fa ga ρ= .ok ds->ds.length=n+1:=λ ρ ds e=>by
 obtain⟨d,_,e⟩:=dY e;obtain⟨r,er,e⟩:=dY e;cases e;rw[List.length_cons,h ρ r er]
end
def cj(mg:Str->Option Value):Str->Addr:=λ x=>match mg x with
 |some (.ref a)=>a
 |_=>0
abbrev ctD(P:Program)(w:World)(K:PySem.W.Frag)(mg:Str->Option Value)(base:Heap)(N:List Str)(q:Str)(sc:Scope)(f:Addr)(cdv:Value)(A:Around)(outer:List Env)(s:Shared)(H:Hp)(E:XK)(k:Nat)(hr:nH k (A.deeper (envOfC q sc s.heap.objs.size f cdv))):Ct where
 ι:=Unit
 X:=λ _=>aDa (CX1 P w) P w K mg base N q sc f cdv A outer s H E
 prog:=P
 w:=w
 K:=K
 mg:=mg
 base:=base
 k:=k
 G:=⟨H,E,cj mg⟩
 cx:=λ _=>⟨rfl,rfl,rfl,rfl,rfl⟩
 calm:=λ _=>rfl
 room:=λ _=>hr
 own:=λ _=>nF.own nF.of
 pass:=λ _=>nF.pass nF.of
 dOk:=true
 dcx:=λ _ _=>nF.of
def bF(n:Nat)(ds:List D):En:=ds.map .sh++List.replicate (n-ds.length) .no
def fK(n:Nat)(f:En->Ou):List D->Rs D:=λ ds=>match f (bF n ds)with
 | .nx _=>.ok .non
 | .rt d=>.ok d
 | .ex c=>.ex c
 |_=>.st
theorem RR.start{K:PySem.W.Frag}(r:Rps K (λ _=>True) H vs ds):RR K ⟨H,E,cl⟩ [] (bF N.length ds) (start N vs) H (λ _=>(0,0)):=by
 have hl:=r.length;refine⟨by unfold bF L2.start;simp[hl],λ i s e=>?_,aq.refl H,λ p hp=>absurd rfl hp,λ q hq=>by cases hq⟩;unfold bF at e;by_cases hi:i<ds.length
 ·rw[List.getElem?_append_left (by simpa using hi),List.getElem?_map]at e
  cases ed:ds[i]? with
  |none=>rw[ed]at e;cases e
  |some d=>
   rw[ed]at e;cases e;obtain⟨x,ex,rx⟩:=r.getD ed;refine .inr ⟨x,?_,rx.wk λ _ _ _ _=>Nat.zero_le _⟩;unfold L2.start;rw[List.getElem?_append_left (by simpa[hl]using hi),List.getElem?_map,ex];rfl
 ·rw[List.getElem?_append_right (by simpa using hi),List.getElem?_replicate]at e
  split at e
  ·cases e;exact .inl rfl
  ·cases e
section
variable{P:Program}{w:World}{K:PySem.W.Frag}{mg:Str->Option Value}{base:Heap}
theorem aN0{x q:Str}{st:Stmt}(F:L2.Fun K x q st fn fd)(S:bD N ps (aR st))
  (hb:∀cdv A outer s H E hr,SSs (ctD P w K mg base N q (aR st) fn cdv A outer s H E k hr) (lN st) f):
  dJ P w K mg base (CX1 P w) (k+1) fn fd ps (spF K (cj mg) ps.length (fK N.length f)):=by
 refine F.okX S (λ vs H Q E ⟨ds,hl,_⟩=>hl) λ cdv A outer s H vs Q E hr ⟨ds,hl,r,W⟩=>?_
 obtain⟨t,h1,h2⟩:=hb cdv A outer s H E hr;refine⟨t,h1 (),h2 [] _ H _ _ _ (RR.start r) ?_⟩;unfold fK at W;cases e:f (bF N.length ds)with
 |nx ρ=>rw[e]at W;exact λ σ' H' lab R=>W .non H' R.old .non
 |rt d=>rw[e]at W;exact λ v H' s r=>W v H' s r
 |ex c=>rw[e]at W;exact W
 |bk ρ=>rw[e]at W;exact False.elim W
 |ct ρ=>rw[e]at W;exact False.elim W
 |st=>rw[e]at W;exact False.elim W
theorem aKt{st:Stmt}(F:L2.Fun K x q st fn fd)(S:bD N ps (aR st))
  (hb:∀cdv A outer s H E hr,SSs (ctD P w K mg base N q (aR st) fn cdv A outer s H E k hr) (lN st) f)(hn:ps.length=n)(hF:fK N.length f=FF):
  dJ P w K mg base (CX1 P w) (k+1) fn fd ps (spF K (cj mg) n FF):=by
 subst hn hF;exact aN0 F S hb
end
theorem OpR.or(h:OpR X f r)(h':OpR X f r'):OpR X f (λ x y H Q=>r x y H Q\/r' x y H Q):=by
 intro pins s σ H x y v u Q I rx ry q;rcases q with q|q
 ·exact h pins s σ H x y v u Q I rx ry q
 ·exact h' pins s σ H x y v u Q I rx ry q
theorem OpS.or{K:PySem.W.Frag}(h:OpS K r fd)(h':OpS K r' fd'):OpS K (λ x y H Q=>r x y H Q\/r' x y H Q) (λ d e=>match fd d e with
  | .ok z=>.ok z
  |_=>fd' d e):=by
 intro A x y d e H Q z rx ry ez q;dsimp only at ez;cases hd:fd d e with
 |ok w=>rw[hd]at ez;cases ez;exact .inl (h A x y d e H Q _ rx ry hd q)
 |ex c=>rw[hd]at ez;exact .inr (h' A x y d e H Q z rx ry ez q)
 |st=>rw[hd]at ez;exact .inr (h' A x y d e H Q z rx ry ez q)
section
variable{K:PySem.W.Frag}
def i2(p:Int->Int->Bool)(g:Int->Int->D):D->D->Rs D
 | .int i,.int j=>if p i j=true then .ok (g i j)else .st
 |_,_=>.st
theorem aEY{g:Int->Int->Int}(hp:∀i j,p i j=true->c i j):OpS K (rI c λ i j=>.int (g i j)) (i2 p λ i j=>.int (g i j)):=by
 intro A x y d e H Q z rx ry ez q;unfold i2 at ez;split at ez
 ·rename_i i j
  split at ez
  ·rename_i h
   cases ez;obtain rfl:=rx.int_inv;obtain rfl:=ry.int_inv;exact⟨i,j,rfl,rfl,hp i j h,q _ H (aq.refl H) (.int _)⟩
  ·cases ez
 ·cases ez
theorem aKH{g:Int->Int->Int}:OpS K (rI0 λ i j=>.int (g i j)) (i2 (λ _ _=>true) λ i j=>.int (g i j)):=by
 intro A x y d e H Q z rx ry ez q;unfold i2 at ez;split at ez
 ·rename_i i j
  cases ez;obtain rfl:=rx.int_inv;obtain rfl:=ry.int_inv;exact⟨i,j,rfl,rfl,q _ H (aq.refl H) (.int _)⟩
 ·cases ez
theorem aBs{g:Int->Int->Bool}:OpS K (rI0 λ i j=>.bl (g i j)) (i2 (λ _ _=>true) λ i j=>.bl (g i j)):=by
 intro A x y d e H Q z rx ry ez q;unfold i2 at ez;split at ez
 ·rename_i i j
  cases ez;obtain rfl:=rx.int_inv;obtain rfl:=ry.int_inv;exact⟨i,j,rfl,rfl,q _ H (aq.refl H) (.bl _)⟩
 ·cases ez
theorem aCJ{g:Int->Int->Int}:∀x y z,i2 p (λ i j=>.int (g i j)) x y= .ok z->imm z=true:=by
 intro x y z e;unfold i2 at e;split at e
 ·split at e
  ·cases e;rfl
  ·cases e
 ·cases e
theorem aI9{g:Int->Int->Bool}:∀x y z,i2 p (λ i j=>.bl (g i j)) x y= .ok z->imm z=true:=by
 intro x y z e;unfold i2 at e;split at e
 ·split at e
  ·cases e;rfl
  ·cases e
 ·cases e
def aV:D->D->Rs D
 | .int i,.int j=>.ok (.int (i+j))
 | .lst l,.lst m=>if l.length+m.length<=sizeLine then .ok (.lst (l++m))else .st
 | .tup l,.tup m=>if l.length+m.length<=sizeLine then .ok (.tup (l++m))else .st
 |_,_=>.st
def aL4(K:PySem.W.Frag):R2:=λ x y H Q=>∃a b xs ys,x= .ref a/\y= .ref b/\SqT K H a xs/\SqT K H b ys/\xs.length+ys.length<=sizeLine/\
 (xs=[]->Q (.ref b) H)/\(ys=[]->Q (.ref a) H)/\New H (.tup (xs++ys)) Q
theorem aKL:OpR X (binaryOp .Add) (aL4 X.K):=by
 intro pins s σ H x y v u Q I rx ry h;obtain⟨a,b,xs,ys,rfl,rfl,ha,hb,hz,q0,q1,q2⟩:=h;by_cases hx:xs=[]
 ·subst hx
  cases rx;cases ry;obtain⟨its,r1,p1,_⟩:=I.tuple ha;obtain⟨its2,r2,p2,_⟩:=I.tuple hb;cases r1;exact HT.aJF p1 p2 ⟨.ref b,H,I,rfl,q0 rfl⟩
 ·exact aKM pins s σ H _ _ v u Q I rx ry ⟨a,b,xs,ys,rfl,rfl,ha,hb,hx,hz,q1,λ _ p hp=>q2.at hp⟩
def aFT(K:PySem.W.Frag):R2:=λ x y H Q=>rI0 (λ i j=>.int (i+j)) x y H Q\/(aL5 x y H Q\/aL4 K x y H Q)
theorem aKO:OpR X (binaryOp .Add) (aFT X.K):=OpR.or aMr (OpR.or aKN aKL)
theorem aHx:OpS K (aFT K) aV:=by
 intro A x y d e H Q z rx ry ez q;unfold aV at ez;split at ez
 ·cases ez;obtain rfl:=rx.int_inv;obtain rfl:=ry.int_inv;exact .inl ⟨_,_,rfl,rfl,q _ H (aq.refl H) (.int _)⟩
 ·split at ez
  ·rename_i hl
   cases ez;obtain⟨_,_,rfl,h1,m1,r1⟩:=rx.lst_inv;obtain⟨_,_,rfl,h2,m2,r2⟩:=ry.lst_inv;refine .inr (.inl ⟨_,_,_,_,rfl,rfl,h1,h2,by rw[r1.length,r2.length];exact hl,λ p H' s hp hn=>q _ H' s (.lst hp (.inl hn) ?_)⟩);exact(((r1.wk λ _ _ _ z=>z.1).append (r2.wk λ _ _ _ z=>z.1)).wk (A':=λ q=>(H q=none\/A q)/\q≠p) λ q o e z=>⟨.inr z,λ e'=>by subst e';rw[hn]at e;cases e⟩).up s
  ·cases ez
 ·split at ez
  ·rename_i hl
   cases ez;obtain⟨_,_,rfl,h1,r1⟩:=rx.tup_inv;obtain⟨_,_,rfl,h2,r2⟩:=ry.tup_inv;have r1':=r1.wk (A':=λ p=>H p=none\/A p) λ _ _ _ z=>.inr z
   have r2':=r2.wk (A':=λ p=>H p=none\/A p) λ _ _ _ z=>.inr z
   refine .inr (.inr ⟨_,_,_,_,rfl,rfl,h1,h2,by rw[r1.length,r2.length];exact hl,λ e=>?_,λ e=>?_,λ p H' s hp hn=>q _ H' s (.tup (SqT.of hp) ((r1'.append r2').up s))⟩)
   ·subst e
    cases r1';exact q _ H (aq.refl H) (.tup h2 r2')
   ·subst e
    cases r2';rw[List.append_nil]at q;exact q _ H (aq.refl H) (.tup h1 r1')
  ·cases ez
 ·cases ez
def nG:D->D->Rs D
 | .int i,.int j=>if (decide (-(2^64)<i)&&decide (i<2^64))||(decide (-(2^64)<j)&&decide (j<2^64))then .ok (.int (i*j))else .st
 | .lst l,.int k=>if decide (-(2^63)<=k)&&decide (k<2^63)&&decide (l.length*k.toNat<=sizeLine)&&lJ l then .ok (.lst (List.replicate k.toNat l).flatten)else .st
 |_,_=>.st
theorem Rps.rep(r:Rps K A H xs ds):∀k:Nat,Rps K A H (List.replicate k xs).flatten (List.replicate k ds).flatten
 |0=>.nil
 |k+1=>by
  rw[List.replicate_succ,List.replicate_succ,List.flatten_cons,List.flatten_cons];exact r.append (Rps.rep r k)
def aL0:R2:=λ x y H Q=>rI aLQ (λ i j=>.int (i*j)) x y H Q\/aOM x y H Q
theorem aKJ:OpR X (binaryOp .Mult) aL0:=OpR.or aMg aMd
theorem aMb:OpS K aL0 nG:=by
 intro A x y d e H Q z rx ry ez q;unfold nG at ez;split at ez
 ·split at ez
  ·rename_i hc
   cases ez;obtain rfl:=rx.int_inv;obtain rfl:=ry.int_inv;refine .inl ⟨_,_,rfl,rfl,?_,q _ H (aq.refl H) (.int _)⟩;simp only[Bool.or_eq_true,Bool.and_eq_true,decide_eq_true_eq]at hc;exact hc
  ·cases ez
 ·split at ez
  ·rename_i hc
   simp only[Bool.and_eq_true,decide_eq_true_eq]at hc;cases ez;obtain⟨_,_,rfl,h1,m1,r1⟩:=rx.lst_inv;obtain rfl:=ry.int_inv;refine .inr ⟨_,_,_,rfl,rfl,h1,hc.1.1.1,hc.1.1.2,by rw[r1.length];exact hc.1.2,λ p hp=>q _ _ (bL hp _) (.lst bI (.inl hp) ?_)⟩;exact((r1.rep _).wk (A':=λ q=>(H q=none\/A q)/\q≠p) λ q o e z=>⟨.inr z.1,λ e'=>by subst e';rw[hp]at e;cases e⟩).up (bL hp _)
  ·cases ez
 ·cases ez
def intsOf:List D->Option (List Int)
 |[]=>some []
 | .int i::r=>(intsOf r).map (i::·)
 |_=>none
theorem dC:∀{l:List D} {ns:List Int},intsOf l=some ns->l=ns.map .int
 |[],ns,h=>by cases h;rfl
 | .int i::r,ns,h=>by
  simp only[intsOf,Option.map_eq_some_iff]at h;obtain⟨ms,h1,rfl⟩:=h;rw[dC h1];rfl
 | .non::_,_,h=>by cases h
 | .bl _::_,_,h=>by cases h
 | .str _::_,_,h=>by cases h
 | .tup _::_,_,h=>by cases h
 | .lst _::_,_,h=>by cases h
 | .dct _ _::_,_,h=>by cases h
 | .set _::_,_,h=>by cases h
 | .scr _::_,_,h=>by cases h
theorem iG:∀ns:List Int,intsOf (ns.map .int)=some ns
 |[]=>rfl
 |n::ns=>by simp only[List.map_cons,intsOf,iG ns,Option.map_some]
def ltT(p:List Int->List Int->Bool):D->D->Rs D
 | .tup l,.tup m=>match intsOf l,intsOf m with
  |some ns,some ms=>.ok (.bl (p ns ms))
  |_,_=>.st
 |_,_=>.st
theorem aFQ(r:Rp K A H x (.tup l))(e:intsOf l=some ns):∃a,x= .ref a/\SqT K H a (ns.map V.int):=by
 have:=dC e
 subst this;cases r with
 |tup h r=>
  have:=r.ints_of
  subst this;exact⟨_,rfl,h⟩
theorem aFY(hr:∀x y H Q,(∃a b ns ms,x= .ref a/\y= .ref b/\SqT K H a (ns.map V.int)/\SqT K H b (ms.map V.int)/\Q (.bl (p ns ms)) H)->r x y H Q):OpS K r (ltT p):=by
 intro A x y d e H Q z rx ry ez q;unfold ltT at ez;split at ez
 ·split at ez
  ·rename_i ns ms e1 e2
   cases ez;obtain⟨a,rfl,ha⟩:=aFQ rx e1;obtain⟨b,rfl,hb⟩:=aFQ ry e2;exact hr _ _ _ _ ⟨a,b,ns,ms,rfl,rfl,ha,hb,q _ H (aq.refl H) (.bl _)⟩
  ·cases ez
 ·cases ez
def ltD:D->D->Rs D:=λ d e=>match i2 (λ _ _=>true) (λ i j=>.bl (decide (i<j))) d e with
 | .ok z=>.ok z
 |_=>ltT HT.lexLt d e
def leD:D->D->Rs D:=λ d e=>match i2 (λ _ _=>true) (λ i j=>.bl (decide (i<=j))) d e with
 | .ok z=>.ok z
 |_=>ltT HT.lexLe d e
def gtD:D->D->Rs D:=i2 (λ _ _=>true) (λ i j=>.bl (decide (j<i)))
def geD:D->D->Rs D:=i2 (λ _ _=>true) (λ i j=>.bl (decide (j<=i)))
theorem aMi(hu:X.A.units<cLine):OpR X (compareOp .Lt) (λ x y H Q=>rI0 (λ i j=>.bl (decide (i<j))) x y H Q\/aJj X.K x y H Q):=OpR.or aOY (aMj hu)
theorem aMk(hu:X.A.units<cLine):OpR X (compareOp .LtE) (λ x y H Q=>rI0 (λ i j=>.bl (decide (i<=j))) x y H Q\/aJk X.K x y H Q):=OpR.or aOZ (aMl hu)
theorem aHu:OpS K (λ x y H Q=>rI0 (λ i j=>.bl (decide (i<j))) x y H Q\/aJj K x y H Q) ltD:=OpS.or aBs (aFY λ _ _ _ _ h=>h)
theorem aFZ:OpS K (λ x y H Q=>rI0 (λ i j=>.bl (decide (i<=j))) x y H Q\/aJk K x y H Q) leD:=OpS.or aBs (aFY λ _ _ _ _ h=>h)
theorem aFg(e:ltT p x y= .ok z):imm z=true:=by
 unfold ltT at e;split at e
 ·split at e
  ·cases e;rfl
  ·cases e
 ·cases e
theorem aI6:∀x y z,ltD x y= .ok z->imm z=true:=by
 intro x y z e;unfold ltD at e;split at e
 ·rename_i w hw;cases e;exact aI9 _ _ _ hw
 ·exact aFg e
theorem aNT:∀x y z,leD x y= .ok z->imm z=true:=by
 intro x y z e;unfold leD at e;split at e
 ·rename_i w hw;cases e;exact aI9 _ _ _ hw
 ·exact aFg e
def isD(neg:Bool):D->D->Rs D
 | .bl a,.bl b=>if neg then .st else .ok (.bl (a==b))
 |d,.non=>match d with
  | .non=>.ok (.bl (!neg))
  |_=>.ok (.bl neg)
 |_,_=>.st
theorem aMm:OpR X (compareOp .Is) (λ x y H Q=>(∃b c,x= .bl b/\y= .bl c/\Q (.bl (b==c)) H)\/(y= .non/\Q (.bl (decide (x= .non))) H)):=OpR.or aHy aMn
theorem aMI(r:Rp K A H x d)(h:d≠.non):x≠.non:=by
 cases r with
 |non=>exact absurd rfl h
 |_=>exact λ e=>by cases e
theorem aOX:OpS K (λ x y H Q=>(∃b c,x= .bl b/\y= .bl c/\Q (.bl (b==c)) H)\/(y= .non/\Q (.bl (decide (x= .non))) H)) (isD false):=by
 intro A x y d e H Q z rx ry ez q;unfold isD at ez;split at ez
 ·cases ez;cases rx;cases ry;exact .inl ⟨_,_,rfl,rfl,q _ H (aq.refl H) (.bl _)⟩
 ·cases ry
  split at ez
  ·cases ez;cases rx;exact .inr ⟨rfl,by rw[decide_eq_true rfl];exact q _ H (aq.refl H) (.bl _)⟩
  ·rename_i hn
   cases ez;exact .inr ⟨rfl,by rw[decide_eq_false (aMI rx hn)];exact q _ H (aq.refl H) (.bl _)⟩
 ·cases ez
theorem aNU:∀x y z,isD n x y= .ok z->imm z=true:=by
 intro x y z e;unfold isD at e;split at e
 ·split at e
  ·cases e
  ·cases e;rfl
 ·split at e<;>(cases e;rfl)
 ·cases e
def gn:D->Rs D
 | .int i=>.ok (.int (-i))
 |_=>.st
theorem aLk:UnS K (rU λ i=>.int (-i)) gn:=by
 intro A x d H Q z rx ez q;cases rx with
 |int i=>cases ez;exact⟨i,rfl,q _ H (aq.refl H) (.int _)⟩
 |_=>cases ez
theorem aKj:∀x z,gn x= .ok z->imm z=true:=by
 intro x z e;cases x with
 |int i=>cases e;rfl
 |_=>cases e
def atD(l:List D)(i:Int):Rs D:=match atI l i with
 |some d=>.ok d
 |none=>.st
def ixD:D->D->Rs D
 | .tup l,.int i=>atD l i
 | .lst l,.int i=>atD l i
 | .scr l,.int i=>atD (l.map .int) i
 |_,_=>.st
theorem Rps.at(r:Rps K A H xs ds)(e:atI ds i=some d):∃x,atI xs i=some x/\Rp K A H x d:=by
 unfold atI at e ⊢;rw[r.length];cases h:ixN ds.length i with
 |none=>rw[h]at e;cases e
 |some j=>
  rw[h]at e;obtain⟨x,e1,e2⟩:=r.getD (i:=j) (d:=d) e;exact⟨x,e1,e2⟩
theorem aOW:OpS K (rIx K) ixD:=by
 intro A x y d e H Q z rx ry ez q;unfold ixD at ez;split at ez
 ·unfold atD at ez
  split at ez
  ·rename_i w hw
   cases ez;obtain⟨_,_,rfl,h,r⟩:=rx.tup_inv;obtain rfl:=ry.int_inv;obtain⟨v,e1,e2⟩:=r.at hw;exact .inr (.inl ⟨_,_,_,v,rfl,rfl,h,e1,q v H (aq.refl H) (e2.wk λ _ _ _ z=>.inr z)⟩)
  ·cases ez
 ·unfold atD at ez
  split at ez
  ·rename_i w hw
   cases ez;obtain⟨_,_,rfl,h,m,r⟩:=rx.lst_inv;obtain rfl:=ry.int_inv;obtain⟨v,e1,e2⟩:=r.at hw;exact .inl ⟨_,_,_,v,rfl,rfl,SqL.of h,e1,q v H (aq.refl H) (e2.wk λ _ _ _ z=>.inr z.1)⟩
  ·cases ez
 ·unfold atD at ez
  split at ez
  ·rename_i w hw
   cases ez;obtain⟨_,rfl,h⟩:=rx.scr_inv;obtain rfl:=ry.int_inv;obtain⟨v,e1,e2⟩:=(Rps.ints (K:=K) (A:=A) (H:=H)).at hw;exact .inl ⟨_,_,_,v,rfl,rfl,h.sq,e1,q v H (aq.refl H) (e2.wk λ _ _ _ z=>.inr z)⟩
  ·cases ez
 ·cases ez
def bz:List D->Rs D
 |[.tup l]=>.ok (.int l.length)
 |[.lst l]=>.ok (.int l.length)
 |[.scr l]=>.ok (.int l.length)
 |_=>.st
theorem aJD:p7 K (λ xs H Q=>∃p ys,xs=[.ref p]/\(SqL K H p ys\/SqT K H p ys)/\Q (.int ys.length) H) bz:=by
 intro A xs ds H Q z r ez q;unfold bz at ez;split at ez
 ·cases ez
  obtain⟨_,rfl,h0⟩:=r.one_inv;obtain⟨_,_,rfl,h,r⟩:=h0.tup_inv;exact⟨_,_,rfl,.inr h,by rw[r.length];exact q _ H (aq.refl H) (.int _)⟩
 ·cases ez
  obtain⟨_,rfl,h0⟩:=r.one_inv;obtain⟨_,_,rfl,h,m,r⟩:=h0.lst_inv;exact⟨_,_,rfl,.inl (SqL.of h),by rw[r.length];exact q _ H (aq.refl H) (.int _)⟩
 ·cases ez
  obtain⟨_,rfl,h0⟩:=r.one_inv;obtain⟨_,rfl,h⟩:=h0.scr_inv;exact⟨_,_,rfl,.inl h.sq,by rw[List.length_map];exact q _ H (aq.refl H) (.int _)⟩
 ·cases ez
theorem aFh:∀x z,bz x= .ok z->imm z=true:=by
 intro x z e;unfold bz at e;split at e<;>first|(cases e;rfl)|cases e
def tyD:D->String
 | .non=>"NoneType"| .bl _=>"bool"| .int _=>"int"| .str _=>"str"| .tup _=>"tuple"| .lst _=>"list"| .dct _ _=>"dict"| .set _=>"set"| .scr _=>"script"| .fn _=>"function"
def fU(T:String):D->Rs D:=λ d=>if sZ (tyD d) T true=true then .ok (.bl true)else if sZ (tyD d) T false=true then .ok (.bl false)else .st
def aL1(K:PySem.W.Frag)(T:String):List V->Hp->VK->Prop:=λ xs H Q=>∃x d A b,xs=[x,.ty T]/\Rp K A H x d/\sZ (tyD d) T b=true/\Q (.bl b) H
theorem aGm:dR X (.builtin "isinstance") (aL1 X.K T):=by
 intro pins s σ H xs us Q I rv h;obtain⟨x,d,A,b,rfl,rd,ok,q⟩:=h;cases rd with
 |tup h r=>
  obtain⟨u,w',rfl,ru,rw'⟩:=vals2 rv;cases ru;cases rw';obtain⟨its,_,⟨o,h1,h2,_⟩,_⟩:=I.tuple h;exact PySem.W.kia_one PySem.W.kitx_tuple I.kIn ⟨o,h1,h2⟩ (aEg ok) (λ z=>nomatch z) λ tk=>⟨.bl b,H,I.tok _,rfl,q⟩
 |set h m hS nd=>cases b<;>simp[sZ,tyD]at ok
 |scr h=>cases b<;>simp[sZ,tyD]at ok
 |fn h=>cases b<;>simp[sZ,tyD]at ok
 |non=>exact oU pins s σ H _ us Q I rv ⟨_,T,_,b,rfl,.non,ok,q⟩
 |bl c=>exact oU pins s σ H _ us Q I rv ⟨_,T,_,b,rfl,.bl c,ok,q⟩
 |int c=>exact oU pins s σ H _ us Q I rv ⟨_,T,_,b,rfl,.int c,ok,q⟩
 |str c=>exact oU pins s σ H _ us Q I rv ⟨_,T,_,b,rfl,.str c,ok,q⟩
 |lst h m r=>exact oU pins s σ H _ us Q I rv ⟨_,T,_,b,rfl,.lst h,ok,q⟩
 |dK h m r=>exact oU pins s σ H _ us Q I rv ⟨_,T,_,b,rfl,.dK h,ok,q⟩
 |dT h m r=>
  obtain⟨u,w',rfl,ru,rw'⟩:=vals2 rv;cases ru;cases rw';obtain⟨⟨_,_,_,o,_,_,_,h1,h2,_⟩,_⟩:=(show gm X.prog X.w H s.heap _ (dxO _ _)from I.hok _ _ h.at_);exact PySem.W.kia_one PySem.W.kitx_dict I.kIn ⟨o,h1,h2.1⟩ (aEg ok) (λ z=>nomatch z) λ tk=>⟨.bl b,H,I.tok _,rfl,q⟩
end
section
variable{C:Ct}{pos p p2:Pos}{m:Mode}{a:Expr}{fa:En->Rs D}
theorem iu(ha:SE C m a fa)(hm:C.mg "isinstance"=none)(hmT:C.mg x=none)(hn:x≠"__name__":=by decide)(hd:(x==("__debug__":Str))=false:=by decide)(he:∀i,starEach [a,.Name x p2] (C.X i).env=(false,eval a (C.X i).env)::starEach [.Name x p2] (C.X i).env:=by intro _;rfl)(hpl:∀i,(backTo pos (starEach [.Name x p2] (C.X i).env)).any (·.1)=false:=by intro _;rfl)(hg:∀i,Gl (C.X i) "isinstance":=by intro _;rfl)(hv:bootBuiltins "isinstance"=some (.builtin "isinstance"):=by decide+kernel)(hgT:∀i,Gl (C.X i) x:=by intro _;rfl)(hvT:bootBuiltins x=some (.type T):=by decide+kernel):
  SE C (some []) (.Call (.Name "isinstance" p) [a,.Name x p2] [] pos) (op1 (fU T) fa):=by
 obtain⟨t,h1,h2⟩:=ha;refine⟨tCB (aL1 C.K T) (lr t (lr (tC (.ty T)) tH)),λ i=>?_,λ τ σ H ρ lab Q R W=>?_⟩
 ·rw[<-C.hK i]
  exact uf aGm (hg i) (by rw[(C.cx i).2.2.2.1];exact hm) hv (gF (h1 i) (gF (aKD (v:=.ty T) (hgT i) (by rw[(C.cx i).2.2.2.1];exact hmT) hvT rfl hn hd) jK) (he i)) (by decide) (by decide) (he i) (hpl i)
 ·refine h2 τ σ H ρ lab _ R (W.bd.imp λ d _ w x H1 s1 r1=>?_)
  obtain⟨z,ez,w⟩:=w.okD;unfold fU at ez;split at ez
  ·rename_i h;cases ez;exact⟨x,d,_,true,rfl,r1,h,w _ H1 s1 (.bl _)⟩
  ·split at ez
   ·rename_i h;cases ez;exact⟨x,d,_,false,rfl,r1,h,w _ H1 s1 (.bl _)⟩
   ·cases ez
end
def rR:Slot->Slot
 | .ow d=>.sh d
 | .nw d=>.sh d
 | .oz d=>.sh d
 | .o2 l=>.sh (.lst (l.map .lst))
 |s=>s
def shE(ρ:En):En:=ρ.map rR
def stV(js:List (Option Nat))(σ:L2.St):L2.St:=js.map λ o=>o.bind λ j=>(σ[j]?).join
def stE(js:List (Option Nat))(ρ:En):En:=js.map λ o=>match o with
 |none=>.no
 |some j=>(ρ[j]?).getD .no
theorem aJh{K:PySem.W.Frag}(h:jN K H lab i v s):∃d,(s= .no\/rR s= .sh d)/\(s= .no\/Rp K (λ _=>True) H v d):=by
 cases s with
 |no=>exact⟨.non,.inl rfl,.inl rfl⟩
 |sh d=>exact⟨d,.inr rfl,.inr (Rp.wk (λ _ _ _ _=>trivial) h)⟩
 |nw d=>exact⟨d,.inr rfl,.inr (Rp.wk (λ _ _ _ _=>trivial) h)⟩
 |ow d=>exact⟨d,.inr rfl,.inr (Rp.wk (λ _ _ _ _=>trivial) h.1)⟩
 |oz d=>exact⟨d,.inr rfl,.inr (Rp.wk (λ _ _ _ _=>trivial) (aL9 h))⟩
 |o2 l=>exact⟨_,.inr rfl,.inr (Rp.wk (λ _ _ _ _=>trivial) (aF2 h))⟩
theorem RR.shE{K:PySem.W.Frag}(R:RR K G τ ρ σ H lab):RR K G τ (shE ρ) σ H (λ _=>(0,0)):=by
 refine⟨by unfold VL.shE;rw[List.length_map];exact R.len,λ i s e=>?_,R.old,λ p hp=>absurd rfl hp,λ q hq=>(R.tm q hq).wk λ _ _ _ _=>Nat.zero_le _⟩;unfold VL.shE at e;rw[List.getElem?_map]at e;cases e0:ρ[i]? with
 |none=>rw[e0]at e;cases e
 |some s0=>
  rw[e0]at e;cases e;rcases R.sl i s0 e0 with rfl|⟨v,ev,hv⟩
  ·exact .inl rfl
  ·obtain⟨d,h1,h2⟩:=aJh hv
   rcases h1 with rfl|h1
   ·exact .inl rfl
   ·rcases h2 with rfl|h2
    ·exact .inl rfl
    ·exact .inr ⟨v,ev,by rw[h1];exact h2.wk λ _ _ _ _=>Nat.zero_le _⟩
theorem aHJ{i:Nat}(e:(stE js ρ)[i]? =some s):s= .no\/∃j,js[i]? =some (some j)/\ρ[j]? =some s:=by
 unfold stE at e;rw[List.getElem?_map]at e;cases ej:js[i]? with
 |none=>rw[ej]at e;cases e
 |some o=>
  rw[ej]at e;cases o with
  |none=>cases e;exact .inl rfl
  |some j=>
   cases er:ρ[j]? with
   |none=>simp[er]at e;exact .inl e.symm
   |some s'=>simp[er]at e;subst e;exact .inr ⟨j,rfl,er⟩
theorem RR.block{K:PySem.W.Frag}{τ:List (V×D)}(R:RR K G τ (VL.shE ρ) σ H lab)(hz:∀p,(lab p).1<=1)(hl:H l=none):
  RR K G τ (stE js (VL.shE ρ)) (stV js σ) H (λ p=>if p=l then(2,0)else(0,0)):=by
 have nl:∀p o,H p=some o->p≠l:=λ p o e z=>by subst z;rw[hl]at e;cases e
 refine⟨by unfold stE stV;rw[List.length_map,List.length_map],λ i s e=>?_,R.old,λ p hp=>?_,λ q hq=>(R.tm q hq).wk λ p o e _=>by rw[if_neg (nl p o e)];exact Nat.zero_le _⟩
 ·rcases aHJ e with rfl|⟨j,ej,es⟩
  ·exact .inl rfl
  ·rcases R.sl j s es with rfl|⟨v,ev,hv⟩
   ·exact .inl rfl
   ·refine .inr ⟨v,?_,?_⟩
    ·unfold stV
     rw[List.getElem?_map,ej];simp[ev]
    ·unfold VL.shE at es
     rw[List.getElem?_map]at es;cases e0:ρ[j]? with
     |none=>rw[e0]at es;cases es
     |some s0=>
      rw[e0]at es;cases es;cases s0 with
      |no=>trivial
      |oz d=>exact Rp.wk (λ p o e _=>by show(if p=l then((2,0):Nat×Nat)else(0,0)).1<=1;rw[if_neg (nl p o e)];exact Nat.zero_le _) hv
      |nw d=>exact Rp.wk (λ p o e _=>by show(if p=l then((2,0):Nat×Nat)else(0,0)).1<=1;rw[if_neg (nl p o e)];exact Nat.zero_le _) hv
      |sh d=>exact Rp.wk (λ p o e _=>by show(if p=l then((2,0):Nat×Nat)else(0,0)).1<=1;rw[if_neg (nl p o e)];exact Nat.zero_le _) hv
      |ow d=>exact Rp.wk (λ p o e _=>by show(if p=l then((2,0):Nat×Nat)else(0,0)).1<=1;rw[if_neg (nl p o e)];exact Nat.zero_le _) hv
      |o2 d=>exact Rp.wk (λ p o e _=>by show(if p=l then((2,0):Nat×Nat)else(0,0)).1<=1;rw[if_neg (nl p o e)];exact Nat.zero_le _) hv
 ·by_cases hp':p=l
  ·subst hp';exact R.old.free hl
  ·exact absurd (show(if p=l then((2,0):Nat×Nat)else(0,0)).1=0 by rw[if_neg hp']) hp
def aPH(XN N:List Str)(js:List (Option Nat))(ks:List Nat)(sc:Scope):Bool:=(List.range js.length).all λ i=>match js[i]? with
 |some (some j)=>match N[i]?,XN[j]? with
  |some x,some y=>x==y&&sc.names.lookup x==some .free&& !ks.contains i
  |_,_=>false
 |_=>true
theorem aCU(h1:sc.kind= .function)(h2:(sc.names.all λ y=>y.2 != .cell)=true)(h3:(sc.names.all λ y=>y.2 != .local||sc.names.lookup y.1==some .local)=true)
  (h4:(sc.names.all λ y=>y.2 != .free||(X.env.kindOf y.1==some .cell||X.env.kindOf y.1==some .free))=true)(h5:js.length=N.length)(h6:aPH X.N N js ks sc=true):iQ X sc N (stV js) ks:=by
 refine⟨h1,λ y hy=>?_,λ y hy e=>?_,λ y hy e=>?_,λ σ=>by unfold stV;rw[List.length_map];exact h5,λ σ i x v e1 e2=>?_⟩
 ·have:=List.all_eq_true.mp h2 y hy
  simpa using this
 ·have:=List.all_eq_true.mp h3 y hy
  rw[e]at this;simpa using this
 ·have:=List.all_eq_true.mp h4 y hy
  rw[e]at this;simpa using this
 ·unfold stV at e2
  rw[List.getElem?_map]at e2;cases ej:js[i]? with
  |none=>rw[ej]at e2;cases e2
  |some o=>
   rw[ej]at e2;cases o with
   |none=>cases e2
   |some j=>
    have hi:i<js.length:=(List.getElem?_eq_some_iff.mp ej).1
    have:=List.all_eq_true.mp h6 i (List.mem_range.mpr hi)
    rw[ej,e1]at this;dsimp only at this;cases ey:X.N[j]? with
    |none=>rw[ey]at this;cases this
    |some y=>
     rw[ey]at this;simp only[Bool.and_eq_true,beq_iff_eq,Bool.not_eq_true']at this;obtain⟨⟨h,h'⟩,h''⟩:=this;subst h;refine⟨h',λ hk=>?_,j,ey,?_⟩
     ·rw[List.contains_iff_mem.mpr hk]at h'';cases h''
     ·simp only[Option.map_some,Option.bind_some,Option.some.injEq]at e2
      cases es:σ[j]? with
      |none=>rw[es]at e2;cases e2
      |some w=>rw[es]at e2;simp at e2;subst e2;rfl
abbrev Ct.blk(C:Ct)(sc:Scope)(N:List Str):Ct where
 ι:=C.ι×Addr×List Addr×Shared×Hp
 X:=λ i=>(C.X i.1).block sc i.2.1 N i.2.2.1 i.2.2.2.1 i.2.2.2.2
 prog:=C.prog
 w:=C.w
 K:=C.K
 mg:=C.mg
 base:=C.base
 k:=C.k
 G:={C.G with E:=λ _ _ _=>False}
 cx:=λ i=>C.cx i.1
 calm:=λ i=>C.calm i.1
 room:=λ i=>C.room i.1
 own:=λ i=>PassesOwn.never
 pass:=λ i pins σ H s e s' I h=>by obtain⟨_,_,_,_,_,_,_,_,_,_,_,_,_,hE⟩:=h;exact hE
 dOk:=false
 dcx:=λ h=>absurd h Bool.false_ne_true
def lcL(ρ:En)(fg:D->En->Rs En)(ft:En->Rs Bool)(fe:En->Rs D):List D->Rs (List D)
 |[]=>.ok []
 |d::ds=>(fg d ρ).bd λ ρ1=>(ft ρ1).bd λ k=>if k=true then(fe ρ1).bd λ y=>(lcL ρ fg ft fe ds).bd λ ys=>.ok (y::ys)else lcL ρ fg ft fe ds
def lcD(fi:En->Rs (List D))(js:List (Option Nat))(fg:D->En->Rs En)(ft:En->Rs Bool)(fe:En->Rs D):En->Rs D:=λ ρ=>(fi (shE ρ)).bd λ ds=>
 if ds.length<sizeLine then(match lcL (stE js (shE ρ)) fg ft fe ds with
  | .ok l=>.ok (.lst l)
  |_=>.st)else .st
def aGn(C:Ct)(ifs:List Expr)(f:En->Rs Bool):Prop:=∃t,(∀i,aC2 (C.X i) ifs t)/\aDr C.K C.G t f
def bV:En->Rs Bool:=λ _=>.ok true
theorem eO:aGn C [] bV:=⟨_,λ _=>aM0,λ τ σ H ρ lab Q R W=>W H (aq.refl H)⟩
theorem tL(h:ST C c f):aGn C [c] f:=let⟨t,h1,h2⟩:=h;⟨t,λ i=>aMZ (h1 i),h2⟩
theorem aDP(h:lcL ρ fg ft fe (d::ds)= .ok l):
  ∃ρ1 k,fg d ρ= .ok ρ1/\ft ρ1= .ok k/\((k=true/\∃y ys,fe ρ1= .ok y/\lcL ρ fg ft fe ds= .ok ys/\l=y::ys)\/(k=false/\lcL ρ fg ft fe ds= .ok l)):=by
 unfold lcL at h;obtain⟨ρ1,e1,h⟩:=dY h;obtain⟨k,e2,h⟩:=dY h;refine⟨ρ1,k,e1,e2,?_⟩;cases k with
 |true=>
  rw[if_pos rfl]at h;obtain⟨y,e3,h⟩:=dY h;obtain⟨ys,e4,h⟩:=dY h;cases h;exact .inl ⟨rfl,y,ys,e3,e4,rfl⟩
 |false=>
  rw[if_neg Bool.false_ne_true]at h;exact .inr ⟨rfl,h⟩
theorem RR.but_blk{K:PySem.W.Frag}{τ:List (V×D)}(R:RR K G τ (stE js (VL.shE ρ)) σ H (λ p=>if p=l then(2,0)else(0,0)))(B:oA l H H')(hl:H l=some o)(ho:mQ o=true)(h0:G.H0 l=none):
  RR K G τ (stE js (VL.shE ρ)) σ H' (λ p=>if p=l then(2,0)else(0,0)):=by
 have lab1l:¬((λ p=>if p=l then((2,0):Nat×Nat)else(0,0)) l).1<=1:=by simp
 refine⟨R.len,λ j s e=>?_,λ b o hb=>?_,R.new,λ q hq=>(R.tm q hq).but B hl ho lab1l⟩
 ·rcases R.sl j s e with z|⟨u,e1,e2⟩
  ·exact .inl z
  ·refine .inr ⟨u,e1,?_⟩
   rcases aHJ e with rfl|⟨jx,ej,es⟩
   ·trivial
   ·unfold VL.shE at es
    rw[List.getElem?_map]at es;cases e0:ρ[jx]? with
    |none=>rw[e0]at es;cases es
    |some s0=>rw[e0]at es;cases es;cases s0<;>first|trivial|exact Rp.but B hl ho lab1l e2
 ·exact B b o (λ z=>by subst z;rw[h0]at hb;cases hb) (R.old b o hb)
theorem RR.blk0{K:PySem.W.Frag}(R:RR K G τ (VL.shE ρ) σ H lab)(hG:G'.H0=G.H0):RR K G' τ (VL.shE ρ) σ H (λ _=>(0,0)):=by
 refine⟨R.len,λ i s e=>?_,by rw[hG];exact R.old,λ p hp=>absurd rfl hp,λ q hq=>(R.tm q hq).wk λ _ _ _ _=>Nat.zero_le _⟩;rcases R.sl i s e with rfl|⟨v,ev,hv⟩
 ·exact .inl rfl
 ·unfold VL.shE at e
  rw[List.getElem?_map]at e;cases e0:ρ[i]? with
  |none=>rw[e0]at e;cases e
  |some s0=>rw[e0]at e;cases e;cases s0<;>first|exact .inl rfl|exact .inr ⟨v,ev,Rp.wk (λ _ _ _ _=>Nat.zero_le _) hv⟩
section
variable{K:PySem.W.Frag}{G:Gx}{wi:TI}{fi:En->Rs (List D)}{js:List (Option Nat)}{g:TG}{fg:D->En->Rs En}{tt:TT}{ft:En->Rs Bool}{te:TE}{fe:En->Rs D}
theorem aHR(hi:aJK K G wi fi)(hg:aJL K {G with E:=λ _ _ _=>False} g fg)(ht:aDr K {G with E:=λ _ _ _=>False} tt ft)(he:km K {G with E:=λ _ _ _=>False} (some []) te fe):
  km K G (some []) (tLC wi (stV js) g tt te) (lcD fi js fg ft fe):=by
 intro τ σ H ρ lab Q R W;refine hi τ σ H _ _ _ R.shE (W.bd.imp λ ds _ w J H1 lab1 τ1 s1 _ R1 jl=>?_);intro l hl;obtain⟨hlen,out,hout,w⟩:ds.length<sizeLine/\∃out,lcL (stE js (VL.shE ρ)) fg ft fe ds= .ok out/\QE K (some []) lab H Q (.lst out):=by
  by_cases hlen:ds.length<sizeLine
  ·rw[if_pos hlen]at w
   cases hout:lcL (stE js (VL.shE ρ)) fg ft fe ds with
   |ok out=>rw[hout]at w;exact⟨hlen,out,rfl,w⟩
   |ex c=>rw[hout]at w;exact False.elim w
   |st=>rw[hout]at w;exact False.elim w
  ·rw[if_neg hlen]at w
   exact False.elim w
 have R0:RR K {G with E:=λ _ _ _=>False} (τ1++τ) (VL.shE ρ) σ H1 (λ _=>(0,0)):=R1.blk0 rfl;have RB:=R0.block (js:=js) (λ _=>Nat.zero_le _) hl;have hHl:H l=none:=s1.free hl;have lab1l:¬((λ p=>if p=l then((2,0):Nat×Nat)else(0,0)) l).1<=1:=by simp
 refine⟨λ i n acc H2=>∃pre,n=ds.length-i/\i<=ds.length/\H2 l=some (.lst acc)/\RR K {G with E:=λ _ _ _=>False} (τ1++τ) (stE js (VL.shE ρ)) (stV js σ) H2 (λ p=>if p=l then(2,0)else(0,0))/\aq H H2/\acc.length<=i/\
  Rps K (λ p=>H p=none/\p≠l) H2 acc pre/\∃post,lcL (stE js (VL.shE ρ)) fg ft fe (ds.drop i)= .ok post/\out=pre++post,⟨ds.length,[],by lia,by lia,bI,RB.up (bL hl _),s1.trans (bL hl _),Nat.le_refl _,.nil,out,hout,rfl⟩,?_⟩
 rintro i n acc H2 ⟨pre,rfl,hi,hH2,R2,s2,hacc,rpre,post,hpost,eout⟩;refine⟨hH2,by lia,?_⟩;have jj:=jl _ H2 λ q hq=>R2.tm q (List.mem_append_left _ hq)
 by_cases hlt:i<ds.length
 ·obtain⟨go,yl⟩:=(jj i).2 hlt
  refine .inr ⟨go,λ x H3 hy=>?_⟩;obtain⟨s3,d,ed,rx⟩:=yl x H3 hy;replace R2:=R2.up s3;replace hH2:=s3 _ _ hH2;replace s2:=s2.trans s3;replace rpre:=rpre.up s3;have ed2:ds.drop i=d::ds.drop (i+1):=by
   rw[List.drop_eq_getElem_cons hlt]
   have:=List.getElem?_eq_getElem hlt
   rw[ed]at this;cases this;rfl
  rw[ed2]at hpost;obtain⟨ρ1,k,e1,e2,e3⟩:=aDP hpost;refine hg (τ1++τ) x d _ H3 _ _ _ ρ1 R2 rx e1 λ σ4 R4=>?_
  refine ht (τ1++τ) σ4 H3 ρ1 _ _ R4 ?_;rw[e2];intro H5 s5;rcases e3 with ⟨rfl,y,ys,e3,e4,rfl⟩|⟨rfl,e4⟩
  ·rw[if_pos rfl]
   refine he (τ1++τ) σ4 H5 ρ1 _ _ (R4.up s5) ?_;rw[e3];intro v H6 s6 r6;have hl6:H6 l=some (.lst acc):=s6 _ _ (s5 _ _ hH2);have B:oA l H6 (upd H6 l (.lst (acc++[v]))):=λ b o ne hb=>by rw[bZ ne];exact hb
   refine⟨hl6,ds.length-(i+1),by lia,pre++[y],rfl,hlt,bI,?_,?_,by rw[List.length_append];simp;lia,?_,ys,e4,by rw[eout];simp⟩
   ·exact(R2.up (s5.trans s6)).but_blk B hl6 rfl (R1.old.free hl)
   ·exact λ b o hb=>B b o (λ z=>by subst z;rw[hHl]at hb;cases hb) (((s2.trans s5).trans s6) b o hb)
   ·refine((rpre.up (s5.trans s6)).append (.cons (r6.wk λ p o _ z=>?_) .nil)).but B hl6 rfl λ z=>z.2 rfl
    rcases z with z|z
    ·exact⟨(s2.trans s5).free z,λ e=>by subst e;rw[s5 _ _ hH2]at z;cases z⟩
    ·cases z
  ·rw[if_neg Bool.false_ne_true]
   exact⟨ds.length-(i+1),by lia,pre,rfl,hlt,s5 _ _ hH2,R2.up s5,s2.trans s5,by lia,rpre.up s5,post,e4,eout⟩
 ·have ei:i=ds.length:=by lia
  subst ei;rw[List.drop_length]at hpost;cases hpost;rw[List.append_nil]at eout;subst eout;exact .inl ⟨(jj _).1 (Nat.le_refl _),w _ H2 s2 (.lst hH2 (.inl hHl) (rpre.wk λ p o _ z=>⟨.inl z.1,z.2⟩))⟩
end
section
variable{C:Ct}{pos:Pos}{elt tg iter:Expr}{ifs:List Expr}{sc:Scope}{N:List Str}{js:List (Option Nat)}{ks:List Nat}{fi:En->Rs (List D)}{fg:D->En->Rs En}{ft:En->Rs Bool}{fe:En->Rs D}
theorem bJ{C:Ct}(nd:N.Nodup:=by decide+kernel)(hk:i∈ks:=by decide)(hN:∀j,((C.blk sc N).X j).N[i]? =some x:=by intro _;rfl)(hx:∀j,Loc ((C.blk sc N).X j).env.scope x:=by intro _;first|exact Or.inl rfl|exact Or.inr rfl)
  (hf:∀j,((C.blk sc N).X j).fn x=true\/((C.blk sc N).X j).env.scope.names.lookup x=some .local:=by intro _;first|exact .inl rfl|exact .inr rfl):SG (C.blk sc N) (.Name x pos) ks (gnm i):=
 cu hN hx hf (λ _=>nd) hk
theorem gj(hi:SI C tg iter fi)(hg:SG (C.blk sc N) tg ks fg)(ht:aGn (C.blk sc N) ifs ft)(he:SE (C.blk sc N) (some []) elt fe)(hs:∀i x,foldedSetIterable iter (C.X i).env x=pure x:=by intro _ _;rfl)(hB:∀i,iQ (C.X i) sc N (stV js) ks:=by intro _;exact aCU rfl rfl rfl rfl rfl rfl):SE C (some []) (.ListComp elt [⟨tg,iter,ifs,0⟩] sc pos) (lcD fi js fg ft fe):=by
 obtain⟨wi,i1,i2⟩:=hi;obtain⟨g,g1,g2,g3,g4⟩:=hg;obtain⟨tt,t1,t2⟩:=ht;obtain⟨te,e1,e2⟩:=he;exact⟨_,λ i=>aOT (hB i) (C.calm i) (i1 i) (λ c fp s₀ H₀=>g1 (i,c,fp,s₀,H₀)) g3 (λ c fp s₀ H₀=>t1 (i,c,fp,s₀,H₀)) (λ c fp s₀ H₀=>e1 (i,c,fp,s₀,H₀)) (hs i),aHR i2 g2 t2 e2⟩
theorem aLW(hi:SI C tg iter fi)(hg:SG (C.blk sc N) tg ks fg)(ht:aGn (C.blk sc N) ifs ft)(he:SE (C.blk sc N) (some []) elt fe)(hN:∀j,(C.X j).N[i]? =some x:=by intro _;rfl)(hx:∀j,Loc (C.X j).env.scope x:=by intro _;first|exact Or.inl rfl|exact Or.inr rfl)(hsw:∀j,swapsWith (.ListComp elt [⟨tg,iter,ifs,0⟩] sc pos) (some (.Name x pos')) spos.line (C.X j).env=pure true:=by intro _;rfl)(hs:∀i x,foldedSetIterable iter (C.X i).env x=pure x:=by intro _ _;rfl)(hf:∀j,(C.X j).fn x=true\/(C.X j).env.scope.names.lookup x=some .local:=by intro _;first|exact .inl rfl|exact .inr rfl)(nd:∀j,(C.X j).N.Nodup:=by intro _;assumption)(hB:∀i,iQ (C.X i) sc N (stV js) ks:=by intro _;exact aCU rfl rfl rfl rfl rfl rfl):
  SV C i (.Assign [.Name x pos'] (.ListComp elt [⟨tg,iter,ifs,0⟩] sc pos) spos) (some []) (lcD fi js fg ft fe):=by
 obtain⟨wi,i1,i2⟩:=hi;obtain⟨g,g1,g2,g3,g4⟩:=hg;obtain⟨tt,t1,t2⟩:=ht;obtain⟨te,e1,e2⟩:=he;exact⟨_,λ j=>aCv (nd j) (hN j) (hx j) (hB j) (C.calm j) (i1 j) (λ c fp s₀ H₀=>g1 (j,c,fp,s₀,H₀)) g3 (λ c fp s₀ H₀=>t1 (j,c,fp,s₀,H₀)) (λ c fp s₀ H₀=>e1 (j,c,fp,s₀,H₀)) (hsw j) (hs j) (hf j),aHR i2 g2 t2 e2⟩
end
section
variable{K:PySem.W.Frag}{G:Gx}{wi:TI}{fi:En->Rs (List D)}{js:List (Option Nat)}{g:TG}{fg:D->En->Rs En}{tt:TT}{ft:En->Rs Bool}{te:TE}{fe:En->Rs D}{m:Mode}
end
section
variable{C:Ct}{pos:Pos}{elt tg iter:Expr}{ifs:List Expr}{sc:Scope}{N:List Str}{js:List (Option Nat)}{ks:List Nat}{fi:En->Rs (List D)}{fg:D->En->Rs En}{ft:En->Rs Bool}{fe:En->Rs D}{m:Mode}
end
theorem RR.mut{K:PySem.W.Frag}(R:RR K G τ ρ σ H lab)(ev:σ[i]? =some (some v))(hl:H l=some o)(ho:mQ o=true)(hlab:(lab l).1=i+2)
  (B:oA l H H')(h':jN K H' lab i v s'):RR K G τ (ρ.set i s') σ H' lab:=by
 refine⟨by rw[List.length_set];exact R.len,λ j x e=>?_,λ b u hb=>B b u (λ z=>?_) (R.old b u hb),R.new,λ q hq=>(R.tm q hq).but B hl ho λ z=>by lia⟩
 ·by_cases hj:i=j
  ·subst hj
   have hi:i<ρ.length:=by
    have:=(List.getElem?_eq_some_iff.mp e).1
    rwa [List.length_set]at this
   rw[List.getElem?_set_self hi]at e;cases e;exact .inr ⟨v,ev,h'⟩
  ·rw[List.getElem?_set_ne hj]at e
   rcases R.sl j x e with z|⟨u,e1,e2⟩
   ·exact .inl z
   ·refine .inr ⟨u,e1,?_⟩
    cases x with
    |no=>trivial
    |sh d=>exact Rp.but B hl ho (λ z=>by lia) e2
    |nw d=>exact Rp.but B hl ho (λ z=>by lia) e2
    |ow d=>exact⟨Rp.but B hl ho (λ z=>by lia) e2.1,e2.2⟩
    |oz d=>
     obtain⟨a,xs,ds,q1,q2,q3,q4,q5⟩:=e2;exact⟨a,xs,ds,q1,q2,B a _ (λ z=>by subst z;exact hj (by lia)) q3,q4,Rps.but B hl ho (λ z=>by lia) q5⟩
    |o2 ll=>
     obtain⟨a,xs,q1,q2,q3,q4,q5⟩:=e2;refine⟨a,xs,q1,B a _ (λ z=>?_) q2,q3,q4,λ jj y ds f1 f2=>(q5 jj y ds f1 f2).but B hl ho λ z=>?_⟩
     ·rw[z]at q3;rw[q3]at hlab;exact hj (by simpa using hlab.symm)
     ·rw[z]at hlab;exact hj (by simpa using hlab.symm)
 ·subst z
  have:=R.new b (by rw[hlab];lia)
  rw[this]at hb;cases hb
section
variable{C:Ct}{pos apos cpos p:Pos}{e a:Expr}{fe fa:En->Rs D}{i:Nat}{x:Str}{m:Mode}
def pq(i:Nat)(fe:En->Rs D):En->Ou:=λ ρ=>match ρ[i]? with
 |some (.ow (.lst ds))=>(fe ρ).bo λ d=>if ds.length<sizeLine then .nx (ρ.set i (.ow (.lst (ds++[d]))))else .st
 |_=>.st
theorem lO(i:Nat)(he:SE C m e fe)(hm:okN m=true:=by rfl)(hN:∀j,(C.X j).N[i]? =some x:=by intro _;rfl)(hv:∀j,Vis (C.X j).env.scope x:=by intro _;first|exact Or.inl rfl|exact Or.inr (Or.inl rfl)|exact Or.inr (Or.inr rfl))(hd:(x==("__debug__":Str))=false:=by decide)
  (hcd:(x==("__classdict__":Str))=false:=by decide)(hs1:∀j,starEach [e] (C.X j).env=[(false,eval e (C.X j).env)]:=by intro _;rfl)
  (hbase:∀j,attributeBase (.Name x p) "append" (C.X j).env (eval (.Name x p) (C.X j).env)=eval (.Name x p) (C.X j).env:=by intro _;rfl)
  (hfew:∀j,((backTo cpos (starEach [e] (C.X j).env)).all (λ x=>!x.1)&&(backToKw cpos (keywordEach [] (C.X j).env)).all (λ x=>x.1.isSome)&&decide ([e].length+([]:List Keyword).length+(if ([]:List Keyword).isEmpty then 0 else 1)<30))=true:=by intro _;rfl)
  (hline:(apos.endLine==cpos.line)=true:=by rfl)
  (hsw:∀j,swapsWith (.Call (.Attribute (.Name x p) "append" apos) [e] [] cpos) none pos.line (C.X j).env=pure false:=by intro _;rfl):
  SS C (.Expr (.Call (.Attribute (.Name x p) "append" apos) [e] [] cpos) pos) (pq i fe):=by
 obtain⟨t,h1,h2⟩:=he;refine⟨aAo (tBM C.K "list" zL (ym i) (lr t tH)),λ j=>rC (by rw[<-C.hK j];exact aCx PySem.F.plainAttrs_list PySem.F.slot_list_append PySem.F.type_list_append zU (nj (hN j) (hv j) hd hcd) (gF (h1 j) jK (hs1 j)) (hbase j) (hfew j) hline (hs1 j) rfl) (hsw j),λ τ σ H ρ lab De R W=>?_⟩;unfold pq at W;cases es:ρ[i]? with
 |none=>rw[es]at W;exact False.elim W
 |some s=>
  rw[es]at W;split at W
  ·rename_i ds hs
   cases hs;rcases R.sl i _ es with z|⟨v,ev,hv'⟩
   ·cases z
   ·obtain⟨hv1,htop⟩:=hv'
    obtain⟨a0,ea0,la0⟩:=htop rfl;subst ea0;cases hv1 with
    |lst h mm r=>
     rename_i xs;refine⟨.ref a0,ev,.inl ⟨rfl,xs,SqL.of h⟩,h2 τ σ H ρ lab _ R (W.bo.imp λ d _ w y H2 s2 r2=>?_)⟩;by_cases hz:ds.length<sizeLine
     ·rw[if_pos hz]at w
      refine⟨a0,xs,y,rfl,rfl,s2 _ _ h,by rw[r.length];exact hz,λ H3 B h3=>?_⟩;obtain⟨R',r'⟩:=R.fresh (P:=λ k=>k=1) rfl (λ k hk=>beq_iff_eq.mp (pF hm k hk)) s2 r2;have la:(cQ H 1 lab a0).1=i+2:=by rw[bc h];exact la0
      refine w σ H3 _ (R'.mut ev (s2 _ _ h) rfl la B ⟨.lst h3 (.inr la) ?_,λ _=>⟨a0,rfl,la⟩⟩);have ra:Rps C.K (λ p=>((cQ H 1 lab p).1=1\/(cQ H 1 lab p).1=i+2)/\p≠a0) H2 (xs++[y]) (ds++[d]):=by
       refine(r.mono s2 λ p o e z=>⟨by rw[bc e];exact z.1,z.2⟩).append (.cons (r'.wk λ p o e z=>⟨.inl z,λ q=>?_⟩) .nil);subst q;rw[la]at z;lia
      exact ra.but B (s2 _ _ h) rfl λ z=>z.2 rfl
     ·rw[if_neg hz]at w
      exact False.elim w
  ·exact False.elim W
def at2(ll:List (List D)):D->Option (Nat×List D)
 | .int n=>(ixN ll.length n).bind λ j=>(ll[j]?).map λ ds=>(j,ds)
 |_=>none
def oV(i:Nat)(fa fe:En->Rs D):En->Ou:=λ ρ=>match ρ[i]? with
 |some (.o2 ll)=>(fa ρ).bo λ k=>match at2 ll k with
  |some (j,ds)=>(fe ρ).bo λ d=>if ds.length<sizeLine then .nx (ρ.set i (.o2 (ll.set j (ds++[d]))))else .st
  |none=>.st
 |_=>.st
theorem aJJ(h:at2 ll k=some (j,ds)):∃n,k= .int n/\ixN ll.length n=some j/\ll[j]? =some ds:=by
 cases k with
 |int n=>
  simp only[at2,Option.bind_eq_some_iff,Option.map_eq_some_iff]at h;obtain⟨j',h1,ds',h2,h3⟩:=h;cases h3;exact⟨n,rfl,h1,h2⟩
 |_=>cases h
theorem tK(i:Nat){p2:Pos}(ha:SE C m a fa)(he:SE C (some []) e fe)(hN:∀j,(C.X j).N[i]? =some x:=by intro _;rfl)(hv:∀j,Vis (C.X j).env.scope x:=by intro _;first|exact Or.inl rfl|exact Or.inr (Or.inl rfl)|exact Or.inr (Or.inr rfl))(hd:(x==("__debug__":Str))=false:=by decide)
  (hcd:(x==("__classdict__":Str))=false:=by decide)(hs1:∀j,starEach [e] (C.X j).env=[(false,eval e (C.X j).env)]:=by intro _;rfl)(hp:aC0 a:=by exact λ _ _=>rfl)
  (hbase:∀j,attributeBase (.Subscript (.Name x p) a p2) "append" (C.X j).env (eval (.Subscript (.Name x p) a p2) (C.X j).env)=eval (.Subscript (.Name x p) a p2) (C.X j).env:=by intro _;rfl)
  (hfew:∀j,((backTo cpos (starEach [e] (C.X j).env)).all (λ x=>!x.1)&&(backToKw cpos (keywordEach [] (C.X j).env)).all (λ x=>x.1.isSome)&&decide ([e].length+([]:List Keyword).length+(if ([]:List Keyword).isEmpty then 0 else 1)<30))=true:=by intro _;rfl)
  (hline:(apos.endLine==cpos.line)=true:=by rfl)
  (hsw:∀j,swapsWith (.Call (.Attribute (.Subscript (.Name x p) a p2) "append" apos) [e] [] cpos) none pos.line (C.X j).env=pure false:=by intro _;rfl):
  SS C (.Expr (.Call (.Attribute (.Subscript (.Name x p) a p2) "append" apos) [e] [] cpos) pos) (oV i fa fe):=by
 obtain⟨t,h1,h2⟩:=he;obtain⟨ta,a1,a2⟩:=ha;refine⟨aAo (tBM C.K "list" zL (tOp (aMM C.K) (ym i) ta) (lr t tH)),λ j=>rC (by rw[<-C.hK j];exact aCx PySem.F.plainAttrs_list PySem.F.slot_list_append PySem.F.type_list_append zU (aL8 aFd (nj (hN j) (hv j) hd hcd) (a1 j) hp) (gF (h1 j) jK (hs1 j)) (hbase j) (hfew j) hline (hs1 j) rfl) (hsw j),λ τ σ H ρ lab De R W=>?_⟩;unfold oV at W;cases es:ρ[i]? with
 |none=>rw[es]at W;exact False.elim W
 |some s=>
  rw[es]at W;cases s with
  |o2 ll=>
   dsimp only at W;rcases R.sl i _ es with z|⟨v,ev,top,xs,rfl,ht,hlt,hlen,hin⟩
   ·cases z
   ·refine⟨.ref top,ev,a2 τ σ H ρ lab _ R (W.bo.imp λ k _ w kv H1 s1 r1=>?_)⟩
    cases hk:at2 ll k with
    |none=>rw[hk]at w;exact False.elim w
    |some q=>
     obtain⟨j,ds⟩:=q;rw[hk]at w;dsimp only at w;obtain⟨n,rfl,hj,hds⟩:=aJJ hk;cases r1;have hjx:∃xj,xs[j]? =some xj:=by
      have:j<xs.length:=by rw[hlen];exact(List.getElem?_eq_some_iff.mp hds).1
      exact⟨_,List.getElem?_eq_getElem this⟩
     obtain⟨xj,hxj⟩:=hjx;have hr:=hin j xj ds hxj hds;cases hr with
     |lst hl ml rl=>
      rename_i l ys;refine⟨top,xs,n,.ref l,rfl,rfl,SqL.of (s1 _ _ ht),by unfold atI;rw[hlen,hj];exact hxj,.inl ⟨rfl,ys,SqL.of (s1 _ _ hl)⟩,h2 τ σ H1 ρ lab _ (R.up s1) (w.bo.imp λ d _ w y H2 s2 r2=>?_)⟩;by_cases hz:ds.length<sizeLine
      ·rw[if_pos hz]at w
       have s12:=s1.trans s2;refine⟨l,ys,y,rfl,rfl,s12 _ _ hl,by rw[rl.length];exact hz,λ H3 B h3=>?_⟩;have ltop:l≠top:=λ e=>by rw[e,hlt]at ml;cases ml
       let lab':Lab:=λ p=>match H1 p with
        |none=>(i+2,j+1)
        |some _=>lab p
       have lo:∀{p o},H1 p=some o->lab' p=lab p:=λ{p o} e=>by show(match H1 p with|none=>_|some _=>_)=_;rw[e]
       have ln:∀{p},H1 p=none->lab' p=(i+2,j+1):=λ{p} e=>by show(match H1 p with|none=>_|some _=>_)=_;rw[e]
       have R':RR C.K C.G τ ρ σ H2 lab':=((R.up s1).relab (λ p o e=>lo e) λ p hp=>by
        cases e:H1 p with
        |none=>exact(R.old.trans s1).free e
        |some o=>rw[lo e]at hp;exact R.new p hp).up s2
       have labl:lab' l=(i+2,j+1):=by rw[lo (s1 _ _ hl)];exact ml
       refine w σ H3 lab' (R'.mut ev (s12 _ _ hl) rfl (by rw[labl]) B ⟨top,xs,rfl,B _ _ (Ne.symm ltop) (s12 _ _ ht),by rw[lo (s1 _ _ ht)];exact hlt,by rw[List.length_set];exact hlen,λ jj z dz f1 f2=>?_⟩);by_cases hjj:j=jj
       ·subst hjj
        rw[hxj]at f1;cases f1;rw[List.getElem?_set_self (List.getElem?_eq_some_iff.mp hds).1]at f2;cases f2;refine .lst h3 labl ?_;have ra:Rps C.K (λ p=>lab' p=(i+2,j+1)/\p≠l) H2 (ys++[y]) (ds++[d]):=by
         refine(rl.mono s12 λ p o e z=>⟨by rw[lo (s1 _ _ e)];exact z.1,z.2⟩).append (.cons (r2.wk λ p o e z=>?_) .nil);rcases z with z|z
         ·exact⟨ln z,λ q=>by subst q;rw[s1 _ _ hl]at z;cases z⟩
         ·cases z
        exact ra.but B (s12 _ _ hl) rfl λ z=>z.2 rfl
       ·rw[List.getElem?_set_ne hjj]at f2
        refine((hin jj z dz f1 f2).mono s12 (A':=λ p=>lab' p=(i+2,jj+1)) λ p o e q=>by rw[lo (s1 _ _ e)];exact q).but B (s12 _ _ hl) rfl λ q=>?_
        rw[labl]at q;simp only[Prod.mk.injEq]at q;lia
      ·rw[if_neg hz]at w
       exact False.elim w
  |_=>exact False.elim W
end
mutual
def eqD:D->D->Bool
 | .non,.non=>true
 | .bl a,.bl b=>a==b
 | .bl a,.int b=>(if a then 1 else 0)==b
 | .int a,.bl b=>a==(if b then 1 else 0)
 | .int a,.int b=>a==b
 | .str a,.str b=>a==b
 | .tup l,.tup m=>pL l m
 | .lst l,.lst m=>pL l m
 |_,_=>false
def pL:List D->List D->Bool
 |[],[]=>true
 |x::xs,y::ys=>eqD x y&&pL xs ys
 |_,_=>false
end
mutual
def sO:D->Nat
 | .tup l=>jd l+1
 | .lst l=>jd l+1
 |_=>0
def jd:List D->Nat
 |[]=>0
 |d::r=>max (sO d) (jd r)
end
mutual
def bx:D->Bool
 | .tup l=>cP l
 | .lst l=>cP l
 | .dct _ _=>false
 | .set _=>false
 | .scr _=>false
 | .fn _=>false
 |_=>true
def cP:List D->Bool
 |[]=>true
 |d::r=>bx d&&cP r
end
mutual
theorem aAL:∀d:D,bx d=true->eqD d d=true
 | .non,_=>by simp[eqD]
 | .bl b,_=>by simp[eqD]
 | .int i,_=>by simp[eqD]
 | .str x,_=>by simp[eqD]
 | .tup l,h=>by simp only[eqD];exact wW l (by simpa[bx]using h)
 | .lst l,h=>by simp only[eqD];exact wW l (by simpa[bx]using h)
 | .dct _ _,h=>by simp[bx]at h
 | .set _,h=>by simp[bx]at h
 | .scr _,h=>by simp[bx]at h
theorem wW:∀l:List D,cP l=true->pL l l=true
 |[],_=>by simp[pL]
 |d::r,h=>by
  simp only[cP,Bool.and_eq_true]at h;simp only[pL,Bool.and_eq_true];exact⟨aAL d h.1,wW r h.2⟩
end
structure oY(K:PySem.W.Frag)(H:Hp)(s:Shared):Prop where
 tup:∀{a:Addr} {xs:List V},SqT K H a xs->∃its:List Value,Vals xs its/\s.heap.IsTuple a its.toArray
 lst:∀{a:Addr} {xs:List V},H a=some (.lst xs)->∃its:List Value,Vals xs its/\s.heap.IsList a its.toArray
 inj:∀{a:Addr} {xs ys:List V},SqT K H a xs->SqT K H a ys->xs=ys
 ne:∀{a:Addr} {xs ys:List V},SqT K H a xs->H a=some (.lst ys)->False
theorem Inv.seqOk(I:L2.Inv X pins σ H s):oY X.K H s where
 tup:=λ h=>let⟨its,r,p,_⟩:=I.tuple h;⟨its,r,p⟩
 lst:=λ h=>let⟨its,r,p,_⟩:=I.list (SqL.of h);⟨its,r,p.isList⟩
 inj:=λ h h'=>I.tuple_inj h h'
 ne:=λ h h'=>by
  obtain⟨its,_,⟨o,e,c,_⟩,_⟩:=I.tuple h;obtain⟨its2,_,⟨o2,n2,e2,c2,_⟩,_⟩:=I.list (SqL.of h');rw[e]at e2;cases e2;rw[c]at c2;injection c2 with c3
  exact absurd c3 (by decide)
section
variable{K:PySem.W.Frag}{H:Hp}{s:Shared}
theorem ao(h:bx (.dct a b)=true):False:=by simp[bx]at h
theorem cY(h:bx (.set a)=true):False:=by simp[bx]at h
theorem cZ(h:bx (.scr a)=true):False:=by simp[bx]at h
theorem dN(h:bx (.fn a)=true):False:=by simp[bx]at h
theorem lQ(h:bx (.tup a)=true):cP a=true:=by simpa[bx]using h
theorem lR(h:bx (.lst a)=true):cP a=true:=by simpa[bx]using h
theorem nP(h:cP (d::a)=true):bx d=true/\cP a=true:=by
 simp only[cP,Bool.and_eq_true]at h;exact h
def aLN(K:PySem.W.Frag)(s:Shared)(H:Hp)(x:V)(d:D):Prop:=oY K H s->∀(A':Addr->Prop) (e:D),Rp K A' H x e->bx d=true->bx e=true->d=e
def aDs(K:PySem.W.Frag)(s:Shared)(H:Hp)(xs:List V)(ds:List D):Prop:=oY K H s->∀(A':Addr->Prop) (es:List D),Rps K A' H xs es->cP ds=true->cP es=true->ds=es
theorem aKe(ha:SqT K H a xs)(ih:aDs K s H xs ds):aLN K s H (.ref a) (.tup ds):=λ ok A' e h n1 n2=>by
 cases h with
 |tup hb r'=>
  have e:=ok.inj ha hb;subst e;rw[ih ok _ _ r' (lQ n1) (lQ n2)]
 |lst hb _ _=>exact(ok.ne ha hb).elim
 |dK _ _ _=>exact(ao n2).elim
 |dT _ _ _=>exact(ao n2).elim
 |set _ _ _ _=>exact(cY n2).elim
 |scr _=>exact(cZ n2).elim
 |fn _=>exact(dN n2).elim
theorem aKf(ha:H a=some (.lst xs))(ih:aDs K s H xs ds):aLN K s H (.ref a) (.lst ds):=λ ok A' e h n1 n2=>by
 cases h with
 |tup hb r'=>exact(ok.ne hb ha).elim
 |lst hb _ r'=>
  rw[ha]at hb;cases hb;rw[ih ok _ _ r' (lR n1) (lR n2)]
 |dK _ _ _=>exact(ao n2).elim
 |dT _ _ _=>exact(ao n2).elim
 |set _ _ _ _=>exact(cY n2).elim
 |scr _=>exact(cZ n2).elim
 |fn _=>exact(dN n2).elim
theorem aI1(h1:aLN K s H x d)(h2:aDs K s H xs ds):aDs K s H (x::xs) (d::ds):=λ ok A' es h n1 n2=>by
 cases h with
 |cons k r'=>rw[h1 ok _ _ k (nP n1).1 (nP n2).1,h2 ok _ _ r' (nP n1).2 (nP n2).2]
theorem Rp.inj(ok:oY K H s)(r:Rp K A H x d)(h:Rp K A' H x e)(n1:bx d=true)(n2:bx e=true):d=e:=
 Rp.rec (motive_1:=λ _ H x d _=>aLN K s H x d) (motive_2:=λ _ H xs ds _=>aDs K s H xs ds)
  (λ _ _ _ h _ _=>by cases h;rfl) (λ _ _ _ _ h _ _=>by cases h;rfl) (λ _ _ _ _ h _ _=>by cases h;rfl) (λ _ _ _ _ h _ _=>by cases h;rfl) (λ ha _ ih=>aKe ha ih) (λ ha _ _ ih=>aKf ha ih)
  (λ _ _ _ _ _ _ _ _ n1 _=>(ao n1).elim) (λ _ _ _ _ _ _ _ _ n1 _=>(ao n1).elim) (λ _ _ _ _ _ _ _ _ n1 _=>(cY n1).elim) (λ _ _ _ _ _ n1 _=>(cZ n1).elim) (λ _ _ _ _ _ n1 _=>(dN n1).elim)
  (λ _ _ _ h _ _=>by cases h;rfl) (λ _ _ h1 h2=>aI1 h1 h2) r ok A' e h n1 n2
end
theorem aD3:∀(l m:List D),pL l m=((List.range (min l.length m.length)).all (λ j=>match l[j]?,m[j]? with|some a,some b=>eqD a b|_,_=>true)&&l.length==m.length)
 |[],[]=>by simp[pL]
 |[],y::ys=>by simp[pL]
 |x::xs,[]=>by simp[pL]
 |x::xs,y::ys=>by
  have ih:=aD3 xs ys;simp only[pL,ih,List.length_cons,Nat.succ_min_succ,List.range_succ_eq_map,List.all_cons,List.all_map,List.getElem?_cons_zero,Function.comp_def,List.getElem?_cons_succ,Nat.succ_eq_add_one,Nat.add_one_inj,Bool.and_assoc];congr 1;congr 1;simp
theorem aBW:∀{l:List D} {d:D},d∈l->sO d<=jd l
 |x::r,d,h=>by
  simp only[jd];rcases List.mem_cons.mp h with rfl|h
  ·exact Nat.le_max_left _ _
  ·exact Nat.le_trans (aBW h) (Nat.le_max_right _ _)
theorem uF:∀{l:List D} {d:D},d∈l->cP l=true->bx d=true
 |x::r,d,h,n=>by
  simp only[cP,Bool.and_eq_true]at n;rcases List.mem_cons.mp h with rfl|h
  ·exact n.1
  ·exact uF h n.2
theorem mZ(hn:n=ds.length)(hm:m=es.length):((List.range (min n m)).all (λ j=>match ds[j]?,es[j]? with|some a,some b=>eqD a b|_,_=>true)&&n==m)=pL ds es:=by
 subst hn hm;exact(aD3 ds es).symm
section
variable{K:PySem.W.Frag}{H:Hp}{s:Shared}
def aJP(K:PySem.W.Frag)(H:Hp)(s:Shared)(n:Nat):Prop:=∀(A1 A2:Addr->Prop) (x y:V) (d e:D) (A:Around) (u v:Value),Rp K A1 H x d->Rp K A2 H y e->RelV x u->RelV y v->sO d<=n->bx d=true->bx e=true->A.units+n<cLine->SeqAt.EqAt A s u v (eqD d e)
def aJQ(K:PySem.W.Frag)(H:Hp)(s:Shared)(n:Nat):Prop:=∀(A1 A2:Addr->Prop) (xs ys:List V) (ds es:List D) (A:Around) (us vs:List Value),Rps K A1 H xs ds->Rps K A2 H ys es->Vals xs us->Vals ys vs->jd ds<=n->cP ds=true->cP es=true->A.units+n<cLine->
  ∀(j:Nat) (h1:j<us.toArray.size) (h2:j<vs.toArray.size),SeqAt.EqAt A s us.toArray[j] vs.toArray[j] (match ds[j]?,es[j]? with|some a,some b=>eqD a b|_,_=>true)
theorem aAK(ok:oY K H s)(n:Nat)(IH:∀k,n=k+1->aJQ K H s k):aJP K H s n:=by
 intro A1 A2 x y d e A u v r1 r2 ru rv hd nd ne hu;have hu0:A.units<cLine:=by lia
 cases r1 with
 |tup h1 q1=>
  rename_i a xs ds;cases ru;obtain⟨its,w1,t1⟩:=ok.tup h1;cases r2 with
  |tup h2 q2=>
   rename_i b ys es;cases rv;obtain⟨its2,w2,t2⟩:=ok.tup h2;by_cases hab:a=b
   ·subst hab
    have e:=Rp.inj ok (Rp.tup h1 q1) (Rp.tup h2 q2) nd ne;rw[<-e,aAL _ nd];exact SeqAt.EqAt.same _
   ·simp only[sO]at hd
    obtain⟨k,rfl⟩:∃k,n=k+1:=⟨n-1,by lia⟩
    have z:=SeqAt.RcAt.tuples t1 t2 hu0 (IH k rfl _ _ _ _ _ _ _ _ _ q1 q2 w1 w2 (by lia) (lQ nd) (lQ ne) (by show A.units+1+k<cLine;lia));rw[mZ (by rw[List.size_toArray,<-w1.length,q1.length]) (by rw[List.size_toArray,<-w2.length,q2.length])]at z;simp only[eqD];exact SeqAt.EqAt.of_refs hab z
  |lst h2 mm2 q2=>
   cases rv;obtain⟨its2,w2,t2⟩:=ok.lst h2;simp only[eqD];exact SeqAt.EqAt.tuple_list t1 t2 hu0
  |dK _ _ _=>exact(ao ne).elim
  |dT _ _ _=>exact(ao ne).elim
  |set _ _ _ _=>exact(cY ne).elim
  |scr _=>exact(cZ ne).elim
  |fn _=>exact(dN ne).elim
  |non=>cases rv;simp only[eqD];exact SeqAt.EqAt.tuple_none t1 hu0
  |bl b=>cases rv;simp only[eqD];exact SeqAt.EqAt.tuple_bool b t1 hu0
  |int i=>obtain⟨tk,rfl⟩:=rv;simp only[eqD];exact SeqAt.EqAt.tuple_int i tk t1 hu0
  |str i=>obtain⟨tk,rfl⟩:=rv;simp only[eqD];exact SeqAt.EqAt.tuple_str i tk t1 hu0
 |lst h1 mm1 q1=>
  rename_i a xs ds;cases ru;obtain⟨its,w1,t1⟩:=ok.lst h1;cases r2 with
  |lst h2 mm2 q2=>
   rename_i b ys es;cases rv;obtain⟨its2,w2,t2⟩:=ok.lst h2;by_cases hab:a=b
   ·subst hab
    have e:=Rp.inj ok (Rp.lst h1 mm1 q1) (Rp.lst h2 mm2 q2) nd ne;rw[<-e,aAL _ nd];exact SeqAt.EqAt.same _
   ·simp only[sO]at hd
    obtain⟨k,rfl⟩:∃k,n=k+1:=⟨n-1,by lia⟩
    have l1:its.toArray.size=ds.length:=by rw[List.size_toArray,<-w1.length,q1.length]
    have l2:its2.toArray.size=es.length:=by rw[List.size_toArray,<-w2.length,q2.length]
    by_cases hl:its.toArray.size=its2.toArray.size
    ·have z:=SeqAt.RcAt.lists t1 t2 hl hu0 (IH k rfl _ _ _ _ _ _ _ _ _ q1 q2 w1 w2 (by lia) (lR nd) (lR ne) (by show A.units+1+k<cLine;lia))
     have z':=mZ (ds:=ds) (es:=es) l1 l2;rw[<-hl,Nat.min_self,beq_self_eq_true,Bool.and_true]at z';rw[z']at z;simp only[eqD];exact SeqAt.EqAt.of_refs hab z
    ·have z:=SeqAt.RcAt.lists_lengths t1 t2 (by simpa using hl) hu0
     have z':=mZ (ds:=ds) (es:=es) l1 l2;rw[beq_eq_false_iff_ne.mpr hl,Bool.and_false]at z';simp only[eqD];rw[<-z'];exact SeqAt.EqAt.of_refs hab z
  |tup h2 q2=>
   cases rv;obtain⟨its2,w2,t2⟩:=ok.tup h2;simp only[eqD];exact SeqAt.EqAt.list_tuple t1 t2 hu0
  |dK _ _ _=>exact(ao ne).elim
  |dT _ _ _=>exact(ao ne).elim
  |set _ _ _ _=>exact(cY ne).elim
  |scr _=>exact(cZ ne).elim
  |fn _=>exact(dN ne).elim
  |non=>cases rv;simp only[eqD];exact SeqAt.EqAt.list_none t1 hu0
  |bl b=>cases rv;simp only[eqD];exact SeqAt.EqAt.list_bool b t1 hu0
  |int i=>obtain⟨tk,rfl⟩:=rv;simp only[eqD];exact SeqAt.EqAt.list_int i tk t1 hu0
  |str i=>obtain⟨tk,rfl⟩:=rv;simp only[eqD];exact SeqAt.EqAt.list_str i tk t1 hu0
 |dK _ _ _=>exact(ao nd).elim
 |dT _ _ _=>exact(ao nd).elim
 |set _ _ _ _=>exact(cY nd).elim
 |scr _=>exact(cZ nd).elim
 |fn _=>exact(dN nd).elim
 |non=>
  cases ru;cases r2 with
  |tup h2 q2=>cases rv;obtain⟨_,_,t2⟩:=ok.tup h2;simp only[eqD];exact SeqAt.EqAt.none_tuple t2 hu0
  |lst h2 mm2 q2=>cases rv;obtain⟨_,_,t2⟩:=ok.lst h2;simp only[eqD];exact SeqAt.EqAt.none_list t2 hu0
  |dK _ _ _=>exact(ao ne).elim
  |dT _ _ _=>exact(ao ne).elim
  |set _ _ _ _=>exact(cY ne).elim
  |scr _=>exact(cZ ne).elim
  |fn _=>exact(dN ne).elim
  |non=>cases rv;simp only[eqD];exact SeqAt.EqAt.same _
  |bl b=>cases rv;simp only[eqD];exact SeqAt.EqAt.none_bool b
  |int i=>obtain⟨tk,rfl⟩:=rv;simp only[eqD];exact SeqAt.EqAt.none_int i tk
  |str i=>obtain⟨tk,rfl⟩:=rv;simp only[eqD];exact SeqAt.EqAt.none_str i tk
 |bl a=>
  cases ru;cases r2 with
  |tup h2 q2=>cases rv;obtain⟨_,_,t2⟩:=ok.tup h2;simp only[eqD];exact SeqAt.EqAt.bool_tuple a t2 hu0
  |lst h2 mm2 q2=>cases rv;obtain⟨_,_,t2⟩:=ok.lst h2;simp only[eqD];exact SeqAt.EqAt.bool_list a t2 hu0
  |dK _ _ _=>exact(ao ne).elim
  |dT _ _ _=>exact(ao ne).elim
  |set _ _ _ _=>exact(cY ne).elim
  |scr _=>exact(cZ ne).elim
  |fn _=>exact(dN ne).elim
  |non=>cases rv;simp only[eqD];exact SeqAt.EqAt.bool_none a
  |bl b=>cases rv;simp only[eqD];exact SeqAt.EqAt.bool_bool a b
  |int i=>obtain⟨tk,rfl⟩:=rv;simp only[eqD];exact SeqAt.EqAt.bool_int a i tk
  |str i=>obtain⟨tk,rfl⟩:=rv;simp only[eqD];exact SeqAt.EqAt.bool_str a i tk
 |int a=>
  obtain⟨tu,rfl⟩:=ru;cases r2 with
  |tup h2 q2=>cases rv;obtain⟨_,_,t2⟩:=ok.tup h2;simp only[eqD];exact SeqAt.EqAt.int_tuple a tu t2 hu0
  |lst h2 mm2 q2=>cases rv;obtain⟨_,_,t2⟩:=ok.lst h2;simp only[eqD];exact SeqAt.EqAt.int_list a tu t2 hu0
  |dK _ _ _=>exact(ao ne).elim
  |dT _ _ _=>exact(ao ne).elim
  |set _ _ _ _=>exact(cY ne).elim
  |scr _=>exact(cZ ne).elim
  |fn _=>exact(dN ne).elim
  |non=>cases rv;simp only[eqD];exact SeqAt.EqAt.int_none a tu
  |bl b=>cases rv;simp only[eqD];exact SeqAt.EqAt.int_bool a tu b
  |int i=>obtain⟨tk,rfl⟩:=rv;simp only[eqD];exact SeqAt.EqAt.int_int a tu i tk
  |str i=>obtain⟨tk,rfl⟩:=rv;simp only[eqD];exact SeqAt.EqAt.int_str a tu i tk
 |str a=>
  obtain⟨tu,rfl⟩:=ru;cases r2 with
  |tup h2 q2=>cases rv;obtain⟨_,_,t2⟩:=ok.tup h2;simp only[eqD];exact SeqAt.EqAt.str_tuple a tu t2 hu0
  |lst h2 mm2 q2=>cases rv;obtain⟨_,_,t2⟩:=ok.lst h2;simp only[eqD];exact SeqAt.EqAt.str_list a tu t2 hu0
  |dK _ _ _=>exact(ao ne).elim
  |dT _ _ _=>exact(ao ne).elim
  |set _ _ _ _=>exact(cY ne).elim
  |scr _=>exact(cZ ne).elim
  |fn _=>exact(dN ne).elim
  |non=>cases rv;simp only[eqD];exact SeqAt.EqAt.str_none a tu
  |bl b=>cases rv;simp only[eqD];exact SeqAt.EqAt.str_bool a tu b
  |int i=>obtain⟨tk,rfl⟩:=rv;simp only[eqD];exact SeqAt.EqAt.str_int a tu i tk
  |str i=>obtain⟨tk,rfl⟩:=rv;simp only[eqD];exact SeqAt.EqAt.str_str a tu i tk
theorem aBO(ok:oY K H s)(n:Nat)(IH:aJP K H s n):aJQ K H s n:=by
 intro A1 A2 xs ys ds es A us vs q1 q2 w1 w2 hd nd ne hu j h1 h2;have hj1:j<us.length:=by simpa using h1
 have hj2:j<vs.length:=by simpa using h2
 have hx:j<xs.length:=by rw[w1.length];exact hj1
 have hy:j<ys.length:=by rw[w2.length];exact hj2
 have ex:=List.getElem?_eq_getElem hx;have ey:=List.getElem?_eq_getElem hy;obtain⟨d,ed,rd⟩:=q1.get ex;obtain⟨e,ee,re⟩:=q2.get ey;obtain⟨u,eu,ru⟩:=w1.get ex;obtain⟨v,ev,rv⟩:=w2.get ey;have e1:us.toArray[j]=u:=by
  rw[List.getElem_toArray];exact Option.some.inj ((List.getElem?_eq_getElem hj1).symm.trans eu)
 have e2:vs.toArray[j]=v:=by
  rw[List.getElem_toArray];exact Option.some.inj ((List.getElem?_eq_getElem hj2).symm.trans ev)
 rw[e1,e2,ed,ee];exact IH _ _ _ _ _ _ _ _ _ rd re ru rv (Nat.le_trans (aBW (List.mem_of_getElem? ed)) hd) (uF (List.mem_of_getElem? ed) nd) (uF (List.mem_of_getElem? ee) ne) hu
theorem aIt(ok:oY K H s):∀n,aJP K H s n
 |0=>aAK ok 0 λ k h=>absurd h (by simp)
 |n+1=>aAK ok (n+1) λ k h=>by
  have h':=Nat.succ.inj h;subst h';exact aBO ok n (aIt ok n)
theorem aN3(ok:oY K H s):∀{A1 A2:Addr->Prop} {x y:V} {d e:D} (n:Nat) {A:Around} {u v:Value},Rp K A1 H x d->Rp K A2 H y e->RelV x u->RelV y v->sO d<=n->bx d=true->bx e=true->A.units+n<cLine->SeqAt.EqAt A s u v (eqD d e)
 |_,_,_,_,_,_,n,A,u,v,r1,r2,ru,rv,hd,nd,ne,hu=>aIt ok n _ _ _ _ _ _ _ _ _ r1 r2 ru rv hd nd ne hu
theorem aLe(ok:oY K H s):∀{A1 A2:Addr->Prop} {xs ys:List V} {ds es:List D} (n:Nat) {A:Around} {us vs:List Value},Rps K A1 H xs ds->Rps K A2 H ys es->Vals xs us->Vals ys vs->jd ds<=n->cP ds=true->cP es=true->A.units+n<cLine->
  ∀(j:Nat) (h1:j<us.toArray.size) (h2:j<vs.toArray.size),SeqAt.EqAt A s us.toArray[j] vs.toArray[j] (match ds[j]?,es[j]? with|some a,some b=>eqD a b|_,_=>true)
 |_,_,xs,ys,ds,es,n,A,us,vs,q1,q2,w1,w2,hd,nd,ne,hu,j,h1,h2=>aBO ok n (aIt ok n) _ _ _ _ _ _ _ _ _ q1 q2 w1 w2 hd nd ne hu j h1 h2
theorem aHb(ok:oY K H s)(n:Nat)(r1:Rp K A1 H x d)(r2:Rp K A2 H y e)(ru:RelV x u)(rv:RelV y v)(hd:sO d<=n)(nd:bx d=true)(ne:bx e=true)(hu:A.units+n<cLine):
  SeqAt.RcAt A s u v (eqD d e)/\SeqAt.RcNeAt A s u v (!eqD d e):=by
 have hu0:A.units<cLine:=by lia
 cases r1 with
 |tup h1 q1=>
  rename_i a xs ds;cases ru;obtain⟨its,w1,t1⟩:=ok.tup h1;cases r2 with
  |tup h2 q2=>
   rename_i b ys es;cases rv;obtain⟨its2,w2,t2⟩:=ok.tup h2;simp only[sO]at hd;obtain⟨k,rfl⟩:∃k,n=k+1:=⟨n-1,by lia⟩
   have he:=aLe ok (A:=A.in1) k q1 q2 w1 w2 (by lia) (lQ nd) (lQ ne) (by show A.units+1+k<cLine;lia);have z:=SeqAt.RcAt.tuples t1 t2 hu0 he;have z2:=SeqAt.RcNeAt.tuples t1 t2 hu0 he;rw[mZ (by rw[List.size_toArray,<-w1.length,q1.length]) (by rw[List.size_toArray,<-w2.length,q2.length])]at z z2;simp only[eqD];exact⟨z,z2⟩
  |lst h2 mm2 q2=>
   cases rv;obtain⟨its2,w2,t2⟩:=ok.lst h2;simp only[eqD];exact⟨SeqAt.RcAt.tuple_list t1 t2 hu0,SeqAt.RcNeAt.tuple_list t1 t2 hu0⟩
  |dK _ _ _=>exact(ao ne).elim
  |dT _ _ _=>exact(ao ne).elim
  |set _ _ _ _=>exact(cY ne).elim
  |scr _=>exact(cZ ne).elim
  |fn _=>exact(dN ne).elim
  |non=>cases rv;simp only[eqD];exact⟨SeqAt.RcAt.tuple_none t1 hu0,SeqAt.RcNeAt.tuple_none t1 hu0⟩
  |bl b=>cases rv;simp only[eqD];exact⟨SeqAt.RcAt.tuple_bool b t1 hu0,SeqAt.RcNeAt.tuple_bool b t1 hu0⟩
  |int i=>obtain⟨tk,rfl⟩:=rv;simp only[eqD];exact⟨SeqAt.RcAt.tuple_int i tk t1 hu0,SeqAt.RcNeAt.tuple_int i tk t1 hu0⟩
  |str i=>obtain⟨tk,rfl⟩:=rv;simp only[eqD];exact⟨SeqAt.RcAt.tuple_str i tk t1 hu0,SeqAt.RcNeAt.tuple_str i tk t1 hu0⟩
 |lst h1 mm1 q1=>
  rename_i a xs ds;cases ru;obtain⟨its,w1,t1⟩:=ok.lst h1;cases r2 with
  |lst h2 mm2 q2=>
   rename_i b ys es;cases rv;obtain⟨its2,w2,t2⟩:=ok.lst h2;simp only[sO]at hd;obtain⟨k,rfl⟩:∃k,n=k+1:=⟨n-1,by lia⟩
   have l1:its.toArray.size=ds.length:=by rw[List.size_toArray,<-w1.length,q1.length]
   have l2:its2.toArray.size=es.length:=by rw[List.size_toArray,<-w2.length,q2.length]
   have z':=mZ (ds:=ds) (es:=es) l1 l2;by_cases hl:its.toArray.size=its2.toArray.size
   ·have he:=aLe ok (A:=A.in1) k q1 q2 w1 w2 (by lia) (lR nd) (lR ne) (by show A.units+1+k<cLine;lia)
    have z:=SeqAt.RcAt.lists t1 t2 hl hu0 he;have z2:=SeqAt.RcNeAt.lists t1 t2 hl hu0 he;rw[<-hl,Nat.min_self,beq_self_eq_true,Bool.and_true]at z';rw[z']at z z2;simp only[eqD];exact⟨z,z2⟩
   ·rw[beq_eq_false_iff_ne.mpr hl,Bool.and_false]at z'
    simp only[eqD];rw[<-z'];exact⟨SeqAt.RcAt.lists_lengths t1 t2 (by simpa using hl) hu0,SeqAt.RcNeAt.lists_lengths t1 t2 (by simpa using hl) hu0⟩
  |tup h2 q2=>
   cases rv;obtain⟨its2,w2,t2⟩:=ok.tup h2;simp only[eqD];exact⟨SeqAt.RcAt.list_tuple t1 t2 hu0,SeqAt.RcNeAt.list_tuple t1 t2 hu0⟩
  |dK _ _ _=>exact(ao ne).elim
  |dT _ _ _=>exact(ao ne).elim
  |set _ _ _ _=>exact(cY ne).elim
  |scr _=>exact(cZ ne).elim
  |fn _=>exact(dN ne).elim
  |non=>cases rv;simp only[eqD];exact⟨SeqAt.RcAt.list_none t1 hu0,SeqAt.RcNeAt.list_none t1 hu0⟩
  |bl b=>cases rv;simp only[eqD];exact⟨SeqAt.RcAt.list_bool b t1 hu0,SeqAt.RcNeAt.list_bool b t1 hu0⟩
  |int i=>obtain⟨tk,rfl⟩:=rv;simp only[eqD];exact⟨SeqAt.RcAt.list_int i tk t1 hu0,SeqAt.RcNeAt.list_int i tk t1 hu0⟩
  |str i=>obtain⟨tk,rfl⟩:=rv;simp only[eqD];exact⟨SeqAt.RcAt.list_str i tk t1 hu0,SeqAt.RcNeAt.list_str i tk t1 hu0⟩
 |dK _ _ _=>exact(ao nd).elim
 |dT _ _ _=>exact(ao nd).elim
 |set _ _ _ _=>exact(cY nd).elim
 |scr _=>exact(cZ nd).elim
 |fn _=>exact(dN nd).elim
 |non=>
  cases ru;cases r2 with
  |tup h2 q2=>cases rv;obtain⟨_,_,t2⟩:=ok.tup h2;simp only[eqD];exact⟨SeqAt.RcAt.none_tuple t2 hu0,SeqAt.RcNeAt.none_tuple t2 hu0⟩
  |lst h2 mm2 q2=>cases rv;obtain⟨_,_,t2⟩:=ok.lst h2;simp only[eqD];exact⟨SeqAt.RcAt.none_list t2 hu0,SeqAt.RcNeAt.none_list t2 hu0⟩
  |dK _ _ _=>exact(ao ne).elim
  |dT _ _ _=>exact(ao ne).elim
  |set _ _ _ _=>exact(cY ne).elim
  |scr _=>exact(cZ ne).elim
  |fn _=>exact(dN ne).elim
  |non=>cases rv;simp only[eqD];exact⟨SeqAt.RcAt.none_none,SeqAt.RcNeAt.none_none⟩
  |bl b=>cases rv;simp only[eqD];exact⟨SeqAt.RcAt.none_bool b,SeqAt.RcNeAt.none_bool b⟩
  |int i=>obtain⟨tk,rfl⟩:=rv;simp only[eqD];exact⟨SeqAt.RcAt.none_int i tk,SeqAt.RcNeAt.none_int i tk⟩
  |str i=>obtain⟨tk,rfl⟩:=rv;simp only[eqD];exact⟨SeqAt.RcAt.none_str i tk,SeqAt.RcNeAt.none_str i tk⟩
 |bl a=>
  cases ru;cases r2 with
  |tup h2 q2=>cases rv;obtain⟨_,_,t2⟩:=ok.tup h2;simp only[eqD];exact⟨SeqAt.RcAt.bool_tuple a t2 hu0,SeqAt.RcNeAt.bool_tuple a t2 hu0⟩
  |lst h2 mm2 q2=>cases rv;obtain⟨_,_,t2⟩:=ok.lst h2;simp only[eqD];exact⟨SeqAt.RcAt.bool_list a t2 hu0,SeqAt.RcNeAt.bool_list a t2 hu0⟩
  |dK _ _ _=>exact(ao ne).elim
  |dT _ _ _=>exact(ao ne).elim
  |set _ _ _ _=>exact(cY ne).elim
  |scr _=>exact(cZ ne).elim
  |fn _=>exact(dN ne).elim
  |non=>cases rv;simp only[eqD];exact⟨SeqAt.RcAt.bool_none a,SeqAt.RcNeAt.bool_none a⟩
  |bl b=>cases rv;simp only[eqD];exact⟨SeqAt.RcAt.bool_bool a b,SeqAt.RcNeAt.bool_bool a b⟩
  |int i=>obtain⟨tk,rfl⟩:=rv;simp only[eqD];exact⟨SeqAt.RcAt.bool_int a i tk,SeqAt.RcNeAt.bool_int a i tk⟩
  |str i=>obtain⟨tk,rfl⟩:=rv;simp only[eqD];exact⟨SeqAt.RcAt.bool_str a i tk,SeqAt.RcNeAt.bool_str a i tk⟩
 |int a=>
  obtain⟨tu,rfl⟩:=ru;cases r2 with
  |tup h2 q2=>cases rv;obtain⟨_,_,t2⟩:=ok.tup h2;simp only[eqD];exact⟨SeqAt.RcAt.int_tuple a tu t2 hu0,SeqAt.RcNeAt.int_tuple a tu t2 hu0⟩
  |lst h2 mm2 q2=>cases rv;obtain⟨_,_,t2⟩:=ok.lst h2;simp only[eqD];exact⟨SeqAt.RcAt.int_list a tu t2 hu0,SeqAt.RcNeAt.int_list a tu t2 hu0⟩
  |dK _ _ _=>exact(ao ne).elim
  |dT _ _ _=>exact(ao ne).elim
  |set _ _ _ _=>exact(cY ne).elim
  |scr _=>exact(cZ ne).elim
  |fn _=>exact(dN ne).elim
  |non=>cases rv;simp only[eqD];exact⟨SeqAt.RcAt.int_none a tu,SeqAt.RcNeAt.int_none a tu⟩
  |bl b=>cases rv;simp only[eqD];exact⟨SeqAt.RcAt.int_bool a tu b,SeqAt.RcNeAt.int_bool a tu b⟩
  |int i=>obtain⟨tk,rfl⟩:=rv;simp only[eqD];exact⟨SeqAt.RcAt.int_int a tu i tk,SeqAt.RcNeAt.int_int a tu i tk⟩
  |str i=>obtain⟨tk,rfl⟩:=rv;simp only[eqD];exact⟨SeqAt.RcAt.int_str a tu i tk,SeqAt.RcNeAt.int_str a tu i tk⟩
 |str a=>
  obtain⟨tu,rfl⟩:=ru;cases r2 with
  |tup h2 q2=>cases rv;obtain⟨_,_,t2⟩:=ok.tup h2;simp only[eqD];exact⟨SeqAt.RcAt.str_tuple a tu t2 hu0,SeqAt.RcNeAt.str_tuple a tu t2 hu0⟩
  |lst h2 mm2 q2=>cases rv;obtain⟨_,_,t2⟩:=ok.lst h2;simp only[eqD];exact⟨SeqAt.RcAt.str_list a tu t2 hu0,SeqAt.RcNeAt.str_list a tu t2 hu0⟩
  |dK _ _ _=>exact(ao ne).elim
  |dT _ _ _=>exact(ao ne).elim
  |set _ _ _ _=>exact(cY ne).elim
  |scr _=>exact(cZ ne).elim
  |fn _=>exact(dN ne).elim
  |non=>cases rv;simp only[eqD];exact⟨SeqAt.RcAt.str_none a tu,SeqAt.RcNeAt.str_none a tu⟩
  |bl b=>cases rv;simp only[eqD];exact⟨SeqAt.RcAt.str_bool a tu b,SeqAt.RcNeAt.str_bool a tu b⟩
  |int i=>obtain⟨tk,rfl⟩:=rv;simp only[eqD];exact⟨SeqAt.RcAt.str_int a tu i tk,SeqAt.RcNeAt.str_int a tu i tk⟩
  |str i=>obtain⟨tk,rfl⟩:=rv;simp only[eqD];exact⟨SeqAt.RcAt.str_str a tu i tk,SeqAt.RcNeAt.str_str a tu i tk⟩
end
section
variable{K:PySem.W.Frag}{H:Hp}{s:Shared}
open Classical in
def sJ(K:PySem.W.Frag)(H:Hp)(d:D)(u:Value):Bool:=if h:∃e,bx e=true/\∃y,RelV y u/\Rp K (λ _=>True) H y e then eqD (choose h) d else false
theorem aFn(ok:oY K H s)(r:RelV y u)(h:Rp K A H y e)(ne:bx e=true):sJ K H d u=eqD e d:=by
 have hx:∃e,bx e=true/\∃y,RelV y u/\Rp K (λ _=>True) H y e:=⟨e,ne,y,r,h.wk λ _ _ _ _=>trivial⟩
 unfold sJ;rw[dif_pos hx];obtain⟨n',y',r',h'⟩:=Classical.choose_spec hx;have e1:=RelV.inj r r';subst e1;rw[Rp.inj ok h' h n' ne]
def inD(d:D)(es:List D):Bool:=es.any λ e=>eqD e d
theorem vV(ok:oY K H s):∀{A:Addr->Prop} {xs:List V} {es:List D} {us:List Value},Rps K A H xs es->Vals xs us->cP es=true->us.any (sJ K H d)=inD d es:=by
 intro A xs es us h v n;induction v generalizing es with
 |nil=>cases h;rfl
 |cons k t ih=>
  cases h with
  |cons h r=>
   simp only[cP,Bool.and_eq_true]at n;unfold inD;rw[List.any_cons,List.any_cons,aFn ok k h n.1,ih r n.2];rfl
theorem yd(ok:oY K H s)(rx:Rp K A0 H x d)(rv:RelV x v)(hu:A.units+n<cLine)(nd:bx d=true):∀{A1:Addr->Prop} {xs:List V} {es:List D} {us:List Value},Rps K A1 H xs es->Vals xs us->jd es<=n->cP es=true->∀u∈us,SeqAt.EqAt A s u v (sJ K H d u):=by
 intro A1 xs es us h v' hd ne u hm;induction v' generalizing es with
 |nil=>cases hm
 |cons k t ih=>
  cases h with
  |cons h r=>
   simp only[jd]at hd;simp only[cP,Bool.and_eq_true]at ne;rcases List.mem_cons.mp hm with z|z
   ·subst z
    rw[aFn ok k h ne.1];exact aN3 ok n h rx k rv (Nat.le_trans (Nat.le_max_left _ _) hd) ne.1 nd hu
   ·exact ih r (Nat.le_trans (Nat.le_max_right _ _) hd) ne.2 z
end
section
variable{X:Cx}
def aHf(K:PySem.W.Frag)(neg:Bool):R2:=λ x y H Q=>∃A B d e,Rp K A H x d/\Rp K B H y e/\sO d<=60/\bx d=true/\bx e=true/\Q (.bl (if neg then !eqD d e else eqD d e)) H
theorem aMp(hu:X.A.units+64<cLine):OpR X (compareOp .Eq) (aHf X.K false):=by
 intro pins s σ H x y v u Q I rx ry h;obtain⟨A,B,d,e,r1,r2,hd,nd,ne,q⟩:=h;exact(aHb (Inv.seqOk I) 60 r1 r2 rx ry hd nd ne (by lia)).1 X.prog X.w X.xe _ ⟨.bl (eqD d e),H,I,rfl,q⟩
theorem aMf(hu:X.A.units+64<cLine):OpR X (compareOp .NotEq) (aHf X.K true):=by
 intro pins s σ H x y v u Q I rx ry h;obtain⟨A,B,d,e,r1,r2,hd,nd,ne,q⟩:=h;exact(aHb (Inv.seqOk I) 60 r1 r2 rx ry hd nd ne (by lia)).2 X.prog X.w X.xe _ ⟨.bl (!eqD d e),H,I,rfl,q⟩
def aHe(K:PySem.W.Frag)(neg:Bool):R2:=λ x y H Q=>∃A B d a es,Rp K A H x d/\y= .ref a/\(Rp K B H (.ref a) (.lst es)\/Rp K B H (.ref a) (.tup es))/\jd es<=60/\bx d=true/\cP es=true/\Q (.bl (if neg then !inD d es else inD d es)) H
theorem aMo(hu:X.A.units+64<cLine):OpR X (compareOp .In) (aHe X.K false):=by
 intro pins s σ H x y v u Q I rx ry h;obtain⟨A,B,d,a,es,rd,rfl,ra,hd,nd,ne,q⟩:=h;cases ry;have ok:=Inv.seqOk I;have hu1:X.A.in1.units+60<cLine:=by show X.A.units+1+60<cLine;lia
 rcases ra with ra|ra
 ·cases ra with
  |lst ha _ r=>
   obtain⟨its,rv,tl⟩:=ok.lst ha;refine SeqAt.in_listAt (sJ X.K H d) tl (λ w hw=>yd ok rd rx hu1 nd r rv hd ne w (by simpa using hw)) ⟨.bl _,H,I,rfl,?_⟩;rw[show its.toArray.any (sJ X.K H d)=its.any (sJ X.K H d)by simp,vV ok r rv ne];exact q
 ·cases ra with
  |tup ha r=>
   obtain⟨its,rv,tl⟩:=ok.tup ha;refine SeqAt.in_tupleAt (sJ X.K H d) tl (λ w hw=>yd ok rd rx hu1 nd r rv hd ne w (by simpa using hw)) ⟨.bl _,H,I,rfl,?_⟩;rw[show its.toArray.any (sJ X.K H d)=its.any (sJ X.K H d)by simp,vV ok r rv ne];exact q
theorem aGN(hu:X.A.units+64<cLine):OpR X (compareOp .NotIn) (aHe X.K true):=by
 intro pins s σ H x y v u Q I rx ry h;obtain⟨A,B,d,a,es,rd,rfl,ra,hd,nd,ne,q⟩:=h;cases ry;have ok:=Inv.seqOk I;have hu1:X.A.in1.units+60<cLine:=by show X.A.units+1+60<cLine;lia
 rcases ra with ra|ra
 ·cases ra with
  |lst ha _ r=>
   obtain⟨its,rv,tl⟩:=ok.lst ha;refine SeqAt.notIn_listAt (sJ X.K H d) tl (λ w hw=>yd ok rd rx hu1 nd r rv hd ne w (by simpa using hw)) ⟨.bl _,H,I,rfl,?_⟩;rw[show its.toArray.any (sJ X.K H d)=its.any (sJ X.K H d)by simp,vV ok r rv ne];exact q
 ·cases ra with
  |tup ha r=>
   obtain⟨its,rv,tl⟩:=ok.tup ha;refine SeqAt.notIn_tupleAt (sJ X.K H d) tl (λ w hw=>yd ok rd rx hu1 nd r rv hd ne w (by simpa using hw)) ⟨.bl _,H,I,rfl,?_⟩;rw[show its.toArray.any (sJ X.K H d)=its.any (sJ X.K H d)by simp,vV ok r rv ne];exact q
end
section
variable{K:PySem.W.Frag}
def eqR(neg:Bool):D->D->Rs D:=λ d e=>if decide (sO d<=60)&&bx d&&bx e then .ok (.bl (if neg then !eqD d e else eqD d e))else .st
def inR(neg:Bool):D->D->Rs D:=λ d e=>match e with
 | .lst es=>if decide (jd es<=60)&&bx d&&cP es then .ok (.bl (if neg then !inD d es else inD d es))else .st
 | .tup es=>if decide (jd es<=60)&&bx d&&cP es then .ok (.bl (if neg then !inD d es else inD d es))else .st
 |_=>.st
theorem os_eq:OpS K (aHf K n) (eqR n):=by
 intro A x y d e H Q z rx ry ez q;unfold eqR at ez;split at ez
 ·rename_i h
  simp only[Bool.and_eq_true,decide_eq_true_eq]at h;cases ez;exact⟨A,A,d,e,rx,ry,h.1.1,h.1.2,h.2,q _ H (aq.refl H) (.bl _)⟩
 ·cases ez
theorem aHv:OpS K (aHe K n) (inR n):=by
 intro A x y d e H Q z rx ry ez q;unfold inR at ez;split at ez
 ·split at ez
  ·rename_i h
   simp only[Bool.and_eq_true,decide_eq_true_eq]at h;cases ez;cases ry with
   |lst ha mm r=>exact⟨A,A,d,_,_,rx,rfl,.inl (.lst ha mm r),h.1.1,h.1.2,h.2,q _ H (aq.refl H) (.bl _)⟩
  ·cases ez
 ·split at ez
  ·rename_i h
   simp only[Bool.and_eq_true,decide_eq_true_eq]at h;cases ez;cases ry with
   |tup ha r=>exact⟨A,A,d,_,_,rx,rfl,.inr (.tup ha r),h.1.1,h.1.2,h.2,q _ H (aq.refl H) (.bl _)⟩
  ·cases ez
 ·cases ez
theorem aI8:∀x y z,eqR n x y= .ok z->imm z=true:=by
 intro x y z e;unfold eqR at e;split at e
 ·cases e;rfl
 ·cases e
theorem aNV:∀x y z,inR n x y= .ok z->imm z=true:=by
 intro x y z e;unfold inR at e;split at e
 ·split at e
  ·cases e;rfl
  ·cases e
 ·split at e
  ·cases e;rfl
  ·cases e
 ·cases e
end
section
variable{K:PySem.W.Frag}
def boolsOf:List D->Option (List Bool)
 |[]=>some []
 | .bl i::r=>(boolsOf r).map (i::·)
 |_=>none
theorem vP:∀{l:List D} {ns:List Bool},boolsOf l=some ns->l=ns.map .bl
 |[],ns,h=>by cases h;rfl
 | .bl i::r,ns,h=>by
  simp only[boolsOf,Option.map_eq_some_iff]at h;obtain⟨ms,h1,rfl⟩:=h;rw[vP h1];rfl
 | .non::_,_,h=>by cases h
 | .int _::_,_,h=>by cases h
 | .str _::_,_,h=>by cases h
 | .tup _::_,_,h=>by cases h
 | .lst _::_,_,h=>by cases h
 | .dct _ _::_,_,h=>by cases h
 | .set _::_,_,h=>by cases h
 | .scr _::_,_,h=>by cases h
theorem xW:∀ns:List Bool,boolsOf (ns.map .bl)=some ns
 |[]=>rfl
 |n::ns=>by simp only[List.map_cons,boolsOf,xW ns,Option.map_some]
theorem aBX{X:Cx}:∀{bs:List Bool} {us:List Value},Vals (bs.map V.bl) us->LSm.BoolsAre us bs
 |[],_,.nil=>.nil
 |b::bs,_,.cons r t=>by
  have e:_=Value.bool b:=r;subst e;exact .cons b (aBX (X:=X) t)
theorem Rps.bools_of:∀{xs:List V} {bs:List Bool},Rps K A H xs (bs.map D.bl)->xs=bs.map V.bl
 |_,[],.nil=>rfl
 |_,n::ns,.cons h r=>by
  cases h;rw[List.map_cons,Rps.bools_of r]
def jt(f:List Bool->Bool):List D->Rs D
 |[.lst l]=>match boolsOf l with
  |some bs=>.ok (.bl (f bs))
  |none=>.st
 |_=>.st
theorem aJG{X:Cx}(hc:X.calm=true):dR X (.builtin "all") (λ xs H Q=>∃(p:Addr) (bs:List Bool),xs=[.ref p]/\H p=some (.lst (bs.map V.bl))/\Q (.bl (bs.all id)) H):=by
 intro pins s σ H xs us Q I r h;obtain⟨p,bs,rfl,hp,q⟩:=h;obtain⟨u,rfl,ru⟩:=vals1 r;cases ru;obtain⟨its,rv,pl,hz⟩:=I.list (SqL.of hp);have hb:=aBX (X:=X) rv;have hl:=pl.isList;have hlt:p<s.heap.objs.size:=by obtain⟨_,e,_⟩:=hl;exact Heap.lt_size e
 refine call_all_walk (wpAny_pyIter_list hl ?_);refine⟨s.heap.objs.size,[s.heap.objs.size,p],[s.heap.objs.size],its.toArray.size,_,_,λ i=>(bs[i]?).getD true,rfl,Walks.list (A:=X.A.in1) (I.ok.hd hc) _ p (Nat.ne_of_lt hlt) its.toArray,
  ⟨⟨_,Heap.get?_push_size _ rfl,rfl,rfl⟩,hl.push _⟩,λ i v s' Q' E' hP hQ=>?_,λ h' tk hk=>?_⟩
 ·obtain⟨b,e,rfl⟩:=hb.get i v (by simpa using hP)
  simp only[e,Option.getD_some]at hQ;exact wpAny_truthy_bool hQ
 ·have e:((List.range its.toArray.size).all λ i=>(bs[i]?).getD true)=bs.all id:=by
   rw[List.size_toArray,hb.length];exact LSm.range_all bs
  rw[e];exact⟨.bl _,H,I.kept (LSm.kept_iter hk),rfl,q⟩
theorem aN8:p7 K (λ xs H Q=>∃(p:Addr) (bs:List Bool),xs=[.ref p]/\H p=some (.lst (bs.map V.bl))/\Q (.bl (f bs)) H) (jt f):=by
 intro A xs ds H Q z r ez q;unfold jt at ez;split at ez
 ·split at ez
  ·rename_i l bs e
   cases ez
   have:=vP e
   subst this;cases r with
   |cons h r=>
    cases r;cases h with
    |lst h m r=>
     have:=r.bools_of
     subst this;exact⟨_,bs,rfl,h,q _ H (aq.refl H) (.bl _)⟩
  ·cases ez
 ·cases ez
theorem aKl:∀x z,jt f x= .ok z->imm z=true:=by
 intro x z e;unfold jt at e;split at e
 ·split at e
  ·cases e;rfl
  ·cases e
 ·cases e
def mmD(f:Int->Int->Int):List D->Rs D
 |[.int i,.int j]=>.ok (.int (f i j))
 |_=>.st
theorem aLf:p7 K (λ xs H Q=>∃i j,xs=[.int i,.int j]/\Q (.int (f i j)) H) (mmD f):=by
 intro A xs ds H Q z r ez q;unfold mmD at ez;split at ez
 ·cases ez
  cases r with
  |cons h r=>
   cases h;cases r with
   |cons h r=>
    cases h;cases r;exact⟨_,_,rfl,q _ H (aq.refl H) (.int _)⟩
 ·cases ez
theorem aI4:∀x z,mmD f x= .ok z->imm z=true:=by
 intro x z e;unfold mmD at e;split at e
 ·cases e;rfl
 ·cases e
def dq:List D->Rs D
 |[.lst l]=>.ok (.tup l)
 |[.tup l]=>.ok (.tup l)
 |_=>.st
def sX:List D->Rs D
 |[.lst l]=>.ok (.lst l)
 |[.tup l]=>.ok (.lst l)
 |_=>.st
theorem aJB:p7 K (λ xs H Q=>∃p ys,xs=[.ref p]/\((SqL K H p ys/\∀l,H l=none->Q (.ref l) (upd H l (.tup ys)))\/(SqT K H p ys/\Q (.ref p) H))) dq:=by
 intro A xs ds H Q z r ez q;unfold dq at ez;split at ez
 ·cases ez
  cases r with
  |cons h r=>
   cases r;cases h with
   |lst h m r=>exact⟨_,_,rfl,.inl ⟨SqL.of h,λ l hl=>q _ _ (bL hl _) (.tup (SqT.of bI) ((r.wk λ _ _ _ z=>.inr z.1).up (bL hl _)))⟩⟩
 ·cases ez
  cases r with
  |cons h r=>
   cases r;cases h with
   |tup h r=>exact⟨_,_,rfl,.inr ⟨h,q _ H (aq.refl H) (.tup h (r.wk λ _ _ _ z=>.inr z))⟩⟩
 ·cases ez
theorem aKz:p7 K (λ xs H Q=>∃p ys,xs=[.ref p]/\(SqL K H p ys\/SqT K H p ys)/\∀l,H l=none->Q (.ref l) (upd H l (.lst ys))) sX:=by
 intro A xs ds H Q z r ez q;unfold sX at ez;split at ez
 ·cases ez
  cases r with
  |cons h r=>
   cases r;cases h with
   |lst h m r=>exact⟨_,_,rfl,.inl (SqL.of h),λ l hl=>q _ _ (bL hl _) (.lst bI (.inl hl) ((r.wk λ p o e z=>⟨.inr z.1,λ e'=>by subst e';rw[hl]at e;cases e⟩).up (bL hl _)))⟩
 ·cases ez
  cases r with
  |cons h r=>
   cases r;cases h with
   |tup h r=>exact⟨_,_,rfl,.inr h,λ l hl=>q _ _ (bL hl _) (.lst bI (.inl hl) ((r.wk λ p o e z=>⟨.inr z,λ e'=>by subst e';rw[hl]at e;cases e⟩).up (bL hl _)))⟩
 ·cases ez
end
def cutD(l:List D)(lo hi:Option Int):List D:=(l.drop (HT.sIx l.length 0 lo)).take (HT.sIx l.length l.length hi-HT.sIx l.length 0 lo)
theorem Rps.cut{K:PySem.W.Frag}(r:Rps K A H xs ds)(lo hi:Option Int):Rps K A H (aAS xs lo hi) (cutD ds lo hi):=by
 unfold aAS cutD;rw[r.length];exact(r.drop _).take _
def slD(d:D)(lo hi:Option Int):Rs D:=match d with
 | .tup l=>.ok (.tup (cutD l lo hi))
 | .lst l=>.ok (.lst (cutD l lo hi))
 |_=>.st
def aOK(K:PySem.W.Frag):V->Option Int->Option Int->Hp->VK->Prop:=λ x lo hi H Q=>(∃a xs,x= .ref a/\SqT K H a xs/\∀c H',aq H H'->SqT K H' c (aAS xs lo hi)->Q (.ref c) H')\/aOL K x lo hi H Q
theorem aJ7:SlR X (λ x lo hi H Q=>∃a xs,x= .ref a/\SqT X.K H a xs/\∀c H',aq H H'->SqT X.K H' c (aAS xs lo hi)->Q (.ref c) H'):=by
 intro pins s σ H x v vl vu lo hi sl Q I rx hs pl pu h;obtain⟨a,xs,rfl,hx,q⟩:=h;cases rx;obtain⟨its,r,ht,hz⟩:=I.tuple hx;have hlen:its.toArray.size=xs.length:=by rw[List.size_toArray];exact r.length.symm
 refine⟨"tuple",_,PyProof.Rows.slot_tuple_getitem.lookup,ht.typeIs,?_⟩;by_cases hw:HT.sIx xs.length 0 lo=0/\HT.sIx xs.length xs.length hi=xs.length
 ·refine HT.vB ht hs pl pu (by rw[hlen];exact hw.1) (by rw[hlen];exact hw.2) ⟨.ref a,H,I,rfl,q a H (aq.refl H) ?_⟩
  have:aAS xs lo hi=xs:=by
   unfold aAS;rw[hw.1,hw.2,List.drop_zero,Nat.sub_zero,List.take_length]
  rw[this];exact hx
 ·refine HT.vA ht hs pl pu (by rw[hlen];exact hw) ?_ (by rw[hlen];exact hz)
  rw[hlen];refine⟨.ref s.heap.objs.size,_,I.laid (t':=s.toks) (o:=.tup (aAS xs lo hi)) (λ b ob q=>Heap.get?_push_of_some _ q) (Nat.le_refl _) ?_,rfl,q _ _ (bL (I.hok.fresh (Nat.le_refl _)) _) (SqT.of bI)⟩;exact⟨Nat.le_trans (xU xs lo hi) hz,_,(r.drop (HT.sIx xs.length 0 lo)).take (HT.sIx xs.length xs.length hi-HT.sIx xs.length 0 lo),IsTup.new _ _⟩
theorem aPA:SlR X (aOK X.K):=aJ7.or aJ8
section
variable{C:Ct}{pos p2:Pos}{m m1 m2:Mode}{a e:Expr}{fa fe:En->Rs D}{lo hi:Option Expr}
def aPL(K:PySem.W.Frag)(G:Gx)(t:TO)(f:En->Rs (Option Int)):Prop:=∀τ σ H ρ lab (Q:Option Int->Hp->Prop),RR K G τ ρ σ H lab->WR G (f ρ) (λ o=>∀H',aq H H'->Q o H')->t σ H Q
def SO(C:Ct)(e:Option Expr)(f:En->Rs (Option Int)):Prop:=∃t,(∀i,PO (C.X i) e t)/\aPL C.K C.G t f
def bO:En->Rs (Option Int):=λ _=>.ok none
def bK(fe:En->Rs D):En->Rs (Option Int):=λ ρ=>(fe ρ).bd λ d=>match d with
 | .int i=>.ok (some i)
 |_=>.st
theorem cM:SO C none bO:=⟨_,λ _=>aJu,λ τ σ H ρ lab Q R W=>W H (aq.refl H)⟩
theorem bj(h:SE C m e fe):SO C (some e) (bK fe):=by
 obtain⟨t,h1,h2⟩:=h;refine⟨_,λ i=>aJt (h1 i),λ τ σ H ρ lab Q R W=>h2 τ σ H ρ lab _ R (W.bd.imp λ d _ w x H1 s r=>?_)⟩;cases r with
 |int i=>exact⟨i,rfl,w H1 s⟩
 |_=>exact False.elim w
def bA(fa:En->Rs D)(fl fh:En->Rs (Option Int)):En->Rs D:=λ ρ=>(fa ρ).bd λ d=>(fl ρ).bd λ l=>(fh ρ).bd λ h=>okD (slD d l h)
theorem bN{fl fh:En->Rs (Option Int)}(ha:SE C m a fa)(hl:SO C lo fl)(hh:SO C hi fh):SE C m (.Subscript a (.Slice lo hi none p2) pos) (bA fa fl fh):=by
 obtain⟨t,h1,h2⟩:=ha;obtain⟨tl,l1,l2⟩:=hl;obtain⟨th,k1,k2⟩:=hh;refine⟨tSl (aOK C.K) t tl th,λ i=>by rw[<-C.hK i];exact aHp aPA (h1 i) (l1 i) (k1 i),λ τ σ H ρ lab Q R W=>h2 τ σ H ρ lab _ R (W.bd.imp λ d _ w x H1 s1 r1=>?_)⟩;refine l2 τ σ H1 ρ lab _ (R.up s1) (w.bd.imp λ ol _ w H2 s2=>?_);refine k2 τ σ H2 ρ lab _ ((R.up s1).up s2) (w.bd.imp λ oh _ w H3 s3=>?_);obtain⟨z,ez,w⟩:=w.okD;have s:=s1.trans (s2.trans s3);have r3:=r1.up (s2.trans s3);cases d with
 |tup l=>
  cases ez;cases r3 with
  |tup h r=>exact .inl ⟨_,_,rfl,h,λ c H' s' hc=>w _ H' (s.trans s') (.tup hc ((r.cut ol oh).up s'))⟩
 |lst l=>
  cases ez;cases r3 with
  |lst h mm r=>
   exact .inr ⟨_,_,rfl,SqL.of h,λ p hp=>w _ _ (s.trans (bL hp _)) (.lst bI (.inl (s.free hp)) (((r.cut ol oh).wk λ q o e z=>⟨z.1,λ e'=>by subst e';rw[hp]at e;cases e⟩).up (bL hp _)))⟩
 |_=>cases ez
def uB:D->Rs D
 | .tup l=>.ok (.tup l.reverse)
 |_=>.st
def aLU(K:PySem.W.Frag)(te:TE):TE:=λ σ H Q=>te σ H λ x H1=>∃a xs,x= .ref a/\SqT K H1 a xs/\∀c H',aq H1 H'->H' c=some (.tup xs.reverse)->Q (.ref c) H'
theorem aJy(he:PE X e te):PE X (.Subscript e (.Slice none none (some (.UnaryOp .USub (.Constant (.int 1) j p3) p4)) p2) pos) (aLU X.K te):=by
 intro pins s σ H Q I h;refine Subscript_ (thn (he pins s σ H _ I h) λ v s1 ⟨x,H1,I1,r1,q1⟩=>?_);obtain⟨a,xs,rfl,hx,q⟩:=q1;cases r1;have hm:PE X (.UnaryOp .USub (.Constant (.int 1) j p3) p4) (tUn (rU λ i=>.int (-i)) (tC (.int 1))):=aHo aDu aBr;refine wpAny_Slice ?_;rw[evalPart_none];refine wpAny_pure (wpAny_pure ?_);rw[evalPart_some];refine thn (hm pins s1 σ H1 (λ z H2=>z= .int (-1)/\H2=H1) I1 ⟨1,rfl,rfl,rfl⟩) λ u s2 ⟨z,H2,I2,r2,ez,eH⟩=>?_
 subst ez eH;obtain⟨tk,rfl⟩:=r2;have I4:Inv X pins σ H2 {s2 with heap:=s2.heap.push {cls:=.type "slice",data:=.fields #[.none,.none,.int (-1) tk]}}:=I2.kept (t':=s2.toks) λ b ob q=>Heap.get?_push_of_some _ q
 obtain⟨its,r,ht,hz⟩:=I4.tuple hx;have hlen:its.toArray.size=xs.length:=by rw[List.size_toArray];exact r.length.symm
 show wpAny (model X.prog X.w) X.A (subscriptTail e _ (.ref a) (.ref s2.heap.objs.size)) (EP X pins σ Q) X.xe _;refine tail_any (ops:=[.ref a,.ref s2.heap.objs.size]) ht.typeIs PyProof.Rows.slot_tuple_getitem.lookup ?_ (by with_unfolding_all rfl);refine HT.uz ht (Heap.IsSliceOf.new ..) ?_ (by rw[hlen];exact hz);refine⟨.ref _,_,I4.laid (t':=s2.toks) (o:=.tup xs.reverse) (λ b ob q=>Heap.get?_push_of_some _ q) (Nat.le_refl _) ?_,rfl,q _ _ (bL (I4.hok.fresh (Nat.le_refl _)) _) bI⟩;exact⟨by rw[List.length_reverse];exact hz,_,r.reverse,IsTup.new _ _⟩
theorem zB(h:SE C m e fe):SE C m (.Subscript e (.Slice none none (some (.UnaryOp .USub (.Constant (.int 1) j p3) p4)) p2) pos) (op1 uB fe):=by
 obtain⟨t,h1,h2⟩:=h;refine⟨aLU C.K t,λ i=>by rw[<-C.hK i];exact aJy (h1 i),λ τ σ H ρ lab Q R W=>h2 τ σ H ρ lab _ R (W.bd.imp λ d _ w x H1 s1 r1=>?_)⟩;obtain⟨z,ez,w⟩:=w.okD;cases d with
 |tup l=>
  cases ez;cases r1 with
  |tup h r=>exact⟨_,_,rfl,h,λ c H' s hc=>w _ H' (s1.trans s) (.tup (SqT.of hc) (r.reverse.up s))⟩
 |_=>cases ez
end
section
variable{C:Ct}{pos p:Pos}{m m1 m2 m3:Mode}{a b c e:Expr}{fa fb fc fe:En->Rs D}{ga:En->Rs (List D)}{es:List Expr}
theorem Ct.u0(C:Ct)(i:C.ι):(C.X i).A.units<cLine:=(C.room i).units0
theorem Ct.u64(C:Ct)(i:C.ι):(C.X i).A.units+64<cLine:=(C.room i).units
theorem Ct.ltR(C:Ct)(i:C.ι):OpR (C.X i) (compareOp .Lt) (λ x y H Q=>rI0 (λ i j=>.bl (decide (i<j))) x y H Q\/aJj C.K x y H Q):=by have h:=aMi (X:=C.X i) (C.u0 i);rw[C.hK i]at h;exact h
theorem Ct.leR(C:Ct)(i:C.ι):OpR (C.X i) (compareOp .LtE) (λ x y H Q=>rI0 (λ i j=>.bl (decide (i<=j))) x y H Q\/aJk C.K x y H Q):=by have h:=aMk (X:=C.X i) (C.u0 i);rw[C.hK i]at h;exact h
theorem Ct.eqRl(C:Ct)(i:C.ι):OpR (C.X i) (compareOp .Eq) (aHf C.K false):=by have h:=aMp (X:=C.X i) (C.u64 i);rw[C.hK i]at h;exact h
theorem Ct.neRl(C:Ct)(i:C.ι):OpR (C.X i) (compareOp .NotEq) (aHf C.K true):=by have h:=aMf (X:=C.X i) (C.u64 i);rw[C.hK i]at h;exact h
theorem Ct.inRl(C:Ct)(i:C.ι):OpR (C.X i) (compareOp .In) (aHe C.K false):=by have h:=aMo (X:=C.X i) (C.u64 i);rw[C.hK i]at h;exact h
theorem Ct.ninRl(C:Ct)(i:C.ι):OpR (C.X i) (compareOp .NotIn) (aHe C.K true):=by have h:=aGN (X:=C.X i) (C.u64 i);rw[C.hK i]at h;exact h
theorem Ct.aNg(C:Ct)(i:C.ι):OpR (C.X i) (binaryOp .Add) (aFT C.K):=by have h:=aKO (X:=C.X i);rw[C.hK i]at h;exact h
def qD:D->D->Rs D:=i2 (λ _ _=>true) λ i j=>.int (i-j)
def zz:D->D->Rs D:=i2 (λ _ j=>decide (0<j)&&decide (j<1073741824)) λ i j=>.int (i / j)
def p8:D->D->Rs D:=i2 (λ _ j=>decide (0<j)) λ i j=>.int (i%j)
def aHk:D->D->Rs D:=i2 (λ i j=>decide (0<=j)&&decide (j<=1000000)&&decide (i.natAbs<2^64)) λ i j=>.int (i^j.toNat)
theorem aj(ha:SE C m1 a fa)(hb:SE C m2 b fb):SE C (jn m1 m2) (.BinOp a .Add b pos) (op2 aV fa fb):=aAv C.aNg aHx ha hb
theorem vm(ha:SE C m1 a fa)(hb:SE C m2 b fb):SE C (jn m1 m2) (.BinOp a .Mult b pos) (op2 nG fa fb):=aAv (λ _=>aKJ) aMb ha hb
theorem vg(ha:SE C m1 a fa)(hb:SE C m2 b fb):SE C (some []) (.BinOp a .Sub b pos) (op2 qD fa fb):=gf (aAv (λ _=>aMc) aKH ha hb) λ _ _ h=>lK aCJ h
theorem aFM(ha:SE C m1 a fa)(hb:SE C m2 b fb):SE C (some []) (.BinOp a .FloorDiv b pos) (op2 zz fa fb):=gf (aAv (λ _=>aKK) (aEY λ i j h=>by simpa[aOp]using h) ha hb) λ _ _ h=>lK aCJ h
theorem qK(ha:SE C m1 a fa)(hb:SE C m2 b fb):SE C (some []) (.BinOp a .Mod b pos) (op2 p8 fa fb):=gf (aAv (λ _=>aMh) (aEY λ i j h=>by simpa using h) ha hb) λ _ _ h=>lK aCJ h
theorem aHU(ha:SE C m1 a fa)(hb:SE C m2 b fb):SE C (some []) (.BinOp a .Pow b pos) (op2 aHk fa fb):=gf (aAv (λ _=>aMe) (aEY λ i j h=>by simp only[Bool.and_eq_true,decide_eq_true_eq]at h;exact⟨h.1.1,h.1.2,h.2⟩) ha hb) λ _ _ h=>lK aCJ h
theorem n8(ha:SE C m a fa):SE C (some []) (.UnaryOp .USub a pos) (op1 gn fa):=gf (aOG (λ _=>aDu) aLk ha) λ _ _ h=>aKi aKj h
theorem aFL(ha:SE C m1 a fa)(hb:SE C m2 b fb):SE C (some []) (.Compare a [.Lt] [b] pos) (op2 ltD fa fb):=gf (zE C.ltR aHu ha hb) λ _ _ h=>lK aI6 h
theorem uX(ha:SE C m1 a fa)(hb:SE C m2 b fb):SE C (some []) (.Compare a [.Eq] [b] pos) (op2 (eqR false) fa fb):=gf (zE C.eqRl os_eq ha hb) λ _ _ h=>lK aI8 h
theorem aOI(ha:SE C m1 a fa)(hb:SE C m2 b fb):SE C (some []) (.Compare a [.NotEq] [b] pos) (op2 (eqR true) fa fb):=gf (zE C.neRl os_eq ha hb) λ _ _ h=>lK aI8 h
theorem aHX(ha:SE C m1 a fa)(hb:SE C m2 b fb)(hm:behindInMarks .In b=false:=by with_unfolding_all rfl):SE C (some []) (.Compare a [.In] [b] pos) (op2 (inR false) fa fb):=gf (zE C.inRl aHv ha hb hm) λ _ _ h=>lK aNV h
theorem aLY(ha:SE C m1 a fa)(hb:SE C m2 b fb):SE C (some []) (.Compare a [.Is] [b] pos) (op2 (isD false) fa fb):=gf (zE (λ _=>aMm) aOX ha hb) λ _ _ h=>lK aNU h
theorem yr(ha:SE C m1 a fa)(hb:SE C m2 b fb):ST C (.Compare a [.Lt] [b] pos) (tsb (op2 ltD fa fb)):=qF C.ltR aHu ha hb
theorem aOD(ha:SE C m1 a fa)(hb:SE C m2 b fb):ST C (.Compare a [.LtE] [b] pos) (tsb (op2 leD fa fb)):=qF C.leR aFZ ha hb
theorem aFH(ha:SE C m1 a fa)(hb:SE C m2 b fb):ST C (.Compare a [.Gt] [b] pos) (tsb (op2 gtD fa fb)):=qF (λ _=>aO0) aBs ha hb
theorem aOE(ha:SE C m1 a fa)(hb:SE C m2 b fb):ST C (.Compare a [.GtE] [b] pos) (tsb (op2 geD fa fb)):=qF (λ _=>aO1) aBs ha hb
theorem aAq(ha:SE C m1 a fa)(hb:SE C m2 b fb):ST C (.Compare a [.Eq] [b] pos) (tsb (op2 (eqR false) fa fb)):=qF C.eqRl os_eq ha hb
theorem yq(ha:SE C m1 a fa)(hb:SE C m2 b fb):ST C (.Compare a [.NotEq] [b] pos) (tsb (op2 (eqR true) fa fb)):=qF C.neRl os_eq ha hb
theorem aLX(ha:SE C m1 a fa)(hb:SE C m2 b fb)(hm:behindInMarks .In b=false:=by with_unfolding_all rfl):ST C (.Compare a [.In] [b] pos) (tsb (op2 (inR false) fa fb)):=qF C.inRl aHv ha hb hm
theorem yp(ha:SE C m1 a fa)(hb:SE C m2 b fb)(hm:behindInMarks .NotIn b=false:=by with_unfolding_all rfl):ST C (.Compare a [.NotIn] [b] pos) (tsb (op2 (inR true) fa fb)):=qF C.ninRl aHv ha hb hm
theorem aJe(ha:SE C m1 a fa)(hb:SE C m2 b fb)(hc:SE C m3 c fc)(hm:lastMarks [.LtE,.LtE] [b,c]=false:=by with_unfolding_all rfl):SE C (some []) (.Compare a [.LtE,.LtE] [b,c] pos) (chD leD leD fa fb fc):=aCf C.leR aFZ C.leR aFZ aNT ha hb hc hm
theorem aBf(ha:SE C m1 a fa)(hb:SE C m2 b fb)(hc:SE C m3 c fc)(hm:lastMarks [.LtE,.Lt] [b,c]=false:=by with_unfolding_all rfl):SE C (some []) (.Compare a [.LtE,.Lt] [b,c] pos) (chD leD ltD fa fb fc):=aCf C.leR aFZ C.ltR aHu aI6 ha hb hc hm
theorem aL(ha:SE C m1 a fa)(hb:SE C m2 b fb)(hp:aC0 b:=by exact λ _ _=>rfl):SE C m1 (.Subscript a b pos) (op2 ixD fa fb):=by
 obtain⟨t,h1,h2⟩:=ha;obtain⟨u,k1,k2⟩:=hb;refine⟨tOp (rIx C.K) t u,λ i=>by rw[<-C.hK i];exact aL8 aNP (h1 i) (k1 i) hp,λ τ σ H ρ lab Q R W=>?_⟩;refine h2 τ σ H ρ lab _ R (W.bd.imp λ d _ w x H1 s1 r1=>?_);refine k2 τ σ H1 ρ lab _ (R.up s1) (w.bd.imp λ e _ w y H2 s2 r2=>?_);obtain⟨z,ez,w⟩:=w.okD;have hi:imm e=true:=by
  unfold ixD at ez;split at ez<;>first|rfl|cases ez
 refine aOW (fpM m1 lab H) x y d e H2 Q z (r1.up s2) (r2.imm hi) ez λ v H' s r=>w v H' ((s1.trans s2).trans s) (r.wk λ p o _ q=>?_)
 rcases q with q|q
 ·exact .inl ((s1.trans s2).free q)
 ·exact q
theorem dZ(hm:C.mg "len"=none)(ha:SA C m [a] ga)(he:∀i,starEach [a] (C.X i).env=[(false,eval a (C.X i).env)]:=by intro _;rfl)(hg:∀i,Gl (C.X i) "len":=by intro _;rfl):SE C (some []) (.Call (.Name "len" p) [a] [] pos) (opA bz ga):=
 gf (kJ (λ i=>by have h:=vN (X:=C.X i);rw[C.hK i]at h;exact h) aJD hg hm PySem.boot_len ha (by decide) (by decide) he) λ _ _ h=>nQ aFh h
theorem o8(hm:C.mg "all"=none)(ha:SA C m [a] ga)(he:∀i,starEach [a] (C.X i).env=[(false,eval a (C.X i).env)]:=by intro _;rfl)(hg:∀i,Gl (C.X i) "all":=by intro _;rfl)(hv:bootBuiltins "all"=some (.builtin "all"):=by decide+kernel):SE C (some []) (.Call (.Name "all" p) [a] [] pos) (opA (jt λ bs=>bs.all id) ga):=
 gf (kJ (λ i=>aJG (C.calm i)) aN8 hg hm hv ha (by decide) (by decide) he) λ _ _ h=>nQ aKl h
theorem yO(hm:C.mg "min"=none)(ha:SA C m [a,b] ga)(he:∀i,starEach [a,b] (C.X i).env=(false,eval a (C.X i).env)::starEach [b] (C.X i).env:=by intro _;rfl)(hpl:∀i,(backTo pos (starEach [b] (C.X i).env)).any (·.1)=false:=by intro _;rfl)(hg:∀i,Gl (C.X i) "min":=by intro _;rfl)(hv:bootBuiltins "min"=some (.builtin "min"):=by decide+kernel):SE C (some []) (.Call (.Name "min" p) [a,b] [] pos) (opA (mmD λ i j=>if j<i then j else i) ga):=
 gf (kJ (λ i=>aGh (C.calm i)) aLf hg hm hv ha (by decide) (by decide) he hpl) λ _ _ h=>nQ aI4 h
theorem yP(hm:C.mg "max"=none)(ha:SA C m [a,b] ga)(he:∀i,starEach [a,b] (C.X i).env=(false,eval a (C.X i).env)::starEach [b] (C.X i).env:=by intro _;rfl)(hpl:∀i,(backTo pos (starEach [b] (C.X i).env)).any (·.1)=false:=by intro _;rfl)(hg:∀i,Gl (C.X i) "max":=by intro _;rfl)(hv:bootBuiltins "max"=some (.builtin "max"):=by decide+kernel):SE C (some []) (.Call (.Name "max" p) [a,b] [] pos) (opA (mmD λ i j=>if j>i then j else i) ga):=
 gf (kJ (λ i=>aGk (C.calm i)) aLf hg hm hv ha (by decide) (by decide) he hpl) λ _ _ h=>nQ aI4 h
theorem kI(hm:C.mg "tuple"=none)(ha:SA C m [a] ga)(he:∀i,starEach [a] (C.X i).env=[(false,eval a (C.X i).env)]:=by intro _;rfl)(hg:∀i,Gl (C.X i) "tuple":=by intro _;rfl)(hv:bootBuiltins "tuple"=some (.type "tuple"):=by decide+kernel):SE C m (.Call (.Name "tuple" p) [a] [] pos) (opA dq ga):=
 aCg (λ i=>by have h:=aAi (X:=C.X i);rw[C.hK i]at h;exact h) aJB hg hm hv ha (by decide) (by decide) he
theorem aBd(hm:C.mg "list"=none)(ha:SA C m [a] ga)(he:∀i,starEach [a] (C.X i).env=[(false,eval a (C.X i).env)]:=by intro _;rfl)(hg:∀i,Gl (C.X i) "list":=by intro _;rfl)(hv:bootBuiltins "list"=some (.type "list"):=by decide+kernel):SE C m (.Call (.Name "list" p) [a] [] pos) (opA sX ga):=
 aCg (λ i=>by have h:=aCQ (X:=C.X i);rw[C.hK i]at h;exact h) aKz hg hm hv ha (by decide) (by decide) he
def OpF(K:PySem.W.Frag)(r:R2)(fd:D->D->Rs D):Prop:=∀(A:Addr->Prop) x y d e H (Q:VK) z,Rp K A H x d->Rp K A H y e->fd d e= .ok z->(∀v H',aq H H'->Rp K (λ p=>H p=none\/A p) H' v z->aNu H v z->Q v H')->r x y H Q
theorem aMt{K:PySem.W.Frag}:OpF K (aFT K) aV:=by
 intro A x y d e H Q z rx ry ez q;cases z with
 |lst l=>
  unfold aV at ez;split at ez
  ·cases ez
  ·split at ez
   ·rename_i hl
    cases ez;cases rx with
    |lst h1 m1 r1=>
     cases ry with
     |lst h2 m2 r2=>
      refine .inr (.inl ⟨_,_,_,_,rfl,rfl,h1,h2,by rw[r1.length,r2.length];exact hl,λ p H' s hp hn=>q _ H' s (.lst hp (.inl hn) ?_) λ _=>⟨p,rfl,hn⟩⟩);exact(((r1.wk λ _ _ _ z=>z.1).append (r2.wk λ _ _ _ z=>z.1)).wk (A':=λ q=>(H q=none\/A q)/\q≠p) λ q o e z=>⟨.inr z,λ e'=>by subst e';rw[hn]at e;cases e⟩).up s
   ·cases ez
  ·split at ez<;>cases ez
  ·cases ez
 |dct ks vs=>
  unfold aV at ez;split at ez
  ·cases ez
  ·split at ez<;>cases ez
  ·split at ez<;>cases ez
  ·cases ez
 |set l=>
  unfold aV at ez;split at ez
  ·cases ez
  ·split at ez<;>cases ez
  ·split at ez<;>cases ez
  ·cases ez
 |_=>exact aHx A x y d e H Q _ rx ry ez λ v H' s r=>q v H' s r λ hm=>by cases hm
theorem aEC(ha:SE C m1 a fa)(hb:SE C m2 b fb):SF C (jn m1 m2) (.BinOp a .Add b pos) (op2 aV fa fb):=by
 obtain⟨t,h1,h2⟩:=ha;obtain⟨u,k1,k2⟩:=hb;refine⟨_,λ i=>aL7 (C.aNg i) (h1 i) (k1 i),?_⟩;intro τ σ H ρ lab Q R W;refine h2 τ σ H ρ lab _ R (W.bd.imp λ d _ w x H1 s1 r1=>?_);refine k2 τ σ H1 ρ lab _ (R.up s1) (w.bd.imp λ e _ w y H2 s2 r2=>?_);obtain⟨z,ez,w⟩:=w.okD;refine aMt (fpM (jn m1 m2) lab H) x y d e H2 Q z (r1.mono s2 λ p o _ q=>aIn q) (r2.wk λ p o _ q=>aIm (qd s1 q)) ez λ v H' s r ht=>w v H' ((s1.trans s2).trans s) (r.wk λ p o _ q=>?_) λ hm=>?_
 ·rcases q with q|q
  ·exact .inl ((s1.trans s2).free q)
  ·exact q
 ·obtain⟨a,e1,e2⟩:=ht hm
  exact⟨a,e1,(s1.trans s2).free e2⟩
def aFI(K:PySem.W.Frag):Sp:=λ vs H Q E=>∃a ns,vs=[.ref a]/\qz K H a ns/\ns.length<=63/\∀H',Q (.bl true) H'
theorem aK6{K:PySem.W.Frag}(h:∀ns:List Int,ns.length<=63->F [.scr ns]= .ok (.bl true)):∀vs H Q E,aFI K vs H Q E->spF K cl 1 F vs H Q E:=by
 rintro vs H Q E ⟨a,ns,rfl,hs,hl,q⟩;refine⟨[.scr ns],rfl,.cons (.scr hs) .nil,?_⟩;rw[h ns hl];intro v H' s r;cases r;exact q H'
theorem aME{K:PySem.W.Frag}{a:Addr}(hO:Only H)(h:SqL K H a (ns.map V.int)):qz K H a ns:=by
 rcases h with (h|⟨o,h⟩)|h
 ·rcases hO a with z|⟨o,xs,z⟩
  ·rw[h]at z;cases z
  ·rw[h]at z;cases z
 ·exact .inl ⟨o,h⟩
 ·exact .inr h
end
def aCu:V->List V->Hp->VK->Prop:=λ x vs H Q=>∃l b xs zs,x= .ref l/\vs=[.ref b]/\H l=some (.lst xs)/\H b=some (.lst zs)/\xs.length+zs.length<=sizeLine/\∀H',oA l H H'->H' l=some (.lst (xs++zs))->Q .non H'
theorem aE7:MtM X "list.extend" aCu:=λ pins s σ H x xs v us Q I rx rv ⟨l,b,ys,zs,e1,e2,h,h2,z,n⟩=>
 aGR pins s σ H x xs v us Q I rx rv ⟨l,b,ys,zs,e1,e2,h,h2,z,n _ (λ b o ne hb=>by rw[bZ ne];exact hb) bI⟩
section
variable{C:Ct}{pos apos cpos p:Pos}{e tg:Expr}{fe:En->Rs D}{fg:D->En->Rs En}{i:Nat}{x:Str}{m:Mode}{ks:List Nat}
def aG9(ds:List D)(k:List D->Ou):D->Ou
 | .lst es=>if ds.length+es.length<=sizeLine then k (ds++es)else .st
 |_=>.st
def aAh(i:Nat)(fe:En->Rs D):En->Ou:=λ ρ=>match ρ[i]? with
 |some (.ow (.lst ds))=>(fe ρ).bo (aG9 ds λ l=>.nx (ρ.set i (.ow (.lst l))))
 |_=>.st
theorem aAr(i:Nat)(he:SE C m e fe)(hm:okN m=true:=by rfl)(hN:∀j,(C.X j).N[i]? =some x:=by intro _;rfl)(hv:∀j,Vis (C.X j).env.scope x:=by intro _;first|exact Or.inl rfl|exact Or.inr (Or.inl rfl)|exact Or.inr (Or.inr rfl))(hd:(x==("__debug__":Str))=false:=by decide)
  (hcd:(x==("__classdict__":Str))=false:=by decide)(hs1:∀j,starEach [e] (C.X j).env=[(false,eval e (C.X j).env)]:=by intro _;rfl)
  (hbase:∀j,attributeBase (.Name x p) "extend" (C.X j).env (eval (.Name x p) (C.X j).env)=eval (.Name x p) (C.X j).env:=by intro _;rfl)
  (hfew:∀j,((backTo cpos (starEach [e] (C.X j).env)).all (λ x=>!x.1)&&(backToKw cpos (keywordEach [] (C.X j).env)).all (λ x=>x.1.isSome)&&decide ([e].length+([]:List Keyword).length+(if ([]:List Keyword).isEmpty then 0 else 1)<30))=true:=by intro _;rfl)
  (hline:(apos.endLine==cpos.line)=true:=by rfl)
  (hsw:∀j,swapsWith (.Call (.Attribute (.Name x p) "extend" apos) [e] [] cpos) none pos.line (C.X j).env=pure false:=by intro _;rfl):
  SS C (.Expr (.Call (.Attribute (.Name x p) "extend" apos) [e] [] cpos) pos) (aAh i fe):=by
 obtain⟨t,h1,h2⟩:=he;refine⟨aAo (tBM C.K "list" aCu (ym i) (lr t tH)),λ j=>rC (by rw[<-C.hK j];exact aCx PySem.F.plainAttrs_list PySem.F.slot_list_extend PySem.F.type_list_extend aE7 (nj (hN j) (hv j) hd hcd) (gF (h1 j) jK (hs1 j)) (hbase j) (hfew j) hline (hs1 j) rfl) (hsw j),λ τ σ H ρ lab De R W=>?_⟩;unfold aAh at W;cases es:ρ[i]? with
 |none=>rw[es]at W;exact False.elim W
 |some s=>
  rw[es]at W;split at W
  ·rename_i ds hs
   cases hs;rcases R.sl i _ es with z|⟨v,ev,hv'⟩
   ·cases z
   ·obtain⟨hv1,htop⟩:=hv'
    obtain⟨a0,ea0,la0⟩:=htop rfl;subst ea0;cases hv1 with
    |lst h mm r=>
     rename_i xs;refine⟨.ref a0,ev,.inl ⟨rfl,xs,SqL.of h⟩,h2 τ σ H ρ lab _ R (W.bo.imp λ d _ w y H2 s2 r2=>?_)⟩;cases d with
     |lst es'=>
      dsimp only[aG9]at w;by_cases hz:ds.length+es'.length<=sizeLine
      ·rw[if_pos hz]at w
       obtain⟨R',r'⟩:=R.fresh (P:=λ k=>k=1) rfl (λ k hk=>beq_iff_eq.mp (pF hm k hk)) s2 r2;have la:(cQ H 1 lab a0).1=i+2:=by rw[bc h];exact la0
       cases r' with
       |lst hb mb rb=>
        rename_i b zs;refine⟨a0,b,xs,zs,rfl,rfl,s2 _ _ h,hb,by rw[r.length,rb.length];exact hz,λ H3 B h3=>?_⟩;refine w σ H3 _ (R'.mut ev (s2 _ _ h) rfl la B ⟨.lst h3 (.inr la) ?_,λ _=>⟨a0,rfl,la⟩⟩);have ra:Rps C.K (λ p=>((cQ H 1 lab p).1=1\/(cQ H 1 lab p).1=i+2)/\p≠a0) H2 (xs++zs) (ds++es'):=by
         refine(r.mono s2 λ p o e z=>⟨by rw[bc e];exact z.1,z.2⟩).append (rb.wk λ p o e z=>⟨.inl z.1,λ q=>?_⟩);subst q;have z1:(cQ H 1 lab p).1=1:=z.1;omega
        exact ra.but B (s2 _ _ h) rfl λ z=>z.2 rfl
      ·rw[if_neg hz]at w
       exact False.elim w
     |_=>exact False.elim w
  ·exact False.elim W
end
section
variable{K:PySem.W.Frag}
theorem oM:∀{ns:List Int} {us:List Value},Vals (ns.map V.int) us->∃ts:List (Int×Tok),us=ts.map (λ q=>Value.int q.1 q.2)/\ts.map Prod.fst=ns
 |[],_,.nil=>⟨[],rfl,rfl⟩
 |n::ns,_,.cons r t=>by
  obtain⟨tk,e⟩:∃tk,_=Value.int n tk:=r
  obtain⟨ts,e1,e2⟩:=oM t;subst e;exact⟨(n,tk)::ts,by rw[e1];rfl,by rw[<-e2];rfl⟩
theorem aGj(hc:X.calm=true):dR X (.builtin "max") (λ xs H Q=>∃(p:Addr) (ns:List Int) (m:Int),xs=[.ref p]/\H p=some (.lst (ns.map V.int))/\ns.max?=some m/\Q (.int m) H):=by
 intro pins s σ H xs us Q I r h;obtain⟨p,ns,m,rfl,hp,hm,q⟩:=h;obtain⟨u,rfl,ru⟩:=vals1 r;cases ru;obtain⟨its,rv,pl,hz⟩:=I.list (SqL.of hp);obtain⟨ts,rfl,rfl⟩:=oM rv;have hsz:0<ts.toArray.size:=by
  cases ts with
  |nil=>cases hm
  |cons a b=>simp
 refine max_intList (xs:=ts.toArray) (I.ok.hd hc) (by have:=pl.isList;simpa[intItems]using this) hsz λ v h' tk hv hk=>?_
 obtain⟨t,rfl⟩:=intItems_at hv;obtain⟨h1,h2⟩:=argBest_gt (numAt ts.toArray) (ts.toArray.size-1);have hM:(ts.map Prod.fst).max?=some (numAt ts.toArray (argBest (λ i j=>decide (numAt ts.toArray i>numAt ts.toArray j)) (ts.toArray.size-1))):=by
  rw[List.max?_eq_some_iff];refine⟨?_,λ a ha=>?_⟩
  ·rw[numAt_eq];exact getD_mem (by rw[List.length_map];simp at h1 hsz ⊢;omega)
  ·obtain⟨j,hj,rfl⟩:=mem_getD ha
   have:=h2 j (by rw[List.length_map]at hj;simp;omega)
   rw[numAt_eq]at this;exact this
 rw[hm]at hM;injection hM with hM
 exact⟨.int m,H,I.kept hk,⟨t,by rw[hM]⟩,q⟩
theorem aGg(hc:X.calm=true):dR X (.builtin "min") (λ xs H Q=>∃(p:Addr) (ns:List Int) (m:Int),xs=[.ref p]/\H p=some (.lst (ns.map V.int))/\ns.min?=some m/\Q (.int m) H):=by
 intro pins s σ H xs us Q I r h;obtain⟨p,ns,m,rfl,hp,hm,q⟩:=h;obtain⟨u,rfl,ru⟩:=vals1 r;cases ru;obtain⟨its,rv,pl,hz⟩:=I.list (SqL.of hp);obtain⟨ts,rfl,rfl⟩:=oM rv;have hsz:0<ts.toArray.size:=by
  cases ts with
  |nil=>cases hm
  |cons a b=>simp
 refine min_intList (xs:=ts.toArray) (I.ok.hd hc) (by have:=pl.isList;simpa[intItems]using this) hsz λ v h' tk hv hk=>?_
 obtain⟨t,rfl⟩:=intItems_at hv;obtain⟨h1,h2⟩:=argBest_lt (numAt ts.toArray) (ts.toArray.size-1);have hM:(ts.map Prod.fst).min?=some (numAt ts.toArray (argBest (λ i j=>decide (numAt ts.toArray i<numAt ts.toArray j)) (ts.toArray.size-1))):=by
  rw[List.min?_eq_some_iff];refine⟨?_,λ a ha=>?_⟩
  ·rw[numAt_eq];exact getD_mem (by rw[List.length_map];simp at h1 hsz ⊢;omega)
  ·obtain⟨j,hj,rfl⟩:=mem_getD ha
   have:=h2 j (by rw[List.length_map]at hj;simp;omega)
   rw[numAt_eq _ j]at this;exact this
 rw[hm]at hM;injection hM with hM
 exact⟨.int m,H,I.kept hk,⟨t,by rw[hM]⟩,q⟩
def aDC(f:List Int->Option Int):List D->Rs D
 |[.lst l]=>match intsOf l with
  |some ns=>match f ns with
   |some m=>.ok (.int m)
   |none=>.st
  |none=>.st
 |_=>.st
theorem aKy:p7 K (λ xs H Q=>∃(p:Addr) (ns:List Int) (m:Int),xs=[.ref p]/\H p=some (.lst (ns.map V.int))/\f ns=some m/\Q (.int m) H) (aDC f):=by
 intro A xs ds H Q z r ez q;unfold aDC at ez;split at ez
 ·split at ez
  ·rename_i l ns e
   split at ez
   ·rename_i m em
    cases ez
    have:=dC e
    subst this;cases r with
    |cons h r=>
     cases r;cases h with
     |lst h _ r=>
      have:=r.ints_of
      subst this;exact⟨_,ns,m,rfl,h,em,q _ H (aq.refl H) (.int _)⟩
   ·cases ez
  ·cases ez
 ·cases ez
theorem aI3:∀x z,aDC f x= .ok z->imm z=true:=by
 intro x z e;unfold aDC at e;split at e
 ·split at e
  ·split at e
   ·cases e;rfl
   ·cases e
  ·cases e
 ·cases e
end
section
variable{C:Ct}{pos p:Pos}{a:Expr}{ga:En->Rs (List D)}{m:Mode}
end
section
variable{C:Ct}{pos:Pos}{a b:Expr}{fa fb:En->Rs D}{m1 m2:Mode}
end
section
variable{O:PyProof.Rows.KeyOrd}{kz:Nat->O.α}{n:Nat}
def Wr{α:Type}(kz:Nat->O.α)(n:Nat):PySem.W.KasT α->(α->Prop)->Prop
 | .ret a,Q=>Q a
 | .ask i j k,Q=>i<n/\j<n/\Wr kz n (k (O.blt (kz i) (kz j))) Q
theorem Wr.bindI:∀{t:PySem.W.KasT α},Wr kz n t (λ a=>Wr kz n (g a) Q)->Wr kz n (t.bind g) Q
 | .ret _,h=>h
 | .ask _ _ _,⟨h1,h2,h3⟩=>⟨h1,h2,Wr.bindI h3⟩
abbrev Pm(n:Nat)(p:Array Nat):Prop:=p.Perm (List.range n).toArray
theorem Pm.sz(h:Pm n p):p.size=n:=by
 have:=h.size_eq
 simpa using this
theorem Pm.in(h:Pm n p)(hi:i<n):p.getD i 0<n:=by
 have hs:i<p.size:=by rw[h.sz];exact hi
 have e:p.getD i 0=p[i]:=by simp[Array.getD,hs]
 rw[e];have hm:p[i]∈(List.range n).toArray:=h.mem_iff.mp (Array.getElem_mem hs);simpa using hm
def Kp(kz:Nat->O.α)(p:Array Nat)(i:Nat):O.α:=kz (p.getD i 0)
theorem aDV(h:p[i]? =q[j]?):Kp kz p i=Kp kz q j:=by
 unfold Kp;congr 1;rw[Array.getD_eq_getD_getElem?,Array.getD_eq_getD_getElem?,h]
theorem aIT(hs:c<p.size)(hd:d<=c)(k:Nat):
  Kp kz (bubble p c d) k=if k=c-d then Kp kz p c else if c-d<k/\k<=c then Kp kz p (k-1)else Kp kz p k:=by
 have e:=getElem?_bubble hs d hd k;by_cases u1:k=c-d
 ·rw[if_pos u1]at e ⊢
  exact aDV e
 ·rw[if_neg u1]at e ⊢
  by_cases u2:c-d<k/\k<=c
  ·rw[if_pos u2]at e ⊢
   exact aDV e
  ·rw[if_neg u2]at e ⊢
   exact aDV e
theorem aEf(hj:j<=p.size)(k:Nat):Kp kz (PySem.W.kas_rev p i j) k=if i<=k/\k<j then Kp kz p (i+j-1-k)else Kp kz p k:=by
 unfold PySem.W.kas_rev;have e:=getElem?_mirror_all (i:=i) hj k;by_cases u1:i<=k/\k<j
 ·rw[if_pos u1]at e ⊢
  exact aDV e
 ·rw[if_neg u1]at e ⊢
  exact aDV e
theorem rJ(hj:j<=p.size)(he:∀k,i<=k->k<j->Kp kz p k=Kp kz p (j-1))(k:Nat):Kp kz (PySem.W.kas_rev p i j) k=Kp kz p k:=by
 rw[aEf hj];split
 ·rw[he _ (by lia) (by lia),he k (by lia) (by lia)]
 ·rfl
def Up(kz:Nat->O.α)(p:Array Nat)(k:Nat):Prop:=∀i j,i<=j->j<k->O.kle (Kp kz p i) (Kp kz p j)
def Dn(kz:Nat->O.α)(p:Array Nat)(k:Nat):Prop:=∀i j,i<=j->j<k->O.kle (Kp kz p j) (Kp kz p i)
theorem zK(h:Pm n p)(i j:Nat):Pm n (PySem.W.kas_rev p i j):=(mirror_perm _ _ _ _).trans h
theorem Up.succ(h:Up kz p m)(hm:1<=m)(hl:O.kle (Kp kz p (m-1)) (Kp kz p m)):Up kz p (m+1):=by
 intro i j hij hj;by_cases q:j<m
 ·exact h i j hij q
 ·have q':j=m:=by lia
  subst q';by_cases q2:i=j
  ·rw[q2];exact KeyOrd.kle_refl _
  ·exact KeyOrd.kle_trans (h i (j-1) (by lia) (by lia)) hl
theorem Dn.succ(h:Dn kz p m)(hm:1<=m)(hl:O.kle (Kp kz p m) (Kp kz p (m-1))):Dn kz p (m+1):=by
 intro i j hij hj;by_cases q:j<m
 ·exact h i j hij q
 ·have q':j=m:=by lia
  subst q';by_cases q2:i=j
  ·rw[q2];exact KeyOrd.kle_refl _
  ·exact KeyOrd.kle_trans hl (h i (j-1) (by lia) (by lia))
theorem aDt(hp:Pm n p)(hr:r<=n):∀(f m:Nat),1<=m->m+f=r->Up kz p m->
  (∀m',1<=m'->m'<=r->Up kz p m'->(m'=r\/O.klt (Kp kz p m') (Kp kz p (m'-1)))->Q m')->Wr kz n (PySem.W.kas_asc p f m) Q
 |0,m,h1,hm,hu,k=>k m h1 (by lia) hu (.inl (by lia))
 |f+1,m,h1,hm,hu,k=>by
  refine⟨hp.in (by lia),hp.in (by lia),?_⟩;have hd:O.blt (kz (p.getD m 0)) (kz (p.getD (m-1) 0))=O.blt (Kp kz p m) (Kp kz p (m-1)):=rfl;rw[hd];cases hb:O.blt (Kp kz p m) (Kp kz p (m-1))with
  |true=>exact k m h1 (by lia) hu (.inr hb)
  |false=>exact aDt hp hr f (m+1) (by lia) (by lia) (hu.succ h1 hb) k
theorem yL(hr:r<=n):∀(f:Nat) (p:Array Nat) (m e:Nat),Pm n p->1<=m->m+f=r->Dn kz p m->e+1<=m->(∀i,m-(e+1)<=i->i<m->Kp kz p i=Kp kz p (m-1))->
  (∀p' m' e',Pm n p'->1<=m'->m'<=r->Dn kz p' m'->e'+1<=m'->(∀i,m'-(e'+1)<=i->i<m'->Kp kz p' i=Kp kz p' (m'-1))->Q (p',m',e'))->Wr kz n (PySem.W.kas_desc f p m e) Q
 |0,p,m,e,hp,h1,hm,hd,he,hq,k=>k p m e hp h1 (by lia) hd he hq
 |f+1,p,m,e,hp,h1,hm,hd,he,hq,k=>by
  have hsz:m<=p.size:=by rw[hp.sz];lia
  refine⟨hp.in (by lia),hp.in (by lia),?_⟩;have hx:O.blt (kz (p.getD m 0)) (kz (p.getD (m-1) 0))=O.blt (Kp kz p m) (Kp kz p (m-1)):=rfl;rw[hx];cases hb:O.blt (Kp kz p m) (Kp kz p (m-1))with
  |true=>
   have hd':Dn kz p (m+1):=hd.succ h1 (KeyOrd.kle_of_klt hb);dsimp only;rw[if_pos rfl];by_cases hz:e>0
   ·rw[if_pos hz]
    refine yL hr f _ (m+1) 0 (zK hp _ _) (by lia) (by lia) (λ i j hij hj=>?_) (by lia) (λ i u v=>by congr 1;lia) k;rw[rJ hsz hq,rJ hsz hq];exact hd' i j hij hj
   ·rw[if_neg hz]
    exact yL hr f p (m+1) 0 hp (by lia) (by lia) hd' (by lia) (λ i u v=>by congr 1;lia) k
  |false=>
   dsimp only;rw[if_neg (by simp)];refine⟨hp.in (by lia),hp.in (by lia),?_⟩;have hy:O.blt (kz (p.getD (m-1) 0)) (kz (p.getD m 0))=O.blt (Kp kz p (m-1)) (Kp kz p m):=rfl;rw[hy];cases hc:O.blt (Kp kz p (m-1)) (Kp kz p m)with
   |true=>exact k p m e hp h1 (by lia) hd he hq
   |false=>
    dsimp only;rw[if_neg (by simp)];have hee:Kp kz p m=Kp kz p (m-1):=KeyOrd.kle_antisymm hc hb;refine yL hr f p (m+1) (e+1) hp (by lia) (by lia) (hd.succ h1 hc) (by lia) (λ i u v=>?_) k;rw[show m+1-1=m by lia];by_cases hi:i=m
    ·rw[hi]
    ·rw[hee]
     exact hq i (by lia) (by lia)
theorem aFB(hr:r<=n)(hp:Pm n p)(h1:1<=m)(hm:m<=r)(hd:Dn kz p m)(k:∀m' p',Pm n p'->1<=m'->m'<=r->Up kz p' m'->Q (m',p')):Wr kz n (PySem.W.kas_tail3 m r p) Q:=by
 have hsz:m<=p.size:=by rw[hp.sz];lia
 refine Wr.bindI (aDt (zK hp 0 m) hr (r-m) m h1 (by lia) (λ i j hij hj=>?_) λ m' a1 a2 a3 _=>k m' _ (zK hp 0 m) a1 a2 a3);rw[aEf hsz,aEf hsz,if_pos (by lia),if_pos (by lia)];exact hd _ _ (by lia) (by lia)
theorem wg(hr:r<=n)(hp:Pm n p)(hm:m+1<=r)(hd:Dn kz p (m+1))(k:∀m' p',Pm n p'->1<=m'->m'<=r->Up kz p' m'->Q (m',p')):Wr kz n (PySem.W.kas_descPart m r p) Q:=by
 refine Wr.bindI (yL hr (r-(m+1)) p (m+1) 0 hp (by lia) (by lia) hd (by lia) (λ i u v=>by congr 1;lia) λ p' m' e' a1 a2 a3 a4 a5 a6=>?_);have hsz:m'<=p'.size:=by rw[a1.sz];lia
 dsimp only;by_cases hz:e'>0
 ·rw[if_pos hz]
  refine aFB hr (zK a1 _ _) a2 a3 (λ i j hij hj=>?_) k;rw[rJ hsz a6,rJ hsz a6];exact a4 i j hij hj
 ·rw[if_neg hz]
  exact aFB hr a1 a2 a3 a4 k
theorem aGs(hr:r<=n)(hp:Pm n p)(h1:1<=r)(k:∀m' p',Pm n p'->1<=m'->m'<=r->Up kz p' m'->Q (m',p')):Wr kz n (PySem.W.kas_count r p) Q:=by
 refine Wr.bindI (aDt hp hr (r-1) 1 (Nat.le_refl 1) (by lia) (λ i j hij hj=>by rw[show i=j by lia];exact KeyOrd.kle_refl _) λ m a1 a2 a3 a4=>?_);by_cases hm:m=r
 ·rw[if_pos (by simpa using hm)]
  exact k m p hp a1 a2 a3
 ·rw[if_neg (by simpa using hm)]
  have hl:O.klt (Kp kz p m) (Kp kz p (m-1)):=a4.resolve_left hm;by_cases hg:m>1
  ·rw[if_pos hg]
   refine⟨hp.in (by lia),hp.in (by lia),?_⟩;have hx:O.blt (kz (p.getD 0 0)) (kz (p.getD (m-1) 0))=O.blt (Kp kz p 0) (Kp kz p (m-1)):=rfl;rw[hx];cases hb:O.blt (Kp kz p 0) (Kp kz p (m-1))with
   |true=>exact k m p hp a1 a2 a3
   |false=>
    dsimp only;rw[if_neg (by simp)];have hsz:m<=p.size:=by rw[hp.sz];lia
    have hall:∀i,0<=i->i<m->Kp kz p i=Kp kz p (m-1):=λ i _ hi=>KeyOrd.kle_antisymm (a3 i (m-1) (by lia) (by lia)) (KeyOrd.kle_trans hb (a3 0 i (by lia) hi))
    refine wg hr (zK hp 0 m) (by lia) (λ i j hij hj=>?_) k;rw[rJ hsz hall,rJ hsz hall];by_cases hjm:j<m
    ·rw[hall i (by lia) (by lia),hall j (by lia) hjm];exact KeyOrd.kle_refl _
    ·have hj':j=m:=by lia
     subst hj';by_cases hi:i=j
     ·rw[hi];exact KeyOrd.kle_refl _
     ·rw[hall i (by lia) (by lia)];exact KeyOrd.kle_of_klt hl
  ·rw[if_neg hg]
   have hm1:m=1:=by lia
   subst hm1;refine wg hr hp (by lia) (λ i j hij hj=>?_) k;by_cases hi:i=j
   ·rw[hi];exact KeyOrd.kle_refl _
   ·have e1:i=0:=by lia
    have e2:j=1:=by lia
    subst e1 e2;exact KeyOrd.kle_of_klt hl
theorem yf(hp:Pm n p)(hc:c<n)(hu:Up kz p c):∀(f l r:Nat),l<=r->r<=c->r-l<=f->(∀i,i<l->O.kle (Kp kz p i) (Kp kz p c))->(∀i,r<=i->i<c->O.klt (Kp kz p c) (Kp kz p i))->
  (∀l',l'<=c->(∀i,i<l'->O.kle (Kp kz p i) (Kp kz p c))->(∀i,l'<=i->i<c->O.klt (Kp kz p c) (Kp kz p i))->Q l')->Wr kz n (PySem.W.kas_place p c f l r) Q
 |0,l,r,a1,a2,a3,a4,a5,k=>by
  have e:l=r:=by lia
  subst e;exact k l a2 a4 a5
 |f+1,l,r,a1,a2,a3,a4,a5,k=>by
  unfold PySem.W.kas_place;by_cases hg:l ≥ r
  ·rw[if_pos hg]
   have e:l=r:=by lia
   subst e;exact k l a2 a4 a5
  ·rw[if_neg hg]
   refine⟨hp.in hc,hp.in (by lia),?_⟩;have hx:O.blt (kz (p.getD c 0)) (kz (p.getD ((l+r) / 2) 0))=O.blt (Kp kz p c) (Kp kz p ((l+r) / 2)):=rfl;rw[hx];cases hb:O.blt (Kp kz p c) (Kp kz p ((l+r) / 2))with
   |true=>exact yf hp hc hu f l ((l+r) / 2) (by lia) (by lia) (by lia) a4 (λ i u v=>KeyOrd.klt_of_klt_of_kle hb (hu _ _ u v)) k
   |false=>exact yf hp hc hu f ((l+r) / 2+1) r (by lia) a2 (by lia) (λ i u=>KeyOrd.kle_trans (hu i ((l+r) / 2) (by lia) (by lia)) hb) a5 k
theorem aGt:∀(f:Nat) (p:Array Nat) (c:Nat),Pm n p->c+f=n->Up kz p c->(∀p',Pm n p'->Up kz p' n->Q p')->Wr kz n (PySem.W.kas_bin f p c) Q
 |0,p,c,hp,hc,hu,k=>k p hp (by rw[show n=c by lia];exact hu)
 |f+1,p,c,hp,hc,hu,k=>by
  refine Wr.bindI (yf hp (by lia) hu c 0 c (by lia) (Nat.le_refl c) (by lia) (λ i u=>by lia) (λ i u v=>by lia) λ l a1 a2 a3=>?_);refine aGt f _ (c+1) ((bubble_perm _ _ _).trans hp) (by lia) (λ i j hij hj=>?_) k;have hs:c<p.size:=by rw[hp.sz];lia
  rw[aIT hs (by lia),aIT hs (by lia),show c-(c-l)=l by lia]
  repeat' split
  all_goals first
   |(exfalso;lia)
   |exact O.irrefl _
   |exact a2 _ (by lia)
   |exact KeyOrd.klt_asymm (a3 _ (by lia) (by lia))
   |exact hu _ _ (by lia) (by lia)
theorem aJV(h1:1<=n)(k:∀p,Pm n p->Up kz p n->Q p):Wr kz n (PySem.W.kas_sort n) Q:=by
 refine Wr.bindI (aGs (Nat.le_refl n) (Array.Perm.refl _) h1 λ m p a1 a2 a3 a4=>?_);dsimp only;by_cases hm:m<n
 ·rw[if_pos hm]
  exact aGt _ p _ a1 (by lia) (by rw[show max m 1=m by lia];exact a4) k
 ·rw[if_neg hm]
  exact k p a1 (by rw[show n=m by lia];exact a4)
theorem aC3{I:Shared->Prop}(hc:∀i j (C:Bool->Shared->Prop) s,I s->i<n->j<n->(∀s',I s'->C (O.blt (kz i) (kz j)) s')->cmp i j C s):
  ∀(t:PySem.W.KasT α) (s:Shared),I s->Wr kz n t (λ a=>∀s',I s'->Q a s')->t.kasWp cmp Q s
 | .ret a,s,hI,h=>h s hI
 | .ask i j k,s,hI,⟨h1,h2,h3⟩=>hc i j _ s hI h1 h2 λ s' hI'=>aC3 hc _ s' hI' h3
end
theorem aBz:∀a:List Int,HT.lexLt a a=false
 |[]=>rfl
 |x::a=>by rw[HT.jL,if_pos rfl];exact aBz a
theorem uq:∀a b c:List Int,HT.lexLt a b=true->HT.lexLt b c=true->HT.lexLt a c=true
 |[],[],c,h,_=>by cases h
 |[],_::_,[],_,h=>by cases h
 |[],_::_,_::_,_,_=>rfl
 |_::_,[],_,h,_=>by cases h
 |_::_,_::_,[],_,h=>by cases h
 |x::a,y::b,z::c,h1,h2=>by
  rw[HT.jL]at h1 h2 ⊢;by_cases e1:x=y
  ·subst e1
   rw[if_pos rfl]at h1;by_cases e2:x=z
   ·rw[if_pos e2]at h2 ⊢
    exact uq a b c h1 h2
   ·rw[if_neg e2]at h2 ⊢
    exact h2
  ·rw[if_neg e1]at h1
   simp only[decide_eq_true_eq]at h1;by_cases e2:y=z
   ·subst e2
    rw[if_neg e1];simpa using h1
   ·rw[if_neg e2]at h2
    simp only[decide_eq_true_eq]at h2;rw[if_neg (by lia)];simp only[decide_eq_true_eq];lia
theorem zV:∀a b:List Int,HT.lexLt a b=false->HT.lexLt b a=false->a=b
 |[],[],_,_=>rfl
 |[],_::_,h,_=>by cases h
 |_::_,[],_,h=>by cases h
 |x::a,y::b,h1,h2=>by
  rw[HT.jL]at h1 h2;by_cases e:x=y
  ·subst e
   rw[if_pos rfl]at h1 h2;rw[zV a b h1 h2]
  ·rw[if_neg e]at h1
   rw[if_neg λ q=>e q.symm]at h2;simp only[decide_eq_false_iff_not]at h1 h2;lia
theorem aII(a b c:List Int)(h:HT.lexLt a c=true):HT.lexLt a b=true\/HT.lexLt b c=true:=by
 cases e1:HT.lexLt a b with
 |true=>exact .inl rfl
 |false=>
  right;cases e2:HT.lexLt b a with
  |true=>exact uq b a c e2 h
  |false=>rw[<-zV a b e1 e2];exact h
def aEb:PyProof.Rows.KeyOrd:=⟨List Int,HT.lexLt,aBz,uq,aII,zV⟩
inductive cz(h:Heap):List Value->List (List Int)->Prop where
 |nil:cz h [] []
 |cons {x:Addr} {o:Obj} {xs:Array Value} {k:Nat} {ns:List Int} {vs:List Value} {nss:List (List Int)} (ho:h.get? x=some o) (hc:o.cls= .type "tuple") (hd:o.data= .seq xs k) (hi:IntsAre xs.toList ns) (hne:ns≠[]) (r:cz h vs nss):cz h (.ref x::vs) (ns::nss)
theorem cz.mono(k:∀x o,h.get? x=some o->o.cls= .type "tuple"->h'.get? x=some o):∀{vs:List Value} {nss:List (List Int)},cz h vs nss->cz h' vs nss
 |_,_,.nil=>.nil
 |_,_,.cons ho hc hd hi hne r=>.cons (k _ _ ho hc) hc hd hi hne (cz.mono k r)
theorem cz.len:∀{vs:List Value} {nss:List (List Int)},cz h vs nss->vs.length=nss.length
 |_,_,.nil=>rfl
 |_,_,.cons _ _ _ _ _ r=>by rw[List.length_cons,List.length_cons,r.len]
theorem cz.at:∀{vs:List Value} {nss:List (List Int)} {i:Nat},cz h vs nss->i<vs.length->∃x o xs k,vs.getD i Value.none= .ref x/\h.get? x=some o/\o.cls= .type "tuple"/\o.data= .seq xs k/\IntsAre xs.toList (nss.getD i [])/\nss.getD i []≠[]
 |_,_,_,.nil,hi=>by simp at hi
 |_,_,0,.cons ho hc hd hi hne _,_=>⟨_,_,_,_,rfl,ho,hc,hd,hi,hne⟩
 |_,_,i+1,.cons _ _ _ _ _ r,hi=>by
  obtain⟨x,o,xs,k,q⟩:=cz.at (i:=i) r (by simpa using hi);exact⟨x,o,xs,k,by simpa using q⟩
theorem cz.firsts:∀{vs:List Value} {nss:List (List Int)},cz h vs nss->∃fs,PySem.W.KatTups h vs fs/\fs.length=vs.length/\∀f∈fs,∃n t,f=Value.int n t
 |_,_,.nil=>⟨[],.nil,rfl,λ f hf=>by simp at hf⟩
 |_,_,.cons (xs:=xs) ho hc hd hi hne r=>by
  obtain⟨fs,h1,h2,h3⟩:=cz.firsts r;obtain⟨l,rfl⟩:∃l:List Value,xs=l.toArray:=⟨xs.toList,by simp⟩
  rw[show l.toArray.toList=l by simp]at hi;cases hi with
  |nil=>exact absurd rfl hne
  |cons n t q=>
   rename_i l' ns';refine⟨.int n t::fs,.cons ho hc hd (by simp) h1,by simp[h2],λ f hf=>?_⟩;rcases List.mem_cons.mp hf with rfl|hf
   ·exact⟨n,t,rfl⟩
   ·exact h3 f hf
section
variable{prog:Program}{w:World}{A:Around}{E:Value->Shared->Prop}{s:Shared}
theorem aDW:∀{xs ys:List Value} {ns ms:List Int} (i:Nat),IntsAre xs ns->IntsAre ys ms->fin=decide (xs.length<ys.length)->Q (HT.lexLt ns ms) s->PySem.W.KatLex prog w A b fin Q (xs.zip ys) i s:=by
 intro xs ys ns ms i hx;induction hx generalizing ys ms i with
 |nil=>intro hy hf q;cases hy<;>(subst hf;exact q)
 |@cons x t xs ns r ih=>
  intro hy hf q;cases hy with
  |nil=>subst hf;exact q
  |@cons y u ys ms r'=>?_
  rw[List.zip_cons_cons];refine PySem.W.kat_cons (wpAny_eqBool_int ?_);rw[HT.jL]at q;by_cases e:x=y
  ·rw[if_pos e]at q
   rw[show(x==y)=true by simpa using e];exact PySem.W.kat_yes (ih (i+1) r' (by rw[hf];simp) q)
  ·rw[if_neg e]at q
   rw[show(x==y)=false by simpa using e];refine PySem.W.kat_no ?_;cases hb:(b&&i==0)with
   |true=>exact oneLt_int q
   |false=>exact PySem.W.kat_one _ _ (PyProof.Rows.lt_int q)
theorem aEh(hx:s.heap.get? x=some ox)(dx:ox.data= .seq xs n)(hy:s.heap.get? y=some oy)(dy:oy.data= .seq ys k)(hi:IntsAre xs.toList ns)(hj:IntsAre ys.toList ms)
  (q:Q (HT.lexLt ns ms) s):wpAny (model prog w) A (keyLt' (tuples' b) (.ref x) (.ref y)) Q E s:=
 PySem.W.kat_lt hx dx hy dy (aDW 0 hi hj (by simp) q)
def rn(vs:List Value)(p:Array Nat):Array Value:=(p.toList.map λ i=>vs.getD i Value.none).toArray
theorem aJT(h:vs.length<2):(vs.toArray.zip vs.toArray).map (·.2)=rn vs (List.range vs.length).toArray:=by
 cases vs with
 |nil=>simp[rn]
 |cons v t=>
  cases t with
  |nil=>simp[rn]
  |cons u t=>exact absurd h (Nat.not_lt.mpr (Nat.le_add_left 2 t.length))
theorem aEa(ho:s.heap.get? a=some (seqObj "list" vs.toArray c))(ht:cz s.heap vs nss)(h64:vs.length<64)
  (h:∀p:Array Nat,Pm vs.length p->Up (O:=aEb) (λ i=>nss.getD i []) p vs.length->P (.done (.ret .none)) {s with heap:=sortedHeap s.heap a vs (rn vs p)}):
  wpAny (model prog w) A (Builtin.«list.sort» ⟨[.ref a],[]⟩) P E s:=by
 have hlt:a<s.heap.objs.size:=Heap.lt_size ho;have hz:vs.length<=sizeLine:=by rw[sizeLine_eq];lia
 obtain⟨e1,ho1⟩:∃e1,(s.heap.update a (Obj.mapSeq λ _=>(#[]:Array Value))).get? a=some (seqObj "list" #[] e1):=⟨_,get?_update_seq ho λ _=>#[]⟩
 have keep:∀x o,s.heap.get? x=some o->o.cls= .type "tuple"->(((s.heap.update a (Obj.mapSeq λ _=>(#[]:Array Value))).push (seqObj "tuple" vs.toArray 0)).push (seqObj "list" #[] 0)).get? x=some o:=λ x o e q=>by
  have hxa:x≠a:=λ z=>by
   subst z;rw[ho]at e;cases e;exact absurd q (show¬(Value.type "list"=Value.type "tuple")by decide)
  refine Heap.get?_push_of_some _ (Heap.get?_push_of_some _ ?_);rw[Heap.get?_update_ne _ _ _ _ hxa];exact e
 have ho6:(((s.heap.update a (Obj.mapSeq λ _=>(#[]:Array Value))).push (seqObj "tuple" vs.toArray 0)).push (seqObj "list" #[] 0)).get? a=some (seqObj "list" #[] e1):=Heap.get?_push_of_some _ (Heap.get?_push_of_some _ ho1);have ht6:=ht.mono keep;rw[list_sort_plain];refine wpAny_bind (listItems_at ho rfl (wpAny_bind (listUpdate_at ho rfl ?_ (by rw[List.size_toArray];exact hz) (Nat.zero_le _))));refine wpAny_bind (seqEpoch_at ho1 rfl (wpAny_bind (wpAny_newTuple ?_ (by show vs.length<=_;exact hz))));refine wpAny_bind (wpAny_newList (wpAny_holding ?_) (Nat.zero_le _));show wpAny (model prog w) A _ P E {s with heap:=((s.heap.update a (Obj.mapSeq λ _=>(#[]:Array Value))).push (seqObj "tuple" vs.toArray 0)).push (seqObj "list" #[] 0)};dsimp only;have hsz:∀p:Array Nat,Pm vs.length p->(rn vs p).size=vs.length:=λ p a1=>by unfold rn;rw[List.size_toArray,List.length_map,Array.length_toList,a1.sz]
 by_cases h2:vs.toArray.size<2
 ·rw[if_pos h2,if_pos h2]
  refine wpAny_bind (wpAny_pure ?_);rw[StateT.run_pure];refine wpAny_bind (wpAny_pure ?_);have h2':vs.length<2:=by simpa using h2
  have a1:Pm vs.length (List.range vs.length).toArray:=Array.Perm.refl _;have a3:=aJT h2';dsimp only;refine wpAny_bind (seqEpoch_at ho6 rfl ?_);show wpAny (model prog w) A (Builtin.List.listUpdate (.ref a) (λ _=>(vs.toArray.zip vs.toArray).map (·.2))>>=_) P E _;rw[a3];refine wpAny_bind (listUpdate_at ho6 rfl ?_ (Nat.zero_le _) (by show(rn vs _).size<=_;rw[hsz _ a1];lia));simp only[bne_self_eq_false,Bool.false_eq_true,if_false];exact wpAny_pure (h _ a1 λ i j hij hj=>by rw[show i=j by lia];exact aBz _)
 ·rw[if_neg h2,if_neg h2]
  have h2':2<=vs.length:=Nat.le_of_not_lt (show¬vs.length<2 by simpa using h2);obtain⟨fs,f1,f2,f3⟩:=ht6.firsts;refine wpAny_bind (PySem.W.kat_kind (T:=.type "int") f1 (by lia) (λ v hv=>?_) (by decide) ?_)
  ·obtain⟨n,t,rfl⟩:=f3 v hv
   exact PySem.W.Looks.now
  rw[show(Value.type "int" !=Value.type "tuple")=true by decide];refine wpAny_bind (wpAny_mono (PySem.W.kat_run (κ:=tuples' true) (ks:=vs) (vs:=vs) (Q:=λ st s'=>s'={s with heap:=((s.heap.update a (Obj.mapSeq λ _=>(#[]:Array Value))).push (seqObj "tuple" vs.toArray 0)).push (seqObj "list" #[] 0)}/\∃p:Array Nat,Pm vs.length p/\Up (O:=aEb) (λ i=>nss.getD i []) p vs.length/\(arrOf st).map (·.2)=rn vs p/\failedOf st=none)
   (G:=λ p s'=>s'={s with heap:=((s.heap.update a (Obj.mapSeq λ _=>(#[]:Array Value))).push (seqObj "tuple" vs.toArray 0)).push (seqObj "list" #[] 0)}/\Pm vs.length p/\Up (O:=aEb) (λ i=>nss.getD i []) p vs.length)
   rfl h2' h64 (λ p st s' _ b2 b3 b4=>⟨b4.1,p,b4.2.1,b4.2.2,PySem.W.kat_snds rfl b2,b3⟩) ?_) (λ r s' hr=>?_) λ _ _ e=>e)
  ·refine aC3 (O:=aEb) (kz:=λ i=>nss.getD i []) (n:=vs.length) (I:=λ s'=>s'={s with heap:=((s.heap.update a (Obj.mapSeq λ _=>(#[]:Array Value))).push (seqObj "tuple" vs.toArray 0)).push (seqObj "list" #[] 0)}) (λ i j C s' hI hi hj hC=>?_) _ _ rfl (aJV (by lia) λ p a1 a2 s' hs'=>⟨hs',a1,a2⟩)
   subst hI;unfold PySem.W.kas_ask;obtain⟨x,ox,xs,kx,x1,x2,_,x4,x5,_⟩:=ht6.at hi;obtain⟨y,oy,ys,ky,y1,y2,_,y4,y5,_⟩:=ht6.at hj;rw[x1,y1];exact aEh x2 x4 y2 y4 x5 y5 (hC _ rfl)
  ·obtain⟨⟨⟩,st⟩:=r
   obtain⟨e,p,b1,b2,b3,b4⟩:=hr;subst e;refine wpAny_bind (seqEpoch_at ho6 rfl ?_);rw[b3,b4];refine wpAny_bind (listUpdate_at ho6 rfl ?_ (Nat.zero_le _) (by show(rn vs p).size<=_;rw[hsz p b1];lia));simp only[bne_self_eq_false,Bool.false_eq_true,if_false];exact wpAny_pure (h p b1 b2)
end
theorem sub_len[BEq α][LawfulBEq α]:∀{l l':List α},l.Nodup->(∀x∈l,x∈l')->l.length<=l'.length
 |[],_,_,_=>Nat.zero_le _
 |x::l,l',nd,h=>by
  have hx:x∈l':=h x List.mem_cons_self;have ih:=sub_len (l:=l) (l':=l'.erase x) (List.nodup_cons.mp nd).2 λ y hy=>(List.mem_erase_of_ne λ e=>by subst e;exact(List.nodup_cons.mp nd).1 hy).mpr (h y (List.mem_cons_of_mem _ hy))
  rw[List.length_erase_of_mem hx]at ih
  have:0<l'.length:=List.length_pos_of_mem hx
  rw[List.length_cons];lia
def Ris(xs:Array Nat):Prop:=∀i j,i<j->j<xs.size->xs.getD i 0<xs.getD j 0
theorem aCV(hr:Ris xs):∀(f lo hi:Nat),lo<=hi->hi<=xs.size->hi-lo<=f->(∀i,i<lo->xs.getD i 0<j)->(∀i,hi<=i->i<xs.size->j<=xs.getD i 0)->
  SetTable.below.go xs j f lo hi<=xs.size/\(∀i,i<SetTable.below.go xs j f lo hi->xs.getD i 0<j)/\∀i,SetTable.below.go xs j f lo hi<=i->i<xs.size->j<=xs.getD i 0
 |0,lo,hi,h1,h2,h3,h4,h5=>by
  have e:lo=hi:=by lia
  subst e;exact⟨h2,h4,h5⟩
 |f+1,lo,hi,h1,h2,h3,h4,h5=>by
  unfold SetTable.below.go;by_cases hl:lo<hi
  ·rw[if_pos hl]
   dsimp only;have hm:(lo+hi) / 2<xs.size:=by lia
   have e:xs.getD ((lo+hi) / 2) j=xs.getD ((lo+hi) / 2) 0:=by simp[Array.getD,hm]
   rw[e];by_cases hc:xs.getD ((lo+hi) / 2) 0<j
   ·rw[if_pos hc]
    refine aCV hr f _ hi (by lia) h2 (by lia) (λ i hi'=>?_) h5;by_cases q:i=(lo+hi) / 2
    ·rw[q];exact hc
    ·exact Nat.lt_trans (hr i ((lo+hi) / 2) (by lia) hm) hc
   ·rw[if_neg hc]
    refine aCV hr f lo _ (by lia) (by lia) (by lia) h4 λ i q1 q2=>?_
    by_cases q:i=(lo+hi) / 2
    ·rw[q];lia
    ·have:=hr ((lo+hi) / 2) i (by lia) q2
     lia
  ·rw[if_neg hl]
   have e:lo=hi:=by lia
   subst e;exact⟨h2,h4,h5⟩
theorem vQ(hr:Ris xs)(j:Nat):SetTable.below xs j<=xs.size/\(∀i,i<SetTable.below xs j->xs.getD i 0<j)/\∀i,SetTable.below xs j<=i->i<xs.size->j<=xs.getD i 0:=
 aCV hr xs.size 0 xs.size (Nat.zero_le _) (Nat.le_refl _) (by lia) (λ i h=>by lia) λ i h1 h2=>by lia
structure gq(t:SetTable)(n:Nat):Prop where
 dum:t.dummies=#[]
 siz:t.place.size=n
 ris:Ris t.place
 top:∀i,i<n->t.place.getD i 0<=t.mask
 msk:t.mask=7/\n<5\/t.mask=31/\n<19\/t.mask=127/\n<77
 pla:t.plain=true
theorem gq.fresh(led:Bool):gq (SetTable.fresh 0 0 led) 0:=⟨rfl,rfl,λ i j _ h=>by simp[SetTable.fresh]at h,λ i h=>by lia,.inl ⟨rfl,by lia⟩,rfl⟩
theorem gq.few(h:gq t n):n<t.mask:=by
 rcases h.msk with ⟨e,l⟩|⟨e,l⟩|⟨e,l⟩<;>lia
theorem gq.fill(h:gq t n):t.fill=n:=by unfold SetTable.fill;rw[h.dum,h.siz];rfl
theorem gq.fits(h:gq t n):t.fits n=true:=by
 unfold SetTable.fits;rw[h.fill,h.siz]
 have:=h.few
 simp;lia
theorem aB6(h:gq t n)(j:Nat):t.slot j= .empty\/∃i,i<n/\t.slot j= .live i/\t.place.getD i 0=j:=by
 unfold SetTable.slot;dsimp only;by_cases e:(t.place[SetTable.below t.place j]? ==some j)=true
 ·rw[if_pos e]
  have e':=beq_iff_eq.mp e;obtain⟨h1,h2⟩:=Array.getElem?_eq_some_iff.mp e';exact .inr ⟨_,by rw[<-h.siz];exact h1,rfl,by simp[Array.getD,h1,h2]⟩
 ·rw[if_neg e]
  have:SetTable.has t.dummies j=false:=by rw[h.dum];unfold SetTable.has;simp
  rw[this];exact .inl (by simp)
theorem aHN(h:gq t n)(e:t.slot j= .empty):∀i,i<n->t.place.getD i 0≠j:=by
 intro i hi q;obtain⟨b1,b2,b3⟩:=vQ h.ris j;have hb:SetTable.below t.place j=i:=by
  rcases Nat.lt_trichotomy (SetTable.below t.place j) i with z|z|z
  ·have z1:=b3 _ (Nat.le_refl _) (by rw[h.siz];lia)
   have z2:=h.ris _ i z (by rw[h.siz];exact hi);lia
  ·exact z
  ·have:=b2 i z
   lia
 have hi':i<t.place.size:=by rw[h.siz];exact hi
 have e2:t.place[i]? =some j:=by rw[Array.getElem?_eq_some_iff];exact⟨hi',by rw[<-q];simp[Array.getD,hi']⟩
 unfold SetTable.slot at e;dsimp only at e;rw[hb,e2]at e;simp at e
def ph(mask:Nat):Nat->Nat×Nat->Nat×Nat
 |0,st=>st
 |k+1,st=>ph mask k (SetTable.leap mask st.1 st.2)
theorem aDK(mask:Nat):∀(k:Nat) (st:Nat×Nat),(ph mask k st).2=st.2 / 32^k
 |0,st=>by simp[ph]
 |k+1,st=>by
  show(ph mask k (SetTable.leap mask st.1 st.2)).2=_
  rw[aDK mask k];show st.2 / 32 / 32^k=_;rw[Nat.div_div_eq_div_mul,Nat.pow_succ,Nat.mul_comm]
theorem aDN(mask:Nat):∀(j k:Nat) (st:Nat×Nat),ph mask (j+k) st=ph mask k (ph mask j st)
 |0,k,st=>by rw[Nat.zero_add];rfl
 |j+1,k,st=>by
  rw[show j+1+k=(j+k)+1 by lia];exact aDN mask j k _
def orb(M:Nat):Nat->Nat->Nat
 |0,i=>i
 |k+1,i=>orb M k ((i*5+1)%M)
theorem yS(M:Nat):∀(j k i:Nat),orb M (j+k) i=orb M k (orb M j i)
 |0,k,i=>by rw[Nat.zero_add];rfl
 |j+1,k,i=>by
  rw[show j+1+k=(j+k)+1 by lia];exact yS M j k _
theorem aDL(mask:Nat):∀(k i:Nat),ph mask k (i,0)=(orb (mask+1) k i,0)
 |0,i=>rfl
 |k+1,i=>by
  show ph mask k (SetTable.leap mask i 0)=_
  have:SetTable.leap mask i 0=((i*5+1)%(mask+1),0):=by simp[SetTable.leap]
  rw[this];exact aDL mask k _
theorem aGM:∀M∈[8,32,128],(∀t∈List.range M,∃k∈List.range M,orb M k 0=t)/\orb M M 0=0:=by decide+kernel
theorem aKI(hm:mask=7\/mask=31\/mask=127)(hi:i<=mask)(ht:t<=mask):∃k,k<=mask/\orb (mask+1) k i=t:=by
 have hM:mask+1∈[8,32,128]:=by rcases hm with e|e|e<;>subst e<;>decide
 obtain⟨h1,h2⟩:=aGM _ hM;obtain⟨a,ha,ea⟩:=h1 i (by simp;lia);obtain⟨b,hb,eb⟩:=h1 t (by simp;lia);simp only[List.mem_range]at ha hb;by_cases hab:a<=b
 ·refine⟨b-a,by lia,?_⟩
  rw[<-ea,<-yS,show a+(b-a)=b by lia,eb]
 ·refine⟨mask+1-a+b,by lia,?_⟩
  rw[<-ea,<-yS,show a+(mask+1-a+b)=(mask+1)+b by lia,yS,h2,eb]
theorem aLF(h:Int):SetTable.bits h<2^64:=by
 unfold SetTable.bits;have h1:=Int.emod_nonneg h (show(2^64:Int)≠0 by decide);have h2:=Int.emod_lt_of_pos h (show(0:Int)<2^64 by decide);lia
theorem aDM(hm:mask=7\/mask=31\/mask=127)(h:Int)(ht:t<=mask)(i₀:Nat):∃k,k<mask+15/\(ph mask k (i₀,SetTable.bits h)).1=t:=by
 have e1:(ph mask 13 (i₀,SetTable.bits h)).2=0:=by
  rw[aDK]
  have:=aLF h
  exact Nat.div_eq_of_lt (Nat.lt_trans this (by decide))
 have e2:(ph mask 13 (i₀,SetTable.bits h)).1<=mask:=by
  show(ph mask 12 (SetTable.leap mask i₀ (SetTable.bits h))).1<=mask
  have go:∀k (st:Nat×Nat),st.1<=mask->(ph mask k st).1<=mask:=by
   intro k;induction k with
   |zero=>intro st q;exact q
   |succ k ih=>
    intro st q;refine ih _ ?_
    show(st.1*5+1+st.2 / 32)%(mask+1)<=mask
    exact Nat.le_of_lt_succ (Nat.mod_lt _ (Nat.succ_pos _))
  refine go 12 _ ?_
  show(i₀*5+1+SetTable.bits h / 32)%(mask+1)<=mask
  exact Nat.le_of_lt_succ (Nat.mod_lt _ (Nat.succ_pos _))
 obtain⟨k,hk,ek⟩:=aKI hm e2 ht;refine⟨13+k,by lia,?_⟩;rw[aDN];have e3:ph mask 13 (i₀,SetTable.bits h)=((ph mask 13 (i₀,SetTable.bits h)).1,0):=by rw[<-e1]
 rw[e3,aDL];exact ek
theorem aAw(hi:i<=mask):i<=SetTable.runEnd mask i/\SetTable.runEnd mask i<=mask/\SetTable.runEnd mask i<=i+9:=by
 unfold SetTable.runEnd;split<;>lia
section
variable{t:SetTable}{n:Nat}{hashAt:Nat->Int}{h:Int}
abbrev aFP(t:SetTable)(i pert:Nat):SetTable.Probe:={j:=i,more:=SetTable.runEnd t.mask i-i,i:=i,perturb:=pert,dummy:=none}
theorem aIh(fuel:Nat)(p:SetTable.Probe):SetTable.probe.go t hashAt h (fuel+1) p=(match t.slot p.j with
  | .empty=>some (.empty p.j p.dummy)
  | .dummy=>SetTable.probe.go t hashAt h fuel (t.advance {p with dummy:=some p.j})
  | .live i=>if hashAt i==h then some (.candidate p.j i (t.advance p))else SetTable.probe.go t hashAt h fuel (t.advance p)):=rfl
theorem aIg(T:gq t n)(hh:∀i,i<n->hashAt i≠h):∀(m fuel:Nat) (p:SetTable.Probe),p.more=m->p.dummy=none->
  (∃j,p.j<=j/\j<=p.j+m/\t.slot j= .empty/\SetTable.probe.go t hashAt h (fuel+m+1) p=some (.empty j none))\/
  (t.slot p.j≠.empty/\SetTable.probe.go t hashAt h (fuel+m+1) p=SetTable.probe.go t hashAt h fuel (aFP t (SetTable.leap t.mask p.i p.perturb).1 (SetTable.leap t.mask p.i p.perturb).2))
 |0,fuel,p,hm,hd=>by
  rw[show fuel+0+1=fuel+1 from rfl,aIh];rcases aB6 T p.j with e|⟨i,hi,e,_⟩
  ·rw[e]
   exact .inl ⟨p.j,Nat.le_refl _,Nat.le_refl _,e,by rw[hd]⟩
  ·rw[e]
   right;refine⟨by simp,?_⟩;dsimp only;rw[if_neg (by simpa using hh i hi)];congr 1;unfold SetTable.advance;rw[if_neg (by lia)];simp[aFP,hd]
 |m+1,fuel,p,hm,hd=>by
  rw[aIh];rcases aB6 T p.j with e|⟨i,hi,e,_⟩
  ·rw[e]
   exact .inl ⟨p.j,Nat.le_refl _,by lia,e,by rw[hd]⟩
  ·rw[e]
   dsimp only;rw[if_neg (by simpa using hh i hi)];have ha:t.advance p={p with j:=p.j+1,more:=p.more-1}:=by
    unfold SetTable.advance;rw[if_pos (by lia)]
   rw[ha];rcases aIg T hh m fuel {p with j:=p.j+1,more:=p.more-1} (by show p.more-1=m;lia) hd with ⟨j,q1,q2,q3,q4⟩|⟨q1,q2⟩
   ·exact .inl ⟨j,by show p.j<=j;have:p.j+1<=j:=q1;lia,by have:j<=p.j+1+m:=q2;lia,q3,q4⟩
   ·exact .inr ⟨by simp,q2⟩
theorem aFk(T:gq t n)(hh:∀i,i<n->hashAt i≠h):∀(N fuel i pert:Nat),i<=t.mask->10*N<=fuel->
  (∃j,j<=t.mask/\t.slot j= .empty/\SetTable.probe.go t hashAt h fuel (aFP t i pert)=some (.empty j none))\/∀k,k<N->t.slot (ph t.mask k (i,pert)).1≠.empty
 |0,fuel,i,pert,hi,hf=>.inr λ k hk=>by lia
 |N+1,fuel,i,pert,hi,hf=>by
  obtain⟨r1,r2,r3⟩:=aAw hi;obtain⟨f',rfl⟩:∃f',fuel=f'+(SetTable.runEnd t.mask i-i)+1:=⟨fuel-(SetTable.runEnd t.mask i-i)-1,by lia⟩
  rcases aIg T hh (SetTable.runEnd t.mask i-i) f' (aFP t i pert) rfl rfl with ⟨j,q1,q2,q3,q4⟩|⟨q1,q2⟩
  ·exact .inl ⟨j,by have:j<=i+(SetTable.runEnd t.mask i-i):=q2;lia,q3,q4⟩
  ·have hl:(SetTable.leap t.mask i pert).1<=t.mask:=Nat.le_of_lt_succ (Nat.mod_lt _ (Nat.succ_pos _))
   rcases aFk T hh N f' _ (SetTable.leap t.mask i pert).2 hl (by lia)with ⟨j,s1,s2,s3⟩|s
   ·exact .inl ⟨j,s1,s2,q2.trans s3⟩
   ·right
    intro k hk;cases k with
    |zero=>exact q1
    |succ k=>exact s k (by lia)
theorem gq.mask3(T:gq t n):t.mask=7\/t.mask=31\/t.mask=127:=by
 rcases T.msk with ⟨e,_⟩|⟨e,_⟩|⟨e,_⟩
 ·exact .inl e
 ·exact .inr (.inl e)
 ·exact .inr (.inr e)
theorem aEV(T:gq t n)(hh:∀i,i<n->hashAt i≠h):∃j,j<=t.mask/\t.slot j= .empty/\t.probe hashAt h (t.probeStart h)=some (.empty j none):=by
 have hs:SetTable.bits h%(t.mask+1)<=t.mask:=Nat.le_of_lt_succ (Nat.mod_lt _ (Nat.succ_pos _));rcases aFk T hh (t.mask+15) (10*SetTable.turns t.mask) _ (SetTable.bits h) hs (by unfold SetTable.turns;lia)with z|z
 ·exact z
 ·exfalso
  have hall:∀x∈List.range (t.mask+1),x∈t.place.toList:=by
   intro x hx;simp only[List.mem_range]at hx;obtain⟨k,hk,ek⟩:=aDM T.mask3 h (t:=x) (by lia) (SetTable.bits h%(t.mask+1))
   have:=z k hk
   rw[ek]at this;rcases aB6 T x with e|⟨i,hi,_,e⟩
   ·exact absurd e this
   ·rw[<-e]
    have hi':i<t.place.size:=by rw[T.siz];exact hi
    rw[show t.place.getD i 0=t.place[i]by simp[Array.getD,hi']];exact Array.getElem_mem_toList hi'
  have:=sub_len List.nodup_range hall
  have h2:=T.few;rw[List.length_range,Array.length_toList,T.siz]at this;lia
end
theorem yX(xs:Array α)(p:Nat)(x d:α)(hp:p<=xs.size)(i:Nat):(SetTable.insertAt xs p x).getD i d=if i<p then xs.getD i d else if i=p then x else xs.getD (i-1) d:=by
 have e:∀(ys:Array α) i,ys.getD i d=(ys.toList[i]?).getD d:=λ ys i=>by rw[Array.getD_eq_getD_getElem?,Array.getElem?_toList]
 rw[e,e,e,SetTable.toList_insertAt];have hl:p<=xs.toList.length:=by simpa using hp
 by_cases h1:i<p
 ·rw[if_pos h1,List.getElem?_append_left (by rw[List.length_take];lia),List.getElem?_take,if_pos h1]
 ·rw[if_neg h1,List.getElem?_append_right (by rw[List.length_take];lia),List.length_take,Nat.min_eq_left hl]
  by_cases h2:i=p
  ·rw[if_pos h2,h2,Nat.sub_self]
   rfl
  ·rw[if_neg h2,show i-p=(i-p-1)+1 by lia,List.getElem?_cons_succ,List.getElem?_drop]
   congr 2;lia
theorem zg(xs:Array α)(p:Nat)(x:α):(SetTable.insertAt xs p x).size=xs.size+1:=by
 rw[<-Array.length_toList,(SetTable.insertAt_perm xs p x).length_eq,Array.toList_push];simp
theorem wj{t:SetTable}(hf:t.fill=n):t.tooFull=decide (t.mask*3<=n*5):=by unfold SetTable.tooFull;rw[hf]
structure tD(t:SetTable)(n:Nat):Prop where
 dum:t.dummies=#[]
 siz:t.place.size=n
 ris:Ris t.place
 top:∀i,i<n->t.place.getD i 0<=t.mask
 msk:t.mask=7/\n<=5\/t.mask=31/\n<=19\/t.mask=127/\n<77
 pla:t.plain=true
theorem tD.fill(h:tD t n):t.fill=n:=by unfold SetTable.fill;rw[h.dum,h.siz];rfl
theorem tD.fits(h:tD t n):t.fits n=true:=by
 unfold SetTable.fits;rw[h.fill,h.siz]
 have:=h.msk
 simp;lia
theorem aMP(T:gq t n)(h64:n<63)(hj:j<=t.mask)(he:t.slot j= .empty):tD (t.put j).1 (n+1)/\(t.put j).2=SetTable.below t.place j/\(t.put j).2<=n/\(t.put j).1.mask=t.mask/\(t.put j).1.led=t.led:=by
 have hno:=aHN T he;obtain⟨b1,b2,b3⟩:=vQ T.ris j;have hsz:=T.siz;have hg:=yX t.place (SetTable.below t.place j) j 0 b1;refine⟨⟨?_,?_,?_,?_,?_,T.pla⟩,rfl,by rw[<-hsz];exact b1,rfl,rfl⟩
 ·show(if SetTable.has t.dummies j then SetTable.eraseAt t.dummies (SetTable.below t.dummies j)else t.dummies)=#[]
  rw[T.dum]
  have:SetTable.has #[] j=false:=by unfold SetTable.has;simp
  rw[this];rfl
 ·show(SetTable.insertAt t.place _ j).size=n+1
  rw[zg,hsz]
 ·intro a b hab hb
  have hb':b<n+1:=by
   have:b<(SetTable.insertAt t.place (SetTable.below t.place j) j).size:=hb
   rw[zg,hsz]at this;exact this
  show(SetTable.insertAt t.place (SetTable.below t.place j) j).getD a 0<(SetTable.insertAt t.place (SetTable.below t.place j) j).getD b 0
  rw[hg,hg];by_cases a1:a<SetTable.below t.place j
  ·rw[if_pos a1]
   by_cases c1:b<SetTable.below t.place j
   ·rw[if_pos c1];exact T.ris a b hab (by lia)
   ·rw[if_neg c1]
    by_cases c2:b=SetTable.below t.place j
    ·rw[if_pos c2];exact b2 a a1
    ·rw[if_neg c2]
     exact T.ris a (b-1) (by lia) (by lia)
  ·rw[if_neg a1,if_neg (show¬b<SetTable.below t.place j by lia),if_neg (show¬b=SetTable.below t.place j by lia)]
   by_cases a2:a=SetTable.below t.place j
   ·rw[if_pos a2]
    have q1:=b3 (b-1) (by lia) (by lia);have q2:=hno (b-1) (by lia);lia
   ·rw[if_neg a2]
    exact T.ris (a-1) (b-1) (by lia) (by lia)
 ·intro i hi
  show(SetTable.insertAt t.place (SetTable.below t.place j) j).getD i 0<=t.mask
  rw[hg];split
  ·exact T.top i (by lia)
  ·split
   ·exact hj
   ·exact T.top (i-1) (by lia)
 ·have:=T.msk
  show t.mask=7/\n+1<=5\/t.mask=31/\n+1<=19\/t.mask=127/\n+1<77;lia
theorem tD.still{t:SetTable}(h:tD t n)(hf:t.tooFull=false):gq t n:=by
 rw[wj h.fill]at hf;simp only[decide_eq_false_iff_not]at hf;refine⟨h.dum,h.siz,h.ris,h.top,?_,h.pla⟩;rcases h.msk with ⟨e,l⟩|⟨e,l⟩|⟨e,l⟩<;>rw[e]at hf
 ·exact .inl ⟨e,by lia⟩
 ·exact .inr (.inl ⟨e,by lia⟩)
 ·exact .inr (.inr ⟨e,by lia⟩)
theorem tD.full{t:SetTable}(h:tD t n)(h64:n<=63)(hf:t.tooFull=true):n=5\/n=19:=by
 rw[wj h.fill]at hf;simp only[decide_eq_true_eq]at hf
 have:=h.msk
 lia
def heldBy(owner:Array (Option Nat)):List Nat:=owner.toList.filterMap id
theorem zu:∀(l:List (Option Nat)) (j x:Nat),l[j]? =some none->((l.set j (some x)).filterMap id).Perm (x::l.filterMap id)
 |[],j,x,h=>by simp at h
 |a::l,0,x,h=>by
  simp at h;subst h;exact List.Perm.refl _
 |none::l,j+1,x,h=>by
  have ih:=zu l j x (by simpa using h);simpa using ih
 |some a::l,j+1,x,h=>by
  have ih:=zu l j x (by simpa using h)
  have:(((some a::l).set (j+1) (some x)).filterMap id).Perm (a::x::l.filterMap id):=by
   simpa using ih.cons a
  exact this.trans (List.Perm.swap _ _ _)
theorem aBG:∀(l:List (Option Nat)),(∀j,j<l.length->∃x,l[j]? =some (some x))->(l.filterMap id).length=l.length
 |[],_=>rfl
 |a::l,h=>by
  obtain⟨x,e⟩:=h 0 (by simp);have ex:a=some x:=by simpa using e
  subst ex;have ih:=aBG l λ j hj=>by simpa using h (j+1) (by simpa using hj)
  simp[ih]
theorem aFm(ho:owner.size=mask+1):∀(N i pert:Nat),i<=mask->
  (∃j,owner.toList[j]? =some none/\SetTable.layClean.free mask owner N i pert=some j)\/∀k,k<N->∃x,owner.toList[(ph mask k (i,pert)).1]? =some (some x)
 |0,i,pert,hi=>.inr λ k hk=>by lia
 |N+1,i,pert,hi=>by
  obtain⟨r1,r2,r3⟩:=aAw hi;have hone:SetTable.layClean.free mask owner (N+1) i pert=(match (List.range (SetTable.runEnd mask i+1-i)).find? λ k=>(owner.getD (i+k) (some 0)).isNone with
   |some k=>some (i+k)
   |none=>SetTable.layClean.free mask owner N (SetTable.leap mask i pert).1 (SetTable.leap mask i pert).2):=rfl
  rw[hone];cases hf:(List.range (SetTable.runEnd mask i+1-i)).find? λ k=>(owner.getD (i+k) (some 0)).isNone with
  |some k=>
   left;have h1:=List.mem_of_find?_eq_some hf;have h2:=List.find?_some hf;simp only[List.mem_range]at h1;have hlt:i+k<owner.size:=by lia
   refine⟨i+k,?_,rfl⟩;have e:owner.getD (i+k) (some 0)=owner[i+k]:=by simp[Array.getD,hlt]
   rw[e]at h2;rw[Array.getElem?_toList,Array.getElem?_eq_some_iff];exact⟨hlt,by simpa using h2⟩
  |none=>
   have h0:=List.find?_eq_none.mp hf 0 (by simp;lia);have hlt:i<owner.size:=by lia
   have e:owner.getD (i+0) (some 0)=owner[i]:=by simp[Array.getD,hlt]
   rw[e]at h0;have hl:(SetTable.leap mask i pert).1<=mask:=Nat.le_of_lt_succ (Nat.mod_lt _ (Nat.succ_pos _));rcases aFm ho N _ (SetTable.leap mask i pert).2 hl with ⟨j,s1,s2⟩|s
   ·exact .inl ⟨j,s1,s2⟩
   ·right
    intro k hk;cases k with
    |zero=>
     show∃x,owner.toList[i]? =some (some x)
     rw[Array.getElem?_toList];cases q:owner[i]with
     |none=>rw[q]at h0;simp at h0
     |some x=>exact⟨x,by rw[Array.getElem?_eq_some_iff];exact⟨hlt,q⟩⟩
    |succ k=>exact s k (by lia)
theorem aG7(hm:mask=7\/mask=31\/mask=127)(ho:owner.size=mask+1)(hfew:(heldBy owner).length<mask+1)(h:Int):
  ∃j,owner.toList[j]? =some none/\SetTable.layClean.free mask owner (SetTable.turns mask) (SetTable.bits h%(mask+1)) (SetTable.bits h)=some j:=by
 rcases aFm ho (SetTable.turns mask) _ (SetTable.bits h) (Nat.le_of_lt_succ (Nat.mod_lt (SetTable.bits h) (Nat.succ_pos mask)))with z|z
 ·exact z
 ·exfalso
  have:=aBG owner.toList λ j hj=>by
   rw[Array.length_toList,ho]at hj;obtain⟨k,hk,ek⟩:=aDM hm h (t:=j) (by lia) (SetTable.bits h%(mask+1));obtain⟨x,e⟩:=z k (by unfold SetTable.turns;lia);rw[ek]at e;exact⟨x,e⟩
  unfold heldBy at hfew;rw[this,Array.length_toList]at hfew;lia
def yU(mask:Nat)(acc:Option (Array (Option Nat)×Nat))(h:Int):Option (Array (Option Nat)×Nat):=do
 let(owner,k) <-acc
 let j <-SetTable.layClean.free mask owner (SetTable.turns mask) (SetTable.bits h%(mask+1)) (SetTable.bits h)
 pure (owner.setIfInBounds j (some k),k+1)
theorem aDQ(hm:mask=7\/mask=31\/mask=127):∀(hs:List Int) (owner:Array (Option Nat)) (k:Nat),owner.size=mask+1->(heldBy owner).Perm (List.range k)->k+hs.length<=mask->
  ∃owner',hs.foldl (yU mask) (some (owner,k))=some (owner',k+hs.length)/\owner'.size=mask+1/\(heldBy owner').Perm (List.range (k+hs.length))
 |[],owner,k,ho,hp,hl=>⟨owner,rfl,ho,hp⟩
 |h::hs,owner,k,ho,hp,hl=>by
  rw[List.length_cons]at hl;obtain⟨j,e1,e2⟩:=aG7 hm ho (by rw[hp.length_eq,List.length_range];lia) h;have hst:yU mask (some (owner,k)) h=some (owner.setIfInBounds j (some k),k+1):=by
   unfold yU;simp[e2]
  rw[List.foldl_cons,hst];obtain⟨o',f1,f2,f3⟩:=aDQ hm hs (owner.setIfInBounds j (some k)) (k+1) (by simpa using ho) (by
   unfold heldBy;rw[Array.toList_setIfInBounds];refine(zu owner.toList j k e1).trans ?_;rw[List.range_succ];exact(List.Perm.cons k hp).trans (List.perm_append_singleton k _).symm) (by lia)
  refine⟨o',?_,f2,?_⟩
  ·rw[f1,List.length_cons,show k+1+hs.length=k+(hs.length+1)by lia]
  ·rw[List.length_cons,show k+(hs.length+1)=k+1+hs.length by lia]
   exact f3
theorem aIe(m:Nat):heldBy (Array.replicate m none)=[]:=by
 unfold heldBy;rw[Array.toList_replicate];induction m with
 |zero=>rfl
 |succ m ih=>rw[List.replicate_succ];simpa using ih
theorem aDR(hm:mask=7\/mask=31\/mask=127)(hs:Array Int)(hl:hs.size<=mask):∃owner,SetTable.layClean mask hs=some owner/\owner.size=mask+1/\(heldBy owner).Perm (List.range hs.size):=by
 obtain⟨o',f1,f2,f3⟩:=aDQ hm hs.toList (Array.replicate (mask+1) none) 0 (by simp) (by rw[aIe];exact List.Perm.refl _) (by simpa using hl);refine⟨o',?_,f2,by simpa using f3⟩;have e:SetTable.layClean mask hs=(hs.foldl (yU mask) (some (Array.replicate (mask+1) none,0))).map (·.1):=rfl;rw[e,<-Array.foldl_toList,f1];rfl
def nq(owner:Array (Option Nat))(m:Nat):List (Nat×Nat):=(List.range m).filterMap λ j=>(owner.getD j none).map (j,·)
theorem aDI:∀(l:List (Option Nat)) (b:Nat) (f:Nat->Option Nat),(∀i,i<l.length->f (b+i)=(l[i]?).getD none)->
  ((List.range' b l.length).filterMap λ j=>(f j).map (j,·)).map (·.2)=l.filterMap id
 |[],_,_,_=>rfl
 |a::l,b,f,h=>by
  have h0:=h 0 (by simp);simp at h0;have ih:=aDI l (b+1) f λ i hi=>by
   have:=h (i+1) (by simpa using hi)
   rw[show b+(i+1)=b+1+i by lia]at this;simpa using this
  rw[List.length_cons,List.range'_succ,List.filterMap_cons,h0];cases a with
  |none=>simpa using ih
  |some x=>simpa using ih
theorem aE9(owner:Array (Option Nat)):(nq owner owner.size).map (·.2)=heldBy owner:=by
 have:=aDI owner.toList 0 (λ j=>owner.getD j none) λ i hi=>by
  rw[Nat.zero_add,Array.getD_eq_getD_getElem?,Array.getElem?_toList]
 unfold nq heldBy;rw[List.range_eq_range',<-this,Array.length_toList]
theorem aDJ(f:Nat->Option Nat):∀(m b:Nat),(((List.range' b m).filterMap λ j=>(f j).map (j,·)).map (·.1)).Pairwise (·< ·)/\∀x∈((List.range' b m).filterMap λ j=>(f j).map (j,·)).map (·.1),b<=x/\x<b+m
 |0,b=>⟨.nil,λ x hx=>by simp at hx⟩
 |m+1,b=>by
  obtain⟨ih1,ih2⟩:=aDJ f m (b+1);rw[List.range'_succ,List.filterMap_cons];cases hf:f b with
  |none=>
   simp only[Option.map_none];exact⟨ih1,λ x hx=>by have:=ih2 x hx;lia⟩
  |some y=>
   simp only[Option.map_some,List.map_cons];refine⟨List.pairwise_cons.mpr ⟨λ x hx=>by have:=ih2 x hx;lia,ih1⟩,λ x hx=>?_⟩;rcases List.mem_cons.mp hx with e|hx
   ·lia
   ·have:=ih2 x hx
    lia
theorem aMK{l:List Nat}(h:l.Pairwise (·< ·)):Ris l.toArray:=by
 intro i j hij hj;have hj':j<l.length:=by simpa using hj
 have e:∀k,k<l.length->l.toArray.getD k 0=l[k]!:=λ k hk=>by simp[Array.getD,hk]
 have:=List.pairwise_iff_getElem.mp h i j (by lia) hj' hij
 simp[Array.getD,hj',show i<l.length by lia];exact this
theorem aH8{t:SetTable}(hp:t.plain=true)(hn:n=5\/n=19)(hs:Array Int)(hl:hs.size=n):
  ∃t' order,t.relaid hs (SetTable.grown n)=some (t',order)/\gq t' n/\t'.led=t.led/\order.toList.Perm (List.range n):=by
 have hm:∃mask,SetTable.sizeAbove (SetTable.grown n)-1=mask/\(mask=31/\n=5\/mask=127/\n=19):=by
  rcases hn with e|e<;>subst e
  ·exact⟨31,by decide,.inl ⟨rfl,rfl⟩⟩
  ·exact⟨127,by decide,.inr ⟨rfl,rfl⟩⟩
 obtain⟨mask,em,hmn⟩:=hm;have hm3:mask=7\/mask=31\/mask=127:=by lia
 obtain⟨owner,o1,o2,o3⟩:=aDR hm3 hs (by lia);have hsnd:=aE9 owner;obtain⟨r1,r2⟩:=aDJ (λ j=>owner.getD j none) (mask+1) 0;rw[<-List.range_eq_range']at r1 r2;have hlen:((nq owner (mask+1)).map (·.1)).length=n:=by
  rw[List.length_map,<-List.length_map (f:=(·.2)),<-o2,hsnd,o3.length_eq,List.length_range,hl]
 refine⟨{mask:=mask,place:=((nq owner (mask+1)).map (·.1)).toArray,dummies:=#[],finger:=t.finger,led:=t.led,moves:=t.movedTo mask,plain:=t.plain},((nq owner (mask+1)).map (·.2)).toArray,?_,⟨rfl,?_,aMK r1,?_,?_,hp⟩,rfl,?_⟩
 ·unfold SetTable.relaid SetTable.laid
  rw[em,o1];rfl
 ·simpa using hlen
 ·intro i hi
  have hi':i<((nq owner (mask+1)).map (·.1)).length:=by rw[hlen];exact hi
  show((nq owner (mask+1)).map (·.1)).toArray.getD i 0<=mask
  have:((nq owner (mask+1)).map (·.1)).toArray.getD i 0=((nq owner (mask+1)).map (·.1))[i]:=by
   rw[Array.getD_eq_getD_getElem?,List.getElem?_toArray,List.getElem?_eq_getElem hi'];rfl
  rw[this]
  have:=r2 _ (List.getElem_mem hi')
  lia
 ·show mask=7/\n<5\/mask=31/\n<19\/mask=127/\n<77
  lia
 ·show((nq owner (mask+1)).map (·.2)).Perm (List.range n)
  rw[<-o2,hsnd,<-hl];exact o3
abbrev cO(es:Array (Int×Value))(ep:Nat)(t:SetTable):Obj:={cls:=.type "set",dict:=none,data:=.set es ep t}
def SetT(h:Heap)(a:Addr)(es:Array (Int×Value))(t:SetTable):Prop:=∃ep,h.get? a=some (cO es ep t)
structure TupAt(h:Heap)(x:Addr)(ns:List Int):Prop where
 ex:∃o xs k,h.get? x=some o/\o.cls= .type "tuple"/\o.data= .seq xs k/\IntsAre xs.toList ns
theorem sY:∀{vs:List Value} {ns:List Int},IntsAre vs ns->ItemsAre (intKind prog w) ns vs
 |_,_,.nil=>.nil
 |_,_,.cons n t r=>.cons (intKind_is _ _ n t) (sY r)
section
variable{prog:Program}{w:World}{A:Around}{E:Value->Shared->Prop}{s:Shared}
theorem oN{fuel:Nat}:∀{vs:List Value} {ns:List Int},IntsAre vs ns->∀v∈vs,hashByValue fuel v=pure true
 |_,_,.nil,v,hv=>by simp at hv
 |_,_,.cons n t r,v,hv=>by
  rcases List.mem_cons.mp hv with rfl|hv
  ·cases fuel<;>rfl
  ·exact oN r v hv
theorem yH{x:Addr}(hx:TupAt s.heap x ns)(h:Q true s):wpAny (model prog w) A (hashByValue 8 (.ref x)) Q E s:=by
 obtain⟨o,xs,k,ho,hc,hd,hi⟩:=hx.ex;have hT:s.TypeIs (.ref x) "tuple":=⟨o,ho,hc⟩;unfold hashByValue;refine wpAny_bind (wpAny_specialOf hT PySem.F.slot_tuple_hash.lookup ?_);dsimp only;refine wpAny_bind (wpAny_seqItems ho hd ?_);refine wpAny_bind ?_;show wpAny (model prog w) A (forIn xs _ _) _ _ _;rw[<-Array.forIn_toList];refine wpAny_mono (wpAny_forIn_list _ (λ rest b s'=>b.1=none/\s'=s/\∀v∈rest,hashByValue 7 v=pure true) (λ b s'=>b.1=none/\s'=s) ?_ ?_ _ _ ⟨rfl,rfl,oN hi⟩) ?_ λ _ _ e=>e
 ·rintro v rest b s' ⟨hb,rfl,hr⟩
  rw[hr v List.mem_cons_self];refine wpAny_bind (wpAny_pure ?_);simp only[Bool.not_true,Bool.false_eq_true,if_false];exact wpAny_pure ⟨rfl,rfl,λ u hu=>hr u (List.mem_cons_of_mem _ hu)⟩
 ·rintro b s' ⟨hb,rfl,_⟩
  exact⟨hb,rfl⟩
 ·rintro⟨b1,b2⟩ s' ⟨hb,rfl⟩
  dsimp only at hb;subst hb;exact wpAny_pure h
theorem aHI(ho:s.heap.get? a=some (cO es ep t))(hz:es'.size<=63)
  (h:(s.heap.update a (Obj.putSet es' t')).get? a=some (cO es' (ep+1) t')->Q () {s with heap:=s.heap.update a (Obj.putSet es' t')}):wpAny (model prog w) A (storeSet a es' t') Q E s:=by
 refine wpAny_storeSet_of ho rfl (h ?_) (by rw[sizeLine_eq];lia)
 have:=Heap.get?_update_self (Obj.putSet es' t') ho (by rw[putSet_of es' t' rfl];rfl)
 rw[putSet_of es' t' rfl]at this;exact this
theorem yx(ho:s.heap.get? a=some (cO es ep t))(T:gq t es.size)(hne:∀e∈es.toList,e.1≠h)
  (q:∀j,j<=t.mask->t.slot j= .empty->Q (.free j false) s):wpAny (model prog w) A (setSearch a x h true) Q E s:=by
 unfold setSearch;unfold setSearchFrom;refine wpAny_bind (wpAny_setState_of ho rfl T.fits ?_);dsimp only;have hg:t.gaveWay=false:=by
  unfold SetTable.gaveWay;rcases T.mask3 with e|e|e<;>rw[e]<;>decide
 rw[hg];simp only[Bool.false_eq_true,if_false];obtain⟨j,j1,j2,j3⟩:=aEV (hashAt:=λ i=>(es[i]?.map (·.1)).getD 0) T (h:=h) λ i hi=>by
  have e:es[i]? =some es[i]:=Array.getElem?_eq_getElem hi;rw[e];exact hne _ (Array.getElem_mem_toList hi)
 have j3':t.probe (λ i=>(es[i]?.map (·.1)).getD 0) h ((none:Option SetTable.Probe).getD (t.probeStart h))=some (.empty j none):=j3;split
 ·rename_i met heq
  have e:some met=some (.empty j none):=heq.symm.trans j3';cases e;exact wpAny_pure (q j j1 j2)
 ·rename_i hno
  exact(hno _ j3').elim
theorem aCc(ho:s.heap.get? a=some (cO es ep t))(T:tD t n)(hn:es.size=n)(h5:n=5\/n=19)
  (q:∀h' es' t',Heap.SameBut a s.heap h'->SetT h' a es' t'->gq t' n->t'.led=t.led->es'.toList.Perm es.toList->Q () {s with heap:=h'}):wpAny (model prog w) A (setRelay a (SetTable.grown n)) Q E s:=by
 have hsz:SetTable.sizeAbove (SetTable.grown n)<=sizeLine:=by
  rw[sizeLine_eq];rcases h5 with e|e<;>rw[e]<;>decide
 obtain⟨t',order,r1,r2,r3,r4⟩:=aH8 T.pla h5 (es.map (·.1)) (by rw[Array.size_map];exact hn);have hperm:(order.filterMap (es[·]?)).toList.Perm es.toList:=by
  rw[Array.toList_filterMap];refine(r4.filterMap _).trans ?_;rw[<-hn,filterMap_getElem?_range]
 have hes:(order.filterMap (es[·]?)).size=es.size:=by rw[<-Array.length_toList,hperm.length_eq,Array.length_toList]
 unfold setRelay;refine wpAny_bind (wpAny_setState_of ho rfl (by rw[hn];exact T.fits) ?_);dsimp only;rw[if_neg (by lia),r1];refine wpAny_bind ?_;refine wpAny_of_eq (a:=(order.filterMap (es[·]?),t')) ?_ ?_
 ·show(if ((order.filterMap (es[·]?)).size !=es.size)=true then _ else pure (order.filterMap (es[·]?),t'))=_
  rw[hes];simp only[bne_self_eq_false,Bool.false_eq_true,if_false]
 ·exact aHI ho (by rw[hes,hn];lia) λ e=>q _ _ t' (Heap.SameBut.update ..) ⟨_,e⟩ r2 r3 hperm
theorem SetT.keep(S:SetT h a es t)(k:∀o,h.get? a=some o->h'.get? a=some o):SetT h' a es t:=let⟨ep,e⟩:=S;⟨ep,k _ e⟩
theorem aEE(hu:A.units<cLine)(S:SetT s.heap a es t)(T:gq t es.size)(hx:TupAt s.heap x ns)(h64:es.size<63)(hne:∀e∈es.toList,e.1≠hsh ns)
  (q:∀h' tk es' t',Heap.SameBut a s.heap h'->s.toks<=tk->SetT h' a es' t'->gq t' (es.size+1)->t'.led=t.led->es'.toList.Perm (es.toList++[(hsh ns,.ref x)])->Q true {s with heap:=h',toks:=tk}):wpAny (model prog w) A (setAdd a (.ref x)) Q E s:=by
 obtain⟨ep,ho⟩:=S;obtain⟨o,xs,k,xo,xc,xd,xi⟩:=hx.ex;unfold setAdd;refine wpAny_holding (wpAny_bind ?_);refine wpAny_pyHash_tuple (knd:=intKind prog w) (ks:=ns) hu ⟨o,xs,k,xo,xc,xd,sY xi⟩ ?_;have eh:tupleKeyHash (intKind prog w) ns=hsh ns:=rfl;rw[eh];unfold setAddHashed;refine wpAny_holding ?_;unfold setAddHashedIn;refine wpAny_bind (wpAny_setState_of ho rfl T.fits ?_);dsimp only;have hb:byScan (.ref x) es=false:=rfl;rw[hb];simp only[Bool.false_eq_true,if_false];refine wpAny_bind (yx ho T hne λ j j1 j2=>?_);dsimp only;refine wpAny_bind (wpAny_setState_of ho rfl T.fits ?_);dsimp only;obtain⟨P,p1,p2,p3,p4⟩:=aMP T h64 j1 j2;have hes:(SetTable.insertAt es (t.put j).2 (hsh ns,Value.ref x)).size=es.size+1:=zg _ _ _;have hperm:(SetTable.insertAt es (t.put j).2 (hsh ns,Value.ref x)).toList.Perm (es.toList++[(hsh ns,Value.ref x)]):=by
  have:=SetTable.insertAt_perm es (t.put j).2 (hsh ns,Value.ref x)
  rwa [Array.toList_push]at this
 rw[P.pla];simp only[if_true];refine wpAny_bind (yH (ns:=ns) ⟨o,xs,k,xo,xc,xd,xi⟩ ?_);simp only[if_true];refine wpAny_bind (aHI ho (by rw[hes];lia) λ e1=>?_);simp only[Bool.not_false,Bool.true_and];cases hf:(t.put j).1.tooFull with
 |true=>
  simp only[if_true];have h5:=P.full (by lia) hf;refine wpAny_bind (aCc (s:={s with heap:=_,toks:=_}) e1 P hes h5 λ h' es' t' b1 b2 b3 b4 b5=>?_);exact wpAny_pure (q h' _ es' t' ((Heap.SameBut.update s.heap a _).trans b1) (Nat.le_add_right _ _) b2 b3 (b4.trans p4) (b5.trans hperm))
 |false=>
  simp only[Bool.false_eq_true,if_false];exact wpAny_pure (q _ _ _ _ (Heap.SameBut.update ..) (Nat.le_add_right _ _) ⟨_,e1⟩ (P.still hf) p4 hperm)
end
def prs(vs:List Value)(nss:List (List Int)):List (Int×Value):=(vs.zip nss).map λ p=>(hsh p.2,p.1)
theorem yQ(h:vs.length=nss.length):(prs vs nss).length=vs.length:=by
 unfold prs;rw[List.length_map,List.length_zip,<-h,Nat.min_self]
theorem aMU{i:Nat}(h1:vs[i]? =some v)(h2:nss[i]? =some ns):(prs vs nss)[i]? =some (hsh ns,v):=by
 unfold prs;rw[List.getElem?_map,(List.getElem?_zip_eq_some (z:=(v,ns))).mpr ⟨h1,h2⟩];rfl
theorem aJr(h:vs.length=nss.length):(prs vs nss).map (·.1)=nss.map hsh:=by
 unfold prs;rw[List.map_map]
 have:(vs.zip nss).map Prod.snd=nss:=List.map_snd_zip (by lia)
 conv=>rhs;rw[<-this]
 rw[List.map_map];rfl
theorem cz.tup{i:Nat}(t:cz h vs nss)(hv:vs[i]? =some v):∃x ns,v= .ref x/\nss[i]? =some ns/\TupAt h x ns:=by
 have hi:i<vs.length:=(List.getElem?_eq_some_iff.mp hv).1;obtain⟨x,o,xs,k,e1,e2,e3,e4,e5,_⟩:=t.at hi;have hi2:i<nss.length:=by rw[<-t.len];exact hi
 refine⟨x,nss.getD i [],?_,by simp[hi2],⟨o,xs,k,e2,e3,e4,e5⟩⟩;rw[<-e1];simp[hv]
section
variable{prog:Program}{w:World}{A:Around}{R:Result->Shared->Prop}{I:Addr}{fp wr:List Addr}{G:Array GenState->Array GenState->Prop}{n:Nat}{St:Nat->Shared->Prop}{vs:List Value}{nss:List (List Int)}
theorem aGC(W:WalksS prog w A.in1 I fp wr G n (λ i v=>vs.toArray[i]? =some v) St)(S:Addr)(hSf:S∉fp)(hn:n=vs.length)(hu:A.in1.units<cLine)(h64:n<64)(hnd:(nss.map hsh).Nodup)(hin:∀x,.ref x∈vs->x∉wr)(led:Bool):
  ∀(k i:Nat) (s:Shared) (es:Array (Int×Value)) (t:SetTable),n-i=k->i<=n->St i s->cz s.heap vs nss->SetT s.heap S es t->gq t i->t.led=led->es.toList.Perm ((prs vs nss).take i)->
   (∀s' es' t',Moved (S::wr) G s s'->SetT s'.heap S es' t'->gq t' n->t'.led=led->es'.toList.Perm (prs vs nss)->R (.ok (.ret .none)) s')->
   codeAny (model prog w) A (.builtin "set.update.loop" ⟨[.ref S,.ref I],[]⟩) R s:=by
 have hSw:S∉wr:=λ h=>hSf (W.sub _ h)
 have hsb:∀b∈wr,b∈S::wr:=λ b hb=>List.mem_cons_of_mem _ hb
 intro k;induction k with
 |zero=>
  intro i s es t hk hi hst ht hS hT hl hp hR;have hin':i=n:=by lia
  subst hin';refine codeAny_builtin PyProof.Rows.F.entry_set_update_loop ?_;rw[Around.under_plainId PyProof.Rows.F.plain_set_update_loop _];show wpAny _ A.in1 (pyNext (.ref I)>>=_) _ _ s;refine wpAny_bind (W.done s _ _ hst λ s' hm=>wpAny_pure (hR s' es t (hm.mono hsb) (hS.keep λ o e=>hm.heap S _ hSw e) hT hl ?_))
  have:(prs vs nss).length<=i:=by rw[yQ ht.len,hn];exact Nat.le_refl _
  rwa [List.take_of_length_le this]at hp
 |succ k ih=>
  intro i s es t hk hi hst ht hS hT hl hp hR;have hlt:i<n:=by lia
  refine codeAny_builtin PyProof.Rows.F.entry_set_update_loop ?_;rw[Around.under_plainId PyProof.Rows.F.plain_set_update_loop _];show wpAny _ A.in1 (pyNext (.ref I)>>=_) _ _ s;refine wpAny_bind (W.item i s _ _ hlt hst λ v s' hP' hst' hm=>?_);have hP:vs[i]? =some v:=by simpa using hP'
  obtain⟨x,ns,rfl,hns,hx⟩:=ht.tup hP;have hxw:∀y,.ref y∈vs->y∉wr:=hin
  have ht':cz s'.heap vs nss:=by
   have go:∀{us:List Value} {ms:List (List Int)},(∀y,.ref y∈us->y∉wr)->cz s.heap us ms->cz s'.heap us ms:=by
    intro us ms hy z;induction z with
    |nil=>exact .nil
    |cons ho hc hd hi hne r ih2=>exact .cons (hm.heap _ _ (hy _ List.mem_cons_self) ho) hc hd hi hne (ih2 λ y m=>hy y (List.mem_cons_of_mem _ m))
   exact go hin ht
  have hS':SetT s'.heap S es t:=hS.keep λ o e=>hm.heap S _ hSw e
  have hx':TupAt s'.heap x ns:=by
   obtain⟨y,ms,e1,e2,e3⟩:=ht'.tup hP;cases e1;rw[hns]at e2;cases e2;exact e3
  have hsz:es.size=i:=by
   rw[<-Array.length_toList,hp.length_eq,List.length_take,yQ ht.len];lia
  have hT':gq t es.size:=by rw[hsz];exact hT
  have hat:=aMU hP hns;have hnew:∀e∈es.toList,e.1≠hsh ns:=by
   intro e he q;have h1:e∈(prs vs nss).take i:=hp.mem_iff.mp he;obtain⟨j,hj⟩:=List.getElem?_of_mem h1;have hj':j<i:=by
    have:=(List.getElem?_eq_some_iff.mp hj).1
    rw[List.length_take]at this;lia
   rw[List.getElem?_take,if_pos hj']at hj;have f1:(nss.map hsh)[j]? =some (hsh ns):=by rw[<-aJr ht.len,List.getElem?_map,hj,<-q];rfl
   have f2:(nss.map hsh)[i]? =some (hsh ns):=by rw[List.getElem?_map,hns];rfl
   have hlj:j<(nss.map hsh).length:=(List.getElem?_eq_some_iff.mp f1).1
   have:=(List.getElem?_inj hlj hnd).mp (f1.trans f2.symm)
   lia
  show wpAny _ A.in1 (holding [Value.ref x] (setAdd S (.ref x))>>=_) _ _ s';refine wpAny_bind (wpAny_holding (aEE hu hS' hT' hx' (by lia) hnew λ h' tk es' t' c1 c2 c3 c4 c5 c6=>?_));have kp:∀b o,b≠S->s'.heap.get? b=some o->h'.get? b=some o:=λ b o hb e=>by rw[c1.2 b hb];exact e
  have ht2:cz h' vs nss:=ht'.mono λ y o e c=>kp y o (λ z=>by
   subst z;obtain⟨ep,q⟩:=hS';rw[q]at e;cases e;exact absurd c (show¬(Value.type "set"=Value.type "tuple")by decide)) e
  refine wpAny_pure ⟨plainId_quiet PyProof.Rows.F.plain_set_update_loop _,ih (i+1) _ es' t' (by lia) hlt (W.frame _ s' _ _ hst' c2 λ b hb o e=>kp b o (λ z=>hSf (z▸hb)) e) ht2 c3 (by rw[<-hsz];exact c4) (c5.trans hl) ?_ λ s'' es'' t'' hm'' hS'' hT'' hl'' hp''=>?_⟩
  ·refine c6.trans ?_
   rw[List.take_add_one,hat];exact hp.append_right _
  ·exact hR s'' es'' t'' (Moved.trans W.gtrans ((hm.mono hsb).then_heap c2 λ b o hb e=>kp b o (λ z=>hb (z▸List.mem_cons_self)) e) hm'') hS'' hT'' hl'' hp''
end
end VL
namespace PySem
section
variable{prog:Program}{w:World}{A:Around}{E:Value->Shared->Prop}{s:Shared}
theorem aHT(a:Value)(h:Q₁ (.ref s.heap.objs.size) {s with heap:=s.heap.push (VL.cO #[] 0 (.fresh 0 0 (!w.params.followText "set-order")))}):
  codeAny (model prog w) A (.call (.builtin "set.__new__") ⟨[.type "set",a],[]⟩) (wants Q₁ E) s:=by
 refine codeAny_of_tree ?_;show wpAny _ A.in1 (checkBuiltinCall "set.__new__" ⟨[.type "set",a],[]⟩>>=λ _=>again (.builtin "set.__new__" ⟨[.type "set",a],[]⟩)) _ _ s;refine wpAny_bind (wpAny_of_eq (F.newCall_set_1 a) (wpAny_pure ⟨plainId_quiet PySem.F.plain_set_new _,codeAny_builtin PySem.F.entry_set_new ?_⟩));rw[Around.under_plainId PySem.F.plain_set_new _];unfold Builtin.«set.__new__» Builtin.Frozenset.newClass;have hsub:=sub_set_self;obtain⟨hp,g,d,tk,os⟩:=s;dsimp only;wp_walk;refine wpAny_askSetting (wpAny_pure ?_);dsimp only;simp only[newObj];exact wpAny_bind (wpAny_alloc (wpAny_pure (wpAny_pure h)))
set_option maxHeartbeats 3200000 in
theorem qy{l:Addr}{T:String}{oI:Obj}{Φ:Heap->Prop}{Q:Value->Shared->Prop}(hty:s.TypeIs (.ref l) T)(hsls:isSubtype (.type T) (.type "set")=pure false)(hslf:isSubtype (.type T) (.type "frozenset")=pure false)(hne:(Value.type T==Value.type "dict")=false)
  (hit:∀(h₁:Heap) (A₁:Around) (E₁:Value->Shared->Prop) (Q₁:Value->Shared->Prop),(∀b o,s.heap.get? b=some o->h₁.get? b=some o)->Q₁ (.ref h₁.objs.size) {s with heap:=h₁.push oI}->wpAny (model prog w) A₁ (pyIter (.ref l)) Q₁ E₁ {s with heap:=h₁})
  (hrun:∀R:Result->Shared->Prop,(∀h' tk,Φ h'->(∀b o,s.heap.get? b=some o->h'.get? b=some o)->R (.ok (.ret .none)) {s with heap:=h',toks:=tk})->
   codeAny (model prog w) A.in1.in1 (.builtin "set.update.loop" ⟨[.ref s.heap.objs.size,.ref (s.heap.push (VL.cO #[] 0 (.fresh 0 0 (!w.params.followText "set-order")))).objs.size],[]⟩) R {s with heap:=(s.heap.push (VL.cO #[] 0 (.fresh 0 0 (!w.params.followText "set-order")))).push oI})
  (h:∀h' tk,Φ h'->(∀b o,s.heap.get? b=some o->h'.get? b=some o)->Q (.ref s.heap.objs.size) {s with heap:=h',toks:=tk}):
  wpAny (model prog w) A (call (.type "set") [.ref l]) Q E s:=by
 obtain⟨c,tl,hmro⟩:=F.called_set.mro;have hmade:=F.called_set.made;have hsub:=F.called_set.sub
 refine wpAny_call (codeAny_of_tree ?_);show wpAny _ _ (callAny (.type "set") _) _ _ _;refine wpAny_pure ⟨Code.quiet_builtin _ (by decide+kernel),codeAny_builtin PySem.F.entry_type_call ?_⟩;rw[Around.under_plain (weight_type_call_type "set" [.ref l] []) rfl];have h1:=F.called_set.notType;have h2:=F.called_set.canCreate
 have hct:=F.typeCall_set_1 (.ref l);repeat (any_goals (first|assumption|wp_step))
 generalize hled:(!w.params.followText "set-order")=led at hrun;refine codeAny_mono (aHT (.ref l) (E:=E) (Q₁:=λ obj s₁=>obj= .ref s.heap.objs.size/\s₁={s with heap:=s.heap.push (VL.cO #[] 0 (.fresh 0 0 led))}) ⟨rfl,by rw[hled]⟩) λ r s₁ hr=>?_
 cases r with
 |error e=>exact hr
 |ok fl=>
  cases fl with
  |ret obj=>
   obtain⟨rfl,rfl⟩:=hr;have hS:(s.heap.push (VL.cO #[] 0 (.fresh 0 0 led))).get? s.heap.objs.size=some (VL.cO #[] 0 (.fresh 0 0 led)):=Heap.get?_push_size _ rfl;have hT:Shared.TypeIs {s with heap:=s.heap.push (VL.cO #[] 0 (.fresh 0 0 led))} (.ref s.heap.objs.size) "set":=⟨_,hS,rfl⟩;have hli:=F.called_set.init.lookup;have hbi:=F.called_set.init.bind (.ref s.heap.objs.size)
   repeat (any_goals (first|assumption|wp_step))
   refine codeAny_mono (codeAny_call_builtin (R:=wants (λ r s₂=>r= .none/\∃h' tk,s₂={s with heap:=h',toks:=tk}/\Φ h'/\(∀b o,s.heap.get? b=some o->h'.get? b=some o)) E) F.called_set.init.plain F.entry_set_init (check_set_init_1 hT ?_)) λ r₂ s₂ hr₂=>?_
   ·obtain⟨ol,hol,hcl⟩:=hty
    obtain⟨ocls,odict,odata,oslots⟩:=ol;simp only at hcl;subst hcl;have hol':(s.heap.push (VL.cO #[] 0 (.fresh 0 0 led))).get? l=some {cls:=.type T,dict:=odict,data:=odata,slots:=oslots}:=Heap.get?_push_of_some _ hol;unfold Builtin.«set.__init__» noKeywords Builtin.Frozenset.updateFrom;generalize hPI:pyIter=PI;wp_walk;subst hPI;refine hit _ _ _ _ (λ b o e=>Heap.get?_push_of_some _ e) (wpAny_bind (wpAny_runValue (hrun _ λ h' tk g1 g2=>?_)));show wpAny _ _ _ _ _ _;refine wpAny_pure ?_;show wpAny _ _ (ret Value.none) _ _ _;exact wpAny_pure ⟨rfl,h',tk,rfl,g1,g2⟩
   ·cases r₂ with
    |error e=>exact hr₂
    |ok fl₂=>
     cases fl₂ with
     |ret r=>
      obtain⟨rfl,h',tk,rfl,g1,g2⟩:=hr₂
      repeat (any_goals (first|assumption|wp_step))
      exact h _ _ g1 g2
     |_=>exact hr₂.elim
  |_=>exact hr.elim
theorem aGd(hh:A.handled=none)(hu:A.units+8<cLine)(hl:s.heap.IsList l vs.toArray)(ht:VL.cz s.heap vs nss)(h64:vs.length<64)(hnd:(nss.map VL.hsh).Nodup)
  (h:∀h' tk es t,VL.SetT h' s.heap.objs.size es t->VL.gq t vs.length->t.led= !w.params.followText "set-order"->es.toList.Perm (VL.prs vs nss)->(∀b o,s.heap.get? b=some o->h'.get? b=some o)->Q (.ref s.heap.objs.size) {s with heap:=h',toks:=tk}):
  wpAny (model prog w) A (call (.type "set") [.ref l]) Q E s:=by
 obtain⟨ol,hol,hcl,nl,hdl⟩:=hl;have hlS:l<s.heap.objs.size:=Heap.lt_size hol;have hl0:s.heap.IsList l vs.toArray:=⟨ol,hol,hcl,nl,hdl⟩;refine qy (T:="list") (Φ:=λ h'=>∃es t,VL.SetT h' s.heap.objs.size es t/\VL.gq t vs.length/\t.led=(!w.params.followText "set-order")/\es.toList.Perm (VL.prs vs nss)) ⟨ol,hol,hcl⟩ F.sub_list_set F.sub_list_frozenset (by decide)
  (λ h₁ A₁ E₁ Q₁ k q=>wpAny_pyIter_list (s:={s with heap:=h₁}) (items:=vs.toArray) ⟨ol,k _ _ hol,hcl,nl,hdl⟩ q) (λ R hR=>?_) λ h' tk ⟨es,t,g1,g2,g3,g4⟩ g5=>h h' tk es t g1 g2 g3 g4 g5
 generalize (!w.params.followText "set-order")=led at hR ⊢;have hS:(s.heap.push (VL.cO #[] 0 (.fresh 0 0 led))).get? s.heap.objs.size=some (VL.cO #[] 0 (.fresh 0 0 led)):=Heap.get?_push_size _ rfl;have hl1:(s.heap.push (VL.cO #[] 0 (.fresh 0 0 led))).IsList l vs.toArray:=⟨ol,Heap.get?_push_of_some _ hol,hcl,nl,hdl⟩;have hh3:A.in1.in1.in1.handled=none:=by simp[hh]
 have hneI:l≠(s.heap.push (VL.cO #[] 0 (.fresh 0 0 led))).objs.size:=by rw[Heap.size_push];exact Nat.ne_of_lt (Nat.lt_succ_of_lt hlS)
 have hSf:s.heap.objs.size∉[(s.heap.push (VL.cO #[] 0 (.fresh 0 0 led))).objs.size,l]:=by
  rw[Heap.size_push];simp only[List.mem_cons,List.not_mem_nil,or_false,not_or];exact⟨Nat.ne_of_lt (Nat.lt_succ_self _),Nat.ne_of_gt hlS⟩
 have hvt:∀{us:List Value} {ms:List (List Int)},VL.cz s.heap us ms->∀x,.ref x∈us->x<s.heap.objs.size:=by
  intro us ms z;induction z with
  |nil=>intro x hx;simp at hx
  |cons ho _ _ _ _ _ ih=>
   intro x hx;rcases List.mem_cons.mp hx with e|hx
   ·cases e;exact Heap.lt_size ho
   ·exact ih x hx
 refine VL.aGC ((Walks.list hh3 _ l hneI vs.toArray).toS) s.heap.objs.size hSf (by simp) (by simp;omega) (by simpa using h64) hnd (λ x hx=>?_) led (vs.toArray.size-0) 0 _ #[] (.fresh 0 0 led) (by simp) (Nat.zero_le _)
  ⟨⟨_,Heap.get?_push_size _ rfl,rfl,rfl⟩,(hl1.push _)⟩ (ht.mono λ x o e _=>Heap.get?_push_of_some _ (Heap.get?_push_of_some _ e)) ⟨0,Heap.get?_push_of_some _ hS⟩ (VL.gq.fresh led) rfl (List.Perm.refl _) ?hR
 case hR=>
  intro s' es t hm hS' hT' hl' hp';obtain⟨h',g',d',tk',os'⟩:=s';have eg:g'=s.gens:=hm.gens;have ed:d'=s.drawn:=hm.drawn;have eo:os'=s.os:=hm.os;subst eg;subst ed;subst eo;refine hR h' tk' ⟨es,t,hS',by simpa using hT',hl',hp'⟩ λ b o e=>hm.heap b o ?_ (Heap.get?_push_of_some _ (Heap.get?_push_of_some _ e))
  have hb:=Heap.lt_size e;simp only[List.mem_cons,List.not_mem_nil,or_false,not_or];rw[Heap.size_push];exact⟨Nat.ne_of_lt hb,Nat.ne_of_lt (Nat.lt_succ_of_lt hb)⟩
 have:=hvt ht x hx
 simp only[List.mem_cons,List.not_mem_nil,or_false];rw[Heap.size_push];exact Nat.ne_of_lt (Nat.lt_succ_of_lt this)
end
end PySem
namespace VL
open PySem PySem.Spec PyProof.Rows L2
theorem aDZ:∀{l:List α} {i:Nat} (h:i<l.length),(l[i]::l.eraseIdx i).Perm l
 |a::l,0,_=>List.Perm.refl _
 |a::l,i+1,h=>by
  have h':i<l.length:=by simpa using h
  have ih:=aDZ (l:=l) (i:=i) h'
  show(l[i]::a::l.eraseIdx i).Perm (a::l)
  exact(List.Perm.swap _ _ _).trans (ih.cons a)
theorem aFW(next:Nat->Nat):∀(f k:Nat) (left:List α) (out:Array α),left.length<=f->(pickOrder.go next f k left out).toList.Perm (out.toList++left)
 |0,k,left,out,h=>by
  have:left=[]:=List.length_eq_zero_iff.mp (by omega)
  subst this;rw[List.append_nil];exact List.Perm.refl _
 |f+1,k,left,out,h=>by
  unfold pickOrder.go;cases left with
  |nil=>simp
  |cons a l=>
   have hlt:next k%(a::l).length<(a::l).length:=Nat.mod_lt _ (by simp)
   rw[List.getElem?_eq_getElem hlt];dsimp only;refine(aFW next f (k+1) _ _ (by rw[List.length_eraseIdx];simp only[hlt,if_true];simp at h ⊢;omega)).trans ?_;rw[Array.toList_push,List.append_assoc];exact List.Perm.append_left _ (aDZ hlt)
theorem aGI(next:Nat->Nat)(xs:Array α):(pickOrder next xs).toList.Perm xs.toList:=by
 have:=aFW next xs.size 0 xs.toList #[] (by simp)
 unfold pickOrder;simpa using this
def uE(w:World)(d:Addr)(ep:Nat)(es:Array (Int×Value)):Array (Int×Value):=if w.params.followText "set-order" then pickOrder (w.params.setOrder d ep) es else es
theorem rF(w:World)(d:Addr)(ep:Nat)(es:Array (Int×Value)):(uE w d ep es).toList.Perm es.toList:=by
 unfold uE;split
 ·exact aGI _ _
 ·exact List.Perm.refl _
def slotAt(w:World)(t:SetTable):Nat->Nat
 |0=>0
 |i+1=>if w.params.followText "set-order" then 0 else t.place.getD i 0+1
theorem aEw(T:gq t n)(hf:w.params.followText "set-order"=false):∀i,i<=n->SetTable.below t.place (slotAt w t i)=i
 |0,_=>by
  obtain⟨b1,b2,b3⟩:=vQ T.ris 0;show SetTable.below t.place 0=0;cases h:SetTable.below t.place 0 with
  |zero=>rfl
  |succ k=>
   rw[h]at b2
   have:=b2 0 (by omega)
   omega
 |i+1,hi=>by
  unfold slotAt;rw[hf];simp only[Bool.false_eq_true,if_false];obtain⟨b1,b2,b3⟩:=vQ T.ris (t.place.getD i 0+1);have hs:=T.siz;rcases Nat.lt_trichotomy (SetTable.below t.place (t.place.getD i 0+1)) (i+1)with z|z|z
  ·have:=b3 i (by omega) (by omega)
   omega
  ·exact z
  ·have h1:=b2 (i+1) (by omega)
   have h2:=T.ris i (i+1) (by omega) (by omega);omega
section
variable{prog:Program}{w:World}{A:Around}{E:Value->Shared->Prop}{s:Shared}{d I:Addr}{es:Array (Int×Value)}{ep:Nat}{t:SetTable}{i':Nat}
theorem yz(ho:s.heap.get? d=some (cO es ep t))(T:gq t es.size)(hled:t.led= !w.params.followText "set-order")(hi:i<=es.size)
  (h:Q (((uE w d ep es)[i]?).map λ e=>(e.2,slotAt w t (i+1))) s):wpAny (model prog w) A (setNext d (slotAt w t i) i ep) Q E s:=by
 unfold setNext;refine wpAny_bind (wpAny_setState_of ho rfl T.fits ?_);dsimp only;unfold setsByText;refine wpAny_bind (wpAny_bind (wpAny_askSetting (wpAny_pure ?_)));show wpAny _ _ (if w.params.followText "set-order"=true then _ else _) _ _ _;unfold uE at h;cases hf:w.params.followText "set-order" with
 |true=>
  rw[hf]at h;simp only[if_true]at h ⊢;simp only[bne_self_eq_false,Bool.false_eq_true,if_false];unfold setWalk;refine wpAny_bind (wpAny_bind (wpAny_setState_of ho rfl T.fits ?_));dsimp only;unfold setsByText;refine wpAny_bind (wpAny_bind (wpAny_askSetting (wpAny_pure ?_)));show wpAny _ _ (if w.params.followText "set-order"=true then _ else _) _ _ _;rw[hf];simp only[if_true];refine wpAny_bind (wpAny_askSetting (wpAny_pure (wpAny_pure ?_)));have e1:slotAt w t (i+1)=slotAt w t i:=by
   unfold slotAt;cases i with
   |zero=>simp[hf]
   |succ i=>simp[hf]
  rw[e1]at h;exact h
 |false=>
  rw[hf]at h hled;simp only[Bool.false_eq_true,if_false]at h ⊢;have hd:(!t.plain&&decide (es.size>1))=false:=by rw[T.pla];rfl
  show wpAny _ _ (if (!t.plain&&decide (es.size>1))=true then _ else _) _ _ _;rw[hd];simp only[Bool.false_eq_true,if_false];refine wpAny_bind ?_;show wpAny _ _ (if (!t.led&& !es.isEmpty)=true then _ else _) _ _ _;rw[hled];simp only[Bool.not_false,Bool.not_true,Bool.false_and,Bool.false_eq_true,if_false];refine wpAny_pure ?_;rw[aEw T hf i hi];have hslot:slotAt w t (i+1)=t.place.getD i 0+1:=by unfold slotAt;rw[hf];rfl
  rw[hslot]at h;by_cases hlt:i<es.size
  ·have h1:es[i]? =some es[i]:=Array.getElem?_eq_getElem hlt
   have hlt2:i<t.place.size:=by rw[T.siz];exact hlt
   have h2:t.place[i]? =some (t.place.getD i 0):=by
    rw[Array.getElem?_eq_getElem hlt2];simp[Array.getD,hlt2]
   rw[h1,h2];rw[h1]at h;exact wpAny_pure h
  ·have h1:es[i]? =none:=Array.getElem?_eq_none (by omega)
   rw[h1];rw[h1]at h;exact wpAny_pure h
theorem dO:PySem.Slot "set_iterator" "__next__" "set_iterator.__next__":=
 .of (owner:="set_iterator") (n:="__next__") (by rw[typeLookup_type,builtinLookup_eq_fast];kernel_rfl) (by decide+kernel) (by decide+kernel) (by decide+kernel) (.inl (by decide+kernel)) (by rw[isSubtype_type];kernel_rfl)
theorem nM:PySem.Slot "set_iterator" "__iter__" "set_iterator.__iter__":=
 .of (owner:="set_iterator") (n:="__iter__") (by rw[typeLookup_type,builtinLookup_eq_fast];kernel_rfl) (by decide+kernel) (by decide+kernel) (by decide+kernel) (.inl (by decide+kernel)) (by rw[isSubtype_type];kernel_rfl)
theorem m6:entryFor table "set_iterator.__next__"=some Builtin.«set_iterator.__next__»:=entryFor_of_fast (by kernel_rfl)
theorem uJ:entryFor table "set_iterator.__iter__"=some Builtin.«dict_keyiterator.__iter__»:=entryFor_alias (id':="dict_keyiterator.__iter__") (by kernel_rfl) rfl (by decide+kernel) (by kernel_rfl)
theorem yJ:entryFor table "set.__iter__"=some Builtin.«frozenset.__iter__»:=entryFor_alias (id':="frozenset.__iter__") (by kernel_rfl) rfl (by decide+kernel) (by kernel_rfl)
theorem nU(a:Value):argsOk "set_iterator.__next__" ⟨[a],[]⟩:=by unfold argsOk;kernel_rfl
theorem vU(a:Value):argsOk "set_iterator.__iter__" ⟨[a],[]⟩:=by unfold argsOk;kernel_rfl
end
section
variable{prog:Program}{w:World}{A:Around}{E:Value->Shared->Prop}{s:Shared}{d I:Addr}{es:Array (Int×Value)}{ep:Nat}{t:SetTable}{i':Nat}
abbrev aIY(d:Addr)(sl i n ep:Nat):Obj:={cls:=.type "set_iterator",data:=.fields #[.int sl 0,.int i 0,.ref d,.int n 0,.int ep 0]}
def aLM(h:Heap)(I d:Addr)(sl i n ep:Nat):Prop:=h.get? I=some (aIY d sl i n ep)
theorem aIW{h:Heap}{sl i n ep k:Nat}(e:h.get? I=some {cls:=.type "set_iterator",data:=.fields vs}):(h.update I (Obj.mapFields (·.setIfInBounds k x))).get? I=some {cls:=.type "set_iterator",data:=.fields (vs.setIfInBounds k x)}:=by
 have:=Heap.get?_update_self (Obj.mapFields (·.setIfInBounds k x)) e (Obj.isFreed_of_fields (Obj.data_mapFields rfl _))
 rw[this];rfl
theorem aED(hI:aLM s.heap I d (slotAt w t i') i' es.size ep)(ho:s.heap.get? d=some (cO es ep t))(T:gq t es.size)(hled:t.led= !w.params.followText "set-order"){v:Value}(hi:i'<es.size)(hv:((uE w d ep es)[i']?).map (·.2)=some v){Q:Option Value->Shared->Prop}
  (h:∀h',aLM h' I d (slotAt w t (i'+1)) (i'+1) es.size ep->Heap.SameBut I s.heap h'->Q (some v) {s with heap:=h'}):wpAny (model prog w) A (pyNext (.ref I)) Q E s:=by
 have hT:s.TypeIs (.ref I) "set_iterator":=⟨_,hI,rfl⟩;unfold pyNext;refine wpAny_bind (wpAny_attempt (wpAny_callSpecial?_slot (name:=Str.ofString "__next__") hT dO (wpAny_call_entry dO hT m6 ?_ (nU _))));show wpAny _ _ (fieldsOf (.ref I)>>=_) _ _ s;refine wpAny_bind (wpAny_fieldsOf hI rfl ?_);dsimp only;refine wpAny_bind ?_;unfold setEntries;refine wpAny_bind (wpAny_setState_of ho rfl T.fits (wpAny_pure ?_));simp only[bne_self_eq_false,Bool.false_eq_true,if_false];refine wpAny_bind ?_;simp only[Int.toNat_natCast];refine yz ho T hled (Nat.le_of_lt hi) ?_;cases hq:(uE w d ep es)[i']? with
 |none=>rw[hq]at hv;cases hv
 |some e=>
  rw[hq]at hv;cases hv;dsimp only[Option.map_some];refine wpAny_bind (wpAny_setField hI rfl (by simp) ?_);have e1:=aIW (h:=s.heap) (I:=I) (k:=0) (x:=rawInt (slotAt w t (i'+1))) (sl:=0) (i:=0) (n:=0) (ep:=0) hI;refine wpAny_bind (wpAny_setField e1 rfl (by simp) ?_);have e2:=aIW (k:=1) (x:=rawInt (i'+1)) (sl:=0) (i:=0) (n:=0) (ep:=0) e1;exact wpAny_pure ⟨_,rfl,wpAny_pure (h _ e2 ((Heap.SameBut.update ..).trans (Heap.SameBut.update ..)))⟩
theorem aGB(hh:A.handled=none)(hI:aLM s.heap I d (slotAt w t es.size) es.size es.size ep)(ho:s.heap.get? d=some (cO es ep t))(T:gq t es.size)(hled:t.led= !w.params.followText "set-order")
  (h:∀h',Heap.ExtBut I s.heap h'->Q none {s with heap:=h'}):wpAny (model prog w) A (pyNext (.ref I)) Q E s:=by
 have hT:s.TypeIs (.ref I) "set_iterator":=⟨_,hI,rfl⟩;unfold pyNext;refine wpAny_bind (wpAny_attempt (wpAny_callSpecial?_slot (name:=Str.ofString "__next__") hT dO (wpAny_call_entry dO hT m6 ?_ (nU _))));show wpAny _ _ (fieldsOf (.ref I)>>=_) _ _ s;refine wpAny_bind (wpAny_fieldsOf hI rfl ?_);dsimp only;refine wpAny_bind ?_;unfold setEntries;refine wpAny_bind (wpAny_setState_of ho rfl T.fits (wpAny_pure ?_));simp only[bne_self_eq_false,Bool.false_eq_true,if_false];refine wpAny_bind ?_;simp only[Int.toNat_natCast];refine yz ho T hled (Nat.le_refl _) ?_;have hq:(uE w d ep es)[es.size]? =none:=Array.getElem?_eq_none (by
  have:=(rF w d ep es).length_eq
  rw[Array.length_toList,Array.length_toList]at this;lia)
 rw[hq];dsimp only[Option.map_none];refine wpAny_bind (wpAny_setField hI rfl (by simp) ?_);show wpAny _ _ (newExc (.type "StopIteration") []>>=_) _ _ _;refine wpAny_bind ?_;simp only[newExc,newTuple];refine wpAny_bind (wpAny_newObj_type (wpAny_bind (m:=firstArgMember _ _) (wpAny_of_eq (a:=Value.none) (by first|rfl|(simp only[firstArgMember];rfl)) (wpAny_newObj_type ?_ (by size_fits)))) (by size_fits));simp only[raiseNew];refine wpAny_bind (wpAny_handled ?_);rw[show A.in1.handled=none from hh];refine wpAny_bind (wpAny_pure (wpAny_throw ?_));refine wpAny_bind (wpAny_isInstance (T:="StopIteration") (b:=true) ⟨_,Heap.get?_push_size _ rfl,rfl⟩ isSubtype_stop ?_);exact wpAny_pure (h _ (((Heap.SameBut.update ..).extBut.push _).push _))
theorem aFt(hh:A.handled=none)(I d:Addr)(hne:d≠I)(es:Array (Int×Value))(ep:Nat)(t:SetTable)(T:gq t es.size)(hled:t.led= !w.params.followText "set-order"):
  Walks prog w A I [I,d] [I] es.size (λ i v=>((uE w d ep es)[i]?).map (·.2)=some v) (λ i h=>aLM h I d (slotAt w t i) i es.size ep/\h.get? d=some (cO es ep t)) where
 sub:=λ b hb=>by simp at hb;simp[hb]
 frame:=λ _ _ _ st hk=>⟨hk I (by simp) _ st.1,hk d (by simp) _ st.2⟩
 item:=λ i s Q E hi st hQ=>by
  have hl:i<(uE w d ep es).size:=by
   have:=(rF w d ep es).length_eq
   rw[Array.length_toList,Array.length_toList]at this;lia
  have hv:((uE w d ep es)[i]?).map (·.2)=some (uE w d ep es)[i].2:=by rw[Array.getElem?_eq_getElem hl];rfl
  refine aED st.1 st.2 T hled hi hv λ h' hI' hs'=>?_
  exact hQ _ h' s.toks hv ⟨hI',by rw[hs'.2 d hne];exact st.2⟩ λ b o hb e=>hs'.extBut b o (λ h=>hb (by simp[h])) e
 done:=λ s Q E st hQ=>aGB hh st.1 st.2 T hled λ h' he'=>hQ h' s.toks λ b o hb e=>he' b o (λ h=>hb (by simp[h])) e
 self:=λ i s Q E st hQ=>by
  have hT:s.TypeIs (.ref I) "set_iterator":=⟨_,st.1,rfl⟩;refine wpAny_pyIter_slot hT nM (wpAny_call_entry nM hT uJ ?_ (vU _));show wpAny _ _ (ret (.ref I)) _ _ s;exact wpAny_pure ⟨_,rfl,"set_iterator",_,hT,dO.lookup,hQ⟩
theorem aET(ho:s.heap.get? d=some (cO es ep t))(T:gq t es.size)(h:Q (.ref s.heap.objs.size) {s with heap:=s.heap.push (aIY d 0 0 es.size ep)}):wpAny (model prog w) A (pyIter (.ref d)) Q E s:=by
 have hT:s.TypeIs (.ref d) "set":=⟨_,ho,rfl⟩;refine wpAny_pyIter_slot hT PySem.F.slot_set_iter (wpAny_call_entry PySem.F.slot_set_iter hT yJ ?_ (PySem.F.args_set_iter_1 _));unfold Builtin.«frozenset.__iter__» Builtin.Frozenset.slot0 slotArgs;simp only[List.isEmpty_nil,Bool.not_true,Bool.false_eq_true,↓reduceIte,bind_assoc,List.length_nil,bne_self_eq_false];unfold Builtin.Frozenset.addrOf Builtin.Frozenset.sizeOf;refine wpAny_bind (wpAny_pure (wpAny_bind (wpAny_pure (wpAny_bind (wpAny_bind (wpAny_setEntries_of ho rfl T.fits (wpAny_pure ?_)))))));unfold setDrawn;refine wpAny_bind (wpAny_bind (wpAny_setState_of ho rfl T.fits ?_));dsimp only;unfold setsByText;refine wpAny_bind (wpAny_bind (wpAny_askSetting (wpAny_pure (wpAny_pure ?_))));have hd:(!w.params.followText "set-order"&&(!t.plain&&decide (es.size>1)))=false:=by rw[T.pla];simp
 show wpAny _ _ (if (!w.params.followText "set-order"&&(!t.plain&&decide (es.size>1)))=true then _ else _) _ _ _;rw[hd];simp only[Bool.false_eq_true,if_false];refine wpAny_bind (wpAny_pure (wpAny_bind (wpAny_setEpoch_of ho rfl T.fits ?_)));simp only[newFields];refine wpAny_bind (wpAny_newObj_type (wpAny_pure ⟨_,rfl,"set_iterator",_,⟨_,Heap.get?_push_size _ rfl,rfl⟩,dO.lookup,?_⟩));exact h
theorem aIb(hT:s.TypeIs (.ref r) "set")(h:Q false s):wpAny (model prog w) A (Builtin.List.listLengthHint (.ref r)) Q E s:=by
 unfold Builtin.List.listLengthHint;refine wpAny_bind (wpAny_specialOf hT PySem.F.slot_set_len.lookup ?_);generalize hid:("set.__len__":String)=id0;wp_delta;rw[show splitId id0=some ("set","__len__")from by subst hid;decide+kernel];subst hid;refine wpAny_bind (wpAny_isInstance (T:="set") (b:=true) hT (by rw[isSubtype_type];kernel_rfl) ?_);refine wpAny_ite_split (λ hab=>absurd hab (by decide)) λ _=>wpAny_ite_split (λ _=>?_) λ hab=>absurd (by decide+kernel) hab
 exact wpAny_bind (wpAny_typeOf hT (wpAny_pure h))
theorem aJ6(T:gq t es.size)(hled:t.led= !w.params.followText "set-order"):PySem.W.KdlSrc prog w "set" d d es.size (λ i v=>((uE w d ep es)[i]?).map (·.2)=some v) (λ h=>h.get? d=some (cO es ep t)) where
 type:=λ _ hm=>⟨_,hm,rfl⟩
 there:=λ _ hm=>⟨Heap.lt_size hm,Heap.lt_size hm⟩
 keep:=λ _ _ hm hk=>hk d (.inl rfl) _ hm
 notList:=by decide
 notTuple:=by decide
 hint:=λ _ _ _ _ hm hq=>aIb ⟨_,hm,rfl⟩ hq
 iter:=λ A s hh hm=>⟨aIY d 0 0 es.size ep,_,(λ _ _ hq=>aET hm T hq),aFt hh _ d (Nat.ne_of_lt (Heap.lt_size hm)) es ep t T hled,⟨Heap.get?_push_size _ rfl,Heap.get?_push_of_some _ hm⟩⟩
end
section
variable{prog:Program}{w:World}{A:Around}{E:Value->Shared->Prop}{s:Shared}{T:String}{r d:Addr}{n:Nat}{P:Nat->Value->Prop}{OK:Heap->Prop}
theorem aDc(K:PySem.W.KdlSrc prog w T r d n P OK)(hh:A.handled=none)(hok:OK s.heap)(hn:n<=sizeLine)
  (h:∀h' tk vs,s.heap.objs.size<h'.objs.size->(∀b o,s.heap.get? b=some o->h'.get? b=some o)->vs.length=n->(∀(j:Nat) v,vs[j]? =some v->P j v)->Q vs {s with heap:=h',toks:=tk}):wpAny (model prog w) A (collect (.ref r)) Q E s:=by
 have hlt:=K.there _ hok;unfold collect;refine wpAny_bind (wpAny_runValue (codeAny_builtin PySem.F.entry_proto_collect ?_));rw[Around.under_plainId PySem.F.plain_proto_collect _];show wpAny _ A.in1 (newList []>>=λ l=>again (.builtin "list.__iadd__" ⟨[l,.ref r],[]⟩)) _ _ s;refine wpAny_bind (wpAny_newObj_type (wpAny_pure ⟨plainId_quiet PySem.F.plain_list_iadd _,codeAny_builtin PySem.F.entry_list_iadd ?_⟩));rw[Around.under_plainId PySem.F.plain_list_iadd _];show wpAny _ A.in1 (Builtin.List.listExtendWith (.ref s.heap.objs.size) (.ref r) (.ref s.heap.objs.size)) _ _ _;have fin:∀h' tk acc' c',(∀b o,b≠s.heap.objs.size->(s.heap.push (seqObj "list" #[] 0)).get? b=some o->h'.get? b=some o)->h'.get? s.heap.objs.size=some {cls:=.type "list",dict:=none,data:=.seq acc' c',slots:=#[]}->ItemsOf P acc' n->
   wpAny (model prog w) A (do match (Value.ref s.heap.objs.size)with
    | .ref a=>match (<-load a).data with
     | .seq xs _=>pure xs.toList
     |_=>unsupported "internal:collect"
    |_=>unsupported "internal:collect") Q E {s with heap:=h',toks:=tk}:=λ h' tk acc' c' hk hS' hacc=>
  wpAny_bind (wpAny_load hS' (wpAny_pure (h h' tk acc'.toList (Heap.lt_size hS') (λ b o e=>hk b o (Nat.ne_of_lt (Heap.lt_size e)) (Heap.get?_push_of_some _ e)) (by rw[Array.length_toList];exact hacc.1) λ j v e=>hacc.2 j v (by rw[<-Array.getElem?_toList];exact e))))
 refine wpAny_mono (PySem.W.kdl_extend (A:=A) (s:={s with heap:=s.heap.push (seqObj "list" #[] 0)}) (R:=λ r s'=>∃h' tk acc' c',r= .ok (.ret (.ref s.heap.objs.size))/\s'={s with heap:=h',toks:=tk}/\(∀b o,b≠s.heap.objs.size->(s.heap.push (seqObj "list" #[] 0)).get? b=some o->h'.get? b=some o)/\h'.get? s.heap.objs.size=some {cls:=.type "list",dict:=none,data:=.seq acc' c',slots:=#[]}/\ItemsOf P acc' n)
  K hh (K.keep _ _ hok λ b _ o e=>Heap.get?_push_of_some _ e) s.heap.objs.size (Nat.ne_of_gt hlt.1) (Nat.ne_of_gt hlt.2) (.ref s.heap.objs.size) 0 (Heap.get?_push_size _ rfl) (λ h' tk acc' c' hk hS' hacc=>⟨h',tk,acc',c',rfl,rfl,hk,hS',hacc⟩) hn) (λ f s' hf=>?_) λ e s' he=>?_
 ·cases f with
  |done f=>
   obtain⟨h',tk,acc',c',q1,q2,q3,q4,q5⟩:=hf;cases q1;subst q2;exact fin h' tk acc' c' q3 q4 q5
  |again c=>
   refine⟨hf.1,codeAny_mono hf.2 λ r s' hr=>?_⟩;obtain⟨h',tk,acc',c',q1,q2,q3,q4,q5⟩:=hr;subst q1 q2;exact fin h' tk acc' c' q3 q4 q5
 ·obtain⟨h',tk,acc',c',q1,_⟩:=he
  cases q1
end
def aLK(h:Heap)(p:Value×List Int):Prop:=∃x o xs k,p.1= .ref x/\h.get? x=some o/\o.cls= .type "tuple"/\o.data= .seq xs k/\IntsAre xs.toList p.2/\p.2≠[]
theorem cz.all:∀{vs:List Value} {nss:List (List Int)},cz h vs nss->∀p∈vs.zip nss,aLK h p
 |_,_,.nil,p,hp=>by simp at hp
 |_,_,.cons ho hc hd hi hne r,p,hp=>by
  rw[List.zip_cons_cons]at hp;rcases List.mem_cons.mp hp with e|hp
  ·subst e;exact⟨_,_,_,_,rfl,ho,hc,hd,hi,hne⟩
  ·exact r.all p hp
theorem aFE:∀{zs:List (Value×List Int)},(∀p∈zs,aLK h p)->cz h (zs.map (·.1)) (zs.map (·.2))
 |[],_=>.nil
 |p::zs,hz=>by
  obtain⟨x,o,xs,k,e1,e2,e3,e4,e5,e6⟩:=hz p List.mem_cons_self;rw[List.map_cons,List.map_cons,e1];exact .cons e2 e3 e4 e5 e6 (aFE λ q hq=>hz q (List.mem_cons_of_mem _ hq))
theorem pC(h:l.Perm m'):∀{m:List α},m'=m.map f->∃m2:List α,m2.Perm m/\l=m2.map f:=by
 induction h with
 |nil=>intro m e;exact⟨m,List.Perm.refl _,e⟩
 |cons x p ih=>
  intro m e;cases m with
  |nil=>cases e
  |cons a m=>
   rw[List.map_cons]at e;injection e with e1 e2
   obtain⟨m2,q1,q2⟩:=ih e2;exact⟨a::m2,q1.cons a,by rw[List.map_cons,q2,e1]⟩
 |swap x y l=>
  intro m e;cases m with
  |nil=>cases e
  |cons a m=>
   cases m with
   |nil=>rw[List.map_cons]at e;injection e with _ e2;cases e2
   |cons b m=>
    rw[List.map_cons,List.map_cons]at e;injection e with e1 e2
    injection e2 with e2 e3
    exact⟨b::a::m,List.Perm.swap _ _ _,by rw[List.map_cons,List.map_cons,e1,e2,e3]⟩
 |trans p q ih1 ih2=>
  intro m e;obtain⟨m2,a1,a2⟩:=ih2 e;obtain⟨m3,b1,b2⟩:=ih1 a2;exact⟨m3,b1.trans a1,b2⟩
def vW(l:List (List Int)):Prop:=l.Pairwise λ a b=>HT.lexLt b a=false
section
variable{prog:Program}{w:World}{A:Around}{E:Value->Shared->Prop}{s:Shared}
theorem aC9{Q:Value->Shared->Prop}(hz:∀p∈zs,aLK s.heap p)(h64:zs.length<64)
  (h:∀(zs':List (Value×List Int)) h' e,zs'.Perm zs->vW (zs'.map (·.2))->(∀b o,s.heap.get? b=some o->h'.get? b=some o)->h'.get? s.heap.objs.size=some (seqObj "list" (zs'.map (·.1)).toArray e)->Q (.ref s.heap.objs.size) {s with heap:=h'}):
  wpAny (model prog w) A (newList (zs.map (·.1))>>=λ l=>holding [l] (call (.builtin "list.sort") [l])>>=λ _=>ret l) (λ fin s'=>∃r,fin= .done (.ret r)/\Q r s') E s:=by
 have hlen:(zs.map (·.1)).length=zs.length:=List.length_map _;refine wpAny_bind (wpAny_newList ?_ (by rw[sizeLine_eq];omega));have hoL:(s.heap.push (seqObj "list" (zs.map (·.1)).toArray 0)).get? s.heap.objs.size=some (seqObj "list" (zs.map (·.1)).toArray 0):=Heap.get?_push_size _ rfl;refine wpAny_bind (wpAny_holding (wpAny_call_entry slot_list_sort ⟨_,hoL,rfl⟩ entry_list_sort ?_ (args_list_sort _)));refine aEa (s:={s with heap:=s.heap.push (seqObj "list" (zs.map (·.1)).toArray 0)}) hoL (aFE λ p hp=>?_) (by omega) λ p a1 a2=>⟨_,rfl,?_⟩
 ·obtain⟨x,o,xs,k,e1,e2,e3⟩:=hz p hp
  exact⟨x,o,xs,k,e1,Heap.get?_push_of_some _ e2,e3⟩
 rw[hlen]at a1 a2;have hmap:p.toList.map (λ i=>(zs.map (·.1)).getD i Value.none)=(p.toList.map λ i=>zs.getD i (Value.none,[])).map (·.1):=by
  rw[List.map_map];refine List.map_congr_left λ i hi=>?_
  show(zs.map (·.1)).getD i Value.none=(zs.getD i (Value.none,[])).1
  rw[List.getD_eq_getElem?_getD,List.getD_eq_getElem?_getD,List.getElem?_map];cases zs[i]?<;>rfl
 have hperm:(p.toList.map λ i=>zs.getD i (Value.none,[])).Perm zs:=by
  have h1:p.toList.Perm (List.range zs.length):=by
   have:=Array.perm_iff_toList_perm.mp a1
   simpa using this
  refine(h1.map _).trans ?_
  have:(List.range zs.length).map (λ i=>zs.getD i (Value.none,[]))=zs:=by
   refine List.ext_getElem (by simp) λ i h1 h2=>?_
   rw[List.getElem_map,List.getElem_range,List.getD_eq_getElem?_getD,List.getElem?_eq_getElem h2];rfl
  rw[this]
 have hne:∀b o,s.heap.get? b=some o->b≠s.heap.objs.size:=λ b o e=>Nat.ne_of_lt (Heap.lt_size e)
 obtain⟨e1,he1⟩:∃e1,((s.heap.push (seqObj "list" (zs.map (·.1)).toArray 0)).update s.heap.objs.size (Obj.mapSeq λ _=>(#[]:Array Value))).get? s.heap.objs.size=some (seqObj "list" #[] e1):=⟨_,get?_update_seq hoL λ _=>#[]⟩
 have g1:=Heap.get?_push_of_some (seqObj "list" #[] 0) (Heap.get?_push_of_some (seqObj "tuple" (zs.map (·.1)).toArray 0) he1);have g2:=get?_update_seq g1 (λ _=>rn (zs.map (·.1)) p);generalize (if ((rn (zs.map (·.1)) p).size==(#[]:Array Value).size)=true then e1 else e1+1)=c1 at g2;have hend:(sortedHeap (s.heap.push (seqObj "list" (zs.map (·.1)).toArray 0)) s.heap.objs.size (zs.map (·.1)) (rn (zs.map (·.1)) p)).get? s.heap.objs.size=some (seqObj "list" (rn (zs.map (·.1)) p) c1):=g2;have hout:rn (zs.map (·.1)) p=((p.toList.map λ i=>zs.getD i (Value.none,[])).map (·.1)).toArray:=by unfold rn;rw[hmap]
 have hris:vW ((p.toList.map λ i=>zs.getD i (Value.none,[])).map (·.2)):=by
  unfold vW;rw[List.map_map];refine List.pairwise_iff_getElem.mpr λ i j hi hj hij=>?_
  rw[List.length_map,Array.length_toList,a1.sz]at hi hj;have hk:∀k (hk:k<zs.length),Kp (O:=aEb) (λ i=>(zs.map (·.2)).getD i []) p k=(zs.getD (p.getD k 0) (Value.none,[])).2:=λ k hk=>by
   show(zs.map (·.2)).getD (p.getD k 0) []=_
   rw[List.getD_eq_getElem?_getD,List.getD_eq_getElem?_getD,List.getElem?_map];cases zs[p.getD k 0]?<;>rfl
  have hg:∀k (hk:k<p.toList.length),p.toList[k]=p.getD k 0:=λ k hk=>by
   have:k<p.size:=by simpa using hk
   simp[Array.getD,this]
  have this:HT.lexLt (Kp (O:=aEb) (λ i=>(zs.map (·.2)).getD i []) p j) (Kp (O:=aEb) (λ i=>(zs.map (·.2)).getD i []) p i)=false:=a2 i j (Nat.le_of_lt hij) hj;rw[hk i hi,hk j hj]at this;rw[List.getElem_map,List.getElem_map,hg,hg];exact this
 have hkeep:∀b o,s.heap.get? b=some o->(sortedHeap (s.heap.push (seqObj "list" (zs.map (·.1)).toArray 0)) s.heap.objs.size (zs.map (·.1)) (rn (zs.map (·.1)) p)).get? b=some o:=λ b o e=>by
  unfold sortedHeap;rw[Heap.get?_update_ne _ _ _ _ (hne b o e)];refine Heap.get?_push_of_some _ (Heap.get?_push_of_some _ ?_);rw[Heap.get?_update_ne _ _ _ _ (hne b o e)];exact Heap.get?_push_of_some _ e
 rw[hout]at hend hkeep;have hq:=h (p.toList.map λ i=>zs.getD i (Value.none,[])) _ c1 hperm hris hkeep hend;rw[<-hout]at hq;exact wpAny_pure ⟨_,rfl,hq⟩
theorem uU(h:wpAny (model prog w) A.in1 (collect v) (λ vs s'=>wpAny (model prog w) A.in1 (newList vs>>=λ l=>holding [l] (call (.builtin "list.sort") [l])>>=λ _=>ret l) (λ fin s'=>∃r,fin= .done (.ret r)/\Q r s') E s') E s):
  wpAny (model prog w) A (call (.builtin "sorted") [v]) Q E s:=by
 refine Calls.call_function_entry kind_sorted plain_sorted entry_sorted (args_sorted1 _) ?_;unfold Builtin.«sorted»;refine wpAny_bind (m:=checkCount "sorted" 1 1 _) (wpAny_pure (wpAny_bind ?_));exact h
end
inductive ig(K:PySem.W.Frag)(H:Hp):List V->List (List Int)->Prop where
 |nil:ig K H [] []
 |cons {a:Addr} {ns:List Int} {vs:List V} {nss:List (List Int)} (h:SqT K H a (ns.map V.int)) (hne:ns≠[]) (r:ig K H vs nss):ig K H (.ref a::vs) (ns::nss)
def pB:V->Value
 | .ref a=>.ref a
 |_=>.none
theorem ig.vals{K:PySem.W.Frag}:∀{vs:List V} {nss:List (List Int)} {us:List Value},ig K H vs nss->Vals vs us->us=vs.map pB:=by
 intro vs nss us t v;induction v generalizing nss with
 |nil=>rfl
 |cons q s ih=>
  cases t with
  |cons _ _ r=>
   cases q;rw[List.map_cons,ih r];rfl
theorem ig.len{K:PySem.W.Frag}:∀{vs:List V} {nss:List (List Int)},ig K H vs nss->vs.length=nss.length
 |_,_,.nil=>rfl
 |_,_,.cons _ _ r=>by rw[List.length_cons,List.length_cons,r.len]
theorem ig.refs{K:PySem.W.Frag}:∀{vs:List V} {nss:List (List Int)},ig K H vs nss->∀v∈vs,RelV v (pB v)
 |_,_,.nil,v,hv=>by simp at hv
 |_,_,.cons _ _ r,v,hv=>by
  rcases List.mem_cons.mp hv with e|hv
  ·subst e;exact rfl
  ·exact r.refs v hv
theorem ig.up{K:PySem.W.Frag}(s:aq H H'):∀{vs:List V} {nss:List (List Int)},ig K H vs nss->ig K H' vs nss
 |_,_,.nil=>.nil
 |_,_,.cons h hne r=>.cons (s.sqt h) hne (r.up s)
theorem ig.at(I:Inv X pins σ H s):∀{vs:List V} {nss:List (List Int)},ig X.K H vs nss->cz s.heap (vs.map pB) nss
 |_,_,.nil=>.nil
 |_,_,.cons h hne r=>by
  obtain⟨its,rv,⟨o,ho,hc,n,hd⟩,_⟩:=I.tuple h;exact .cons ho hc hd (by simpa using intsAre_of rv) hne (r.at I)
theorem aAl:∀{vs:List V},(∀v∈vs,RelV v (pB v))->Vals vs (vs.map pB)
 |[],_=>.nil
 |v::vs,h=>.cons (h v List.mem_cons_self) (aAl λ u hu=>h u (List.mem_cons_of_mem _ hu))
def setφ(w:World)(a:Addr)(us:List Value)(nss:List (List Int)):Heap->Prop:=λ h=>∃es ep t,h.get? a=some (cO es ep t)/\gq t es.size/\t.led=(!w.params.followText "set-order")/\es.toList.Perm (prs us nss)
section
variable{X:Cx}
def aLZ(K:PySem.W.Frag)(w:World):List V->Hp->VK->Prop:=λ xs H Q=>∃p vs nss,xs=[.ref p]/\SqL K H p vs/\ig K H vs nss/\vs.length<64/\(nss.map hsh).Nodup/\∀a H',aq H H'->H' a=some (.ext (setφ w a (vs.map pB) nss))->H a=none->Q (.ref a) H'
theorem aEt(hc:X.calm=true)(hu:X.A.units+64<cLine):dR X (.type "set") (aLZ X.K X.w):=by
 intro pins s σ H xs us Q I r h;obtain⟨p,vs,nss,rfl,hp,ht,h64,hnd,q⟩:=h;obtain⟨u,rfl,ru⟩:=vals1 r;cases ru;obtain⟨its,rv,pl,hz⟩:=I.list hp;have e:=ht.vals rv;subst e;refine PySem.aGd (I.ok.hd hc) (by lia) pl.isList (ht.at I) (by rw[List.length_map];exact h64) hnd λ h' tk es t g1 g2 g3 g4 g5=>?_
 have hfr:H s.heap.objs.size=none:=I.hok.fresh (Nat.le_refl _);obtain⟨ep,ge⟩:=g1;have hsz:es.size=(vs.map pB).length:=by rw[<-Array.length_toList,g4.length_eq,yQ (ht.at I).len]
 refine⟨.ref s.heap.objs.size,upd H s.heap.objs.size (.ext (setφ X.w s.heap.objs.size (vs.map pB) nss)),I.laid (t':=tk) g5 (Nat.le_refl _) ⟨⟨es,ep,t,ge,by rw[hsz];exact g2,g3,g4⟩,⟨_,ge⟩,λ h1 h2 ⟨es,ep,t,e1,e2⟩ k=>⟨es,ep,t,k _ e1,e2⟩⟩,rfl,q _ _ (bL hfr _) bI hfr⟩
def aFs(H:Hp)(vs:List V)(nss:List (List Int))(Q:VK):Prop:=∀zs:List (V×List Int),zs.Perm (vs.zip nss)->vW (zs.map (·.2))->New H (.lst (zs.map (·.1))) Q
theorem yt{pins:List (Addr×Obj)}(I:Inv X pins σ H s)(ht:ig X.K H vs nss)(h64:vs.length<64)(q:aFs H vs nss Q)
  (hs1:∃h1 tk,s1={s with heap:=h1,toks:=tk}/\s.heap.objs.size<=h1.objs.size/\∀b o,s.heap.get? b=some o->h1.get? b=some o){zs:List (Value×List Int)}(hz:zs.Perm ((vs.map pB).zip nss))(hus:us=zs.map (·.1)):
  wpAny (model X.prog X.w) X.A.in1 (newList us>>=λ l=>holding [l] (call (.builtin "list.sort") [l])>>=λ _=>ret l) (λ fin s'=>∃r,fin= .done (.ret r)/\EP X pins σ Q r s') X.xe s1:=by
 obtain⟨h1,tk,rfl,hsz,keep⟩:=hs1;subst hus;have hall:∀p∈zs,aLK h1 p:=λ p hp=>by
  obtain⟨x,o,xs,k,e1,e2,e3⟩:=(ht.at I).all p (hz.mem_iff.mp hp);exact⟨x,o,xs,k,e1,keep _ _ e2,e3⟩
 have hlen:zs.length<64:=by
  rw[hz.length_eq,List.length_zip,List.length_map,<-ht.len,Nat.min_self];exact h64
 refine aC9 (s:={s with heap:=h1,toks:=tk}) hall hlen λ zs' h' e a1 a2 a3 a4=>?_
 have hmap:(vs.map pB).zip nss=(vs.zip nss).map λ p=>(pB p.1,p.2):=by rw[List.zip_map_left];rfl
 obtain⟨ws,w1,w2⟩:=pC (f:=λ p:V×List Int=>(pB p.1,p.2)) (a1.trans hz) hmap;have hfr:H h1.objs.size=none:=I.hok.fresh hsz;have hmem:∀v∈ws.map (·.1),RelV v (pB v):=λ v hv=>by
  obtain⟨p,hp,rfl⟩:=List.mem_map.mp hv;exact ht.refs p.1 (List.of_mem_zip (w1.mem_iff.mp hp)).1
 have hws:zs'.map (·.1)=(ws.map (·.1)).map pB:=by rw[w2,List.map_map,List.map_map];rfl
 have hwl:(ws.map (·.1)).length<=sizeLine:=by
  rw[List.length_map,w1.length_eq,List.length_zip,<-ht.len,Nat.min_self,sizeLine_eq];lia
 refine⟨.ref h1.objs.size,upd H h1.objs.size (.lst (ws.map (·.1))),I.laid (t':=tk) (λ b o e=>a3 b o (keep b o e)) hsz ⟨hwl,(ws.map (·.1)).map pB,e,aAl hmem,?_⟩,rfl,(q ws w1 ?_).at hfr⟩
 ·rw[<-hws];exact a4
 ·have:ws.map (·.2)=zs'.map (·.2):=by rw[w2,List.map_map];rfl
  rw[this];exact a2
def aER(K:PySem.W.Frag):List V->Hp->VK->Prop:=λ xs H Q=>∃p vs nss,xs=[.ref p]/\SqL K H p vs/\ig K H vs nss/\vs.length<64/\aFs H vs nss Q
theorem aAj:dR X (.builtin "sorted") (aER X.K):=by
 intro pins s σ H xs us Q I r h;obtain⟨p,vs,nss,rfl,hp,ht,h64,q⟩:=h;obtain⟨u,rfl,ru⟩:=vals1 r;cases ru;obtain⟨its,rv,pl,hz⟩:=I.list hp;have e:=ht.vals rv;subst e;have hl2:(vs.map pB).length=nss.length:=by rw[List.length_map];exact ht.len
 refine uU (collect_list pl.isList ?_ (by rw[List.length_map];exact hz));refine yt I ht h64 q ⟨_,_,rfl,?_,λ b o e=>?_⟩ (List.Perm.refl _) ?_
 ·rw[Heap.size_update,size_push']
  exact Nat.le_succ _
 ·rw[Heap.get?_update_ne _ _ _ _ (Nat.ne_of_lt (Heap.lt_size e))]
  exact Heap.get?_push_of_some _ e
 ·exact(List.map_fst_zip (by lia)).symm
def aHc(K:PySem.W.Frag)(w:World):List V->Hp->VK->Prop:=λ xs H Q=>∃a vs nss,xs=[.ref a]/\H a=some (.ext (setφ w a (vs.map pB) nss))/\ig K H vs nss/\vs.length<64/\aFs H vs nss Q
theorem aAk(hc:X.calm=true):dR X (.builtin "sorted") (aHc X.K X.w):=by
 intro pins s σ H xs us Q I r h;obtain⟨a,vs,nss,rfl,ha,ht,h64,q⟩:=h;obtain⟨u,rfl,ru⟩:=vals1 r;cases ru;obtain⟨⟨es,ep,t,e1,e2,e3,e4⟩,_,_⟩:=I.hok a _ ha;have hl2:(vs.map pB).length=nss.length:=by rw[List.length_map];exact ht.len
 have hsz:es.size=vs.length:=by rw[<-Array.length_toList,e4.length_eq,yQ hl2,List.length_map]
 have hh:X.A.in1.handled=none:=I.ok.hd hc;refine uU (aDc (aJ6 (ep:=ep) e2 e3) hh e1 (by rw[hsz,sizeLine_eq];lia) λ h1 tk vs1 k0 k1 k2 k3=>?_);have hperm:(uE X.w a ep es).toList.Perm (prs (vs.map pB) nss):=(rF X.w a ep es).trans e4;obtain⟨zs,z1,z2⟩:=pC (f:=λ p:Value×List Int=>(hsh p.2,p.1)) hperm rfl;have hvs:vs1=zs.map (·.1):=by
  have e5:(uE X.w a ep es).toList.map (·.2)=zs.map (·.1):=by rw[z2,List.map_map];rfl
  rw[<-e5];have hlen:(uE X.w a ep es).toList.length=es.size:=by rw[(rF X.w a ep es).length_eq,Array.length_toList]
  refine List.ext_getElem (by rw[k2,List.length_map,hlen]) λ i g1 g2=>?_
  have:=k3 i _ (List.getElem?_eq_getElem g1)
  rw[<-Array.getElem?_toList,<-List.getElem?_map,List.getElem?_eq_getElem g2]at this;exact(Option.some.inj this).symm
 exact yt I ht h64 q ⟨h1,tk,rfl,Nat.le_of_lt k0,k1⟩ z1 hvs
end
def aG4(a:List Int):List (List Int)->List (List Int)
 |[]=>[a]
 |b::l=>if HT.lexLt b a then b::aG4 a l else a::b::l
def lA:List (List Int)->List (List Int)
 |[]=>[]
 |a::l=>aG4 a (lA l)
theorem wQ(a:List Int):∀l,(aG4 a l).Perm (a::l)
 |[]=>List.Perm.refl _
 |b::l=>by
  unfold aG4;split
  ·exact((wQ a l).cons b).trans (List.Perm.swap _ _ _)
  ·exact List.Perm.refl _
theorem lu:∀l,(lA l).Perm l
 |[]=>List.Perm.refl _
 |a::l=>(wQ a _).trans ((lu l).cons a)
theorem aK0(h:HT.lexLt a b=true):HT.lexLt b a=false:=by
 cases e:HT.lexLt b a with
 |false=>rfl
 |true=>have:=uq a b a h e;rw[aBz]at this;cases this
theorem aMv(h1:HT.lexLt b a=false)(h2:HT.lexLt c b=false):HT.lexLt c a=false:=by
 cases e:HT.lexLt c a with
 |false=>rfl
 |true=>
  rcases aII c b a e with z|z
  ·rw[h2]at z;cases z
  ·rw[h1]at z;cases z
theorem zj(a:List Int):∀l,vW l->vW (aG4 a l)
 |[],_=>List.pairwise_cons.mpr ⟨λ _ h=>by simp at h,.nil⟩
 |b::l,h=>by
  obtain⟨h1,h2⟩:=List.pairwise_cons.mp h;unfold aG4;cases e:HT.lexLt b a with
  |true=>
   rw[if_pos rfl];refine List.pairwise_cons.mpr ⟨λ x hx=>?_,zj a l h2⟩;rcases List.mem_cons.mp ((wQ a l).mem_iff.mp hx)with q|q
   ·subst q;exact aK0 e
   ·exact h1 x q
  |false=>
   rw[if_neg (by simp)];refine List.pairwise_cons.mpr ⟨λ x hx=>?_,h⟩;rcases List.mem_cons.mp hx with q|q
   ·subst q;exact e
   ·exact aMv e (h1 x q)
theorem qG:∀l,vW (lA l)
 |[]=>.nil
 |a::l=>zj a _ (qG l)
theorem aAx:∀{a b:List (List Int)},a.Perm b->vW a->vW b->a=b
 |[],b,p,_,_=>p.nil_eq
 |x::a,b,p,h1,h2=>by
  cases b with
  |nil=>exact absurd p.length_eq (by simp)
  |cons y b=>
   have hxy:x=y:=by
    obtain⟨q1,_⟩:=List.pairwise_cons.mp h1;obtain⟨q2,_⟩:=List.pairwise_cons.mp h2;have m1:x∈y::b:=p.mem_iff.mp List.mem_cons_self;have m2:y∈x::a:=p.mem_iff.mpr List.mem_cons_self;rcases List.mem_cons.mp m1 with e|m1
    ·exact e
    ·rcases List.mem_cons.mp m2 with e|m2
     ·exact e.symm
     ·exact zV _ _ (q2 x m1) (q1 y m2)
   subst hxy;rw[aAx (List.Perm.cons_inv p) (List.pairwise_cons.mp h1).2 (List.pairwise_cons.mp h2).2]
abbrev tupI(ns:List Int):D:=.tup (ns.map .int)
def nY:List D->Option (List (List Int))
 |[]=>some []
 | .tup l::r=>match intsOf l,nY r with
  |some (n::ns),some nss=>some ((n::ns)::nss)
  |_,_=>none
 |_=>none
theorem qC:∀{l:List D} {nss:List (List Int)},nY l=some nss->l=nss.map tupI/\∀ns∈nss,ns≠[]
 |[],nss,h=>by cases h;exact⟨rfl,λ ns h=>by simp at h⟩
 | .tup l::r,nss,h=>by
  unfold nY at h;split at h
  ·rename_i n ns nss' e1 e2
   cases h;obtain⟨q1,q2⟩:=qC e2;rw[dC e1,q1];refine⟨rfl,λ ms hm=>?_⟩;rcases List.mem_cons.mp hm with e|hm
   ·subst e;simp
   ·exact q2 ms hm
  ·cases h
 | .non::_,_,h=>by cases h
 | .int _::_,_,h=>by cases h
 | .bl _::_,_,h=>by cases h
 | .str _::_,_,h=>by cases h
 | .lst _::_,_,h=>by cases h
 | .dct _ _::_,_,h=>by cases h
 | .set _::_,_,h=>by cases h
 | .scr _::_,_,h=>by cases h
theorem tG:∀{nss:List (List Int)},(∀ns∈nss,ns≠[])->nY (nss.map tupI)=some nss
 |[],_=>rfl
 |[]::nss,h=>absurd rfl (h [] List.mem_cons_self)
 |(n::ns)::nss,h=>by
  have ih:=tG λ ms hm=>h ms (List.mem_cons_of_mem _ hm)
  rw[List.map_cons];unfold nY;rw[ih,show intsOf (List.map D.int (n::ns))=some (n::ns)from iG _]
theorem yj{K:PySem.W.Frag}:∀{xs:List V} {nss:List (List Int)},Rps K A H xs (nss.map tupI)->(∀ns∈nss,ns≠[])->ig K H xs nss
 |_,[],.nil,_=>.nil
 |_,ns::nss,.cons h r,hne=>by
  cases h with
  |tup h r'=>
   have e:=r'.ints_of;subst e;exact .cons h (hne ns List.mem_cons_self) (yj r λ ms hm=>hne ms (List.mem_cons_of_mem _ hm))
theorem aH2{K:PySem.W.Frag}:∀{zs:List (V×List Int)},(∀p∈zs,∃a,p.1= .ref a/\SqT K H a (p.2.map V.int))->Rps K A H (zs.map (·.1)) ((zs.map (·.2)).map tupI)
 |[],_=>.nil
 |p::zs,h=>by
  obtain⟨a,e1,e2⟩:=h p List.mem_cons_self;rw[List.map_cons,List.map_cons,List.map_cons,e1];exact .cons (.tup e2 .ints) (aH2 λ q hq=>h q (List.mem_cons_of_mem _ hq))
theorem ig.all{K:PySem.W.Frag}:∀{vs:List V} {nss:List (List Int)},ig K H vs nss->∀p∈vs.zip nss,∃a,p.1= .ref a/\SqT K H a (p.2.map V.int)
 |_,_,.nil,p,hp=>by simp at hp
 |_,_,.cons h _ r,p,hp=>by
  rw[List.zip_cons_cons]at hp;rcases List.mem_cons.mp hp with e|hp
  ·subst e;exact⟨_,rfl,h⟩
  ·exact r.all p hp
theorem aCa{K:PySem.W.Frag}(ht:ig K H vs nss)(q:∀v H',aq H H'->Rp K (λ p=>H p=none) H' v (.lst ((lA nss).map tupI))->Q v H'):aFs H vs nss Q:=by
 intro zs hz hr p H' s hp hn;have e:zs.map (·.2)=lA nss:=aAx (((hz.map (·.2)).trans (by rw[List.map_snd_zip (by rw[ht.len];exact Nat.le_refl _)])).trans (lu nss).symm) hr (qG nss);refine q _ H' s (.lst hp hn ?_);rw[<-e];exact aH2 λ p hp=>by
  obtain⟨a,e1,e2⟩:=ht.all p (hz.mem_iff.mp hp);exact⟨a,e1,s.sqt e2⟩
def insI(a:Int):List Int->List Int
 |[]=>[a]
 |b::l=>if b<a then b::insI a l else a::b::l
def sortI:List Int->List Int
 |[]=>[]
 |a::l=>insI a (sortI l)
theorem insI_perm(a:Int):∀l,(insI a l).Perm (a::l)
 |[]=>List.Perm.refl _
 |b::l=>by
  unfold insI;split
  ·exact((insI_perm a l).cons b).trans (List.Perm.swap _ _ _)
  ·exact List.Perm.refl _
theorem sortI_perm:∀l,(sortI l).Perm l
 |[]=>List.Perm.refl _
 |a::l=>(insI_perm a _).trans ((sortI_perm l).cons a)
theorem aDY(a:Int):∀l:List Int,l.Pairwise (·<=·)->(insI a l).Pairwise (·<=·)
 |[],_=>List.pairwise_cons.mpr ⟨λ _ h=>by simp at h,.nil⟩
 |b::l,h=>by
  obtain⟨h1,h2⟩:=List.pairwise_cons.mp h;unfold insI;by_cases e:b<a
  ·rw[if_pos e]
   refine List.pairwise_cons.mpr ⟨λ x hx=>?_,aDY a l h2⟩;rcases List.mem_cons.mp ((insI_perm a l).mem_iff.mp hx)with q|q
   ·lia
   ·exact h1 x q
  ·rw[if_neg e]
   refine List.pairwise_cons.mpr ⟨λ x hx=>?_,h⟩;rcases List.mem_cons.mp hx with q|q
   ·lia
   ·have:=h1 x q;lia
theorem aAu:∀l,(sortI l).Pairwise (·<=·)
 |[]=>.nil
 |a::l=>aDY a _ (aAu l)
theorem uQ:∀{us:List Value} {ns:List Int},IntsAre us ns->Vals (ns.map V.int) us
 |_,_,.nil=>.nil
 |_,_,.cons n t r=>.cons ⟨t,rfl⟩ (uQ r)
section
variable{X:Cx}
def aES(K:PySem.W.Frag):List V->Hp->VK->Prop:=λ xs H Q=>∃p ns,xs=[.ref p]/\SqL K H p (ns.map V.int)/\ns.length<64/\New H (.lst ((sortI ns).map V.int)) Q
theorem aCP:dR X (.builtin "sorted") (aES X.K):=by
 intro pins s σ H xs us Q I r h;obtain⟨p,ns,rfl,hp,h64,q⟩:=h;obtain⟨u,rfl,ru⟩:=vals1 r;cases ru;obtain⟨its,rv,pl,hz⟩:=I.list hp;have hI:IntsAre its ns:=intsAre_of rv;have hlen:its.length<64:=by
  have:=rv.length
  rw[List.length_map]at this;lia
 refine sorted_ints pl.isList hI hlen λ out ns' h1 h2 h3=>?_
 have e:ns'=sortI ns:=PySem.W.ksm_same (h2.trans (sortI_perm ns).symm) h3 (aAu ns);subst e;obtain⟨e,he⟩:=sortedAll_at s.heap its out;have hfr:H (s.heap.objs.size+1)=none:=I.hok.fresh (Nat.le_succ _);refine⟨.ref (s.heap.objs.size+1),upd H (s.heap.objs.size+1) (.lst ((sortI ns).map V.int)),I.laid (t':=s.toks) (λ b o q=>sortedAll_old q) (Nat.le_succ _) ?_,rfl,q.at hfr⟩;refine⟨?_,out.toList,e,uQ h1,?_⟩
 ·rw[List.length_map,h2.length_eq]
  exact Nat.le_trans (Nat.le_of_lt h64) (by decide)
 ·rw[Array.toArray_toList]
  exact he
theorem dR.or(h1:dR X f r1)(h2:dR X f r2):dR X f λ xs H Q=>r1 xs H Q\/r2 xs H Q:=λ pins s σ H xs us Q I r h=>h.elim (h1 pins s σ H xs us Q I r) (h2 pins s σ H xs us Q I r)
end
def aJR(K:PySem.W.Frag)(r:List V->Hp->VK->Prop)(fd:List D->Rs D):Prop:=∀(A:Addr->Prop) xs ds H (Q:VK) z,Rps K A H xs ds->fd ds= .ok z->(∀v H',aq H H'->Rp K (λ p=>H p=none) H' v z->Q v H')->r xs H Q
theorem aFJ{K:PySem.W.Frag}(hs:aJR K r fd)(h1:aLJ K G m ta g):km K G (some []) (tCB r ta) (opA fd g):=by
 intro τ σ H ρ lab Q R W;refine h1 τ σ H ρ lab _ R (W.bd.imp λ d _ w x H1 s1 r1=>?_);obtain⟨z,ez,w⟩:=w.okD;exact hs (fpM m lab H) x d H1 Q z r1 ez λ v H' s r=>w v H' (s1.trans s) (r.wk λ p o _ q=>.inl (s1.free q))
def lw:List D->Rs D
 |[.lst l]=>match nY l with
  |some nss=>if nss.length<64 then .ok (.lst ((lA nss).map tupI))else .st
  |none=>match intsOf l with
   |some ns=>if ns.length<64 then .ok (.lst ((sortI ns).map .int))else .st
   |none=>.st
 |_=>.st
theorem aGb{K:PySem.W.Frag}:aJR K (λ xs H Q=>aER K xs H Q\/aES K xs H Q) lw:=by
 intro A xs ds H Q z r ez q;unfold lw at ez;split at ez
 ·cases r with
  |cons h r=>
   cases r;cases h with
   |lst h m r=>
    split at ez
    ·rename_i nss e
     obtain⟨e1,e2⟩:=qC e;subst e1;split at ez
     ·rename_i hl
      cases ez;have ht:=yj r e2;exact .inl ⟨_,_,nss,rfl,SqL.of h,ht,by rw[ht.len];exact hl,aCa ht q⟩
     ·cases ez
    ·split at ez
     ·rename_i ns e
      have e1:=dC e;subst e1;split at ez
      ·rename_i hl
       cases ez;have e2:=r.ints_of;subst e2;exact .inr ⟨_,ns,rfl,SqL.of h,hl,λ p H' s hp hn=>q _ H' s (.lst hp hn .ints)⟩
      ·cases ez
     ·cases ez
 ·cases ez
section
variable{C:Ct}{pos p p2 pos2:Pos}{m:Mode}{a:Expr}{ga:En->Rs (List D)}
theorem rB(hm:C.mg "sorted"=none)(ha:SA C m [a] ga)(he:∀i,starEach [a] (C.X i).env=[(false,eval a (C.X i).env)]:=by intro _;rfl)(hg:∀i,Gl (C.X i) "sorted":=by intro _;rfl)(hv:bootBuiltins "sorted"=some (.builtin "sorted"):=by decide+kernel):SE C (some []) (.Call (.Name "sorted" p) [a] [] pos) (opA lw ga):=by
 obtain⟨t,h1,h2⟩:=ha;refine⟨_,λ i=>uf (r:=λ xs H Q=>aER C.K xs H Q\/aES C.K xs H Q) (by rw[<-C.hK i];exact aAj.or aCP) (hg i) (by rw[(C.cx i).2.2.2.1];exact hm) hv (h1 i) (by decide) (by decide) (he i) rfl,aFJ aGb h2⟩
def gw:List D->Rs D
 |[.lst l]=>match nY l with
  |some nss=>if nss.length<64/\(nss.map hsh).Nodup then .ok (.lst ((lA nss).map tupI))else .st
  |none=>.st
 |_=>.st
theorem aBb(hm:C.mg "sorted"=none)(hm2:C.mg "set"=none)(ha:SA C m [a] ga)(he:∀i,starEach [a] (C.X i).env=[(false,eval a (C.X i).env)]:=by intro _;rfl)(he2:∀i,starEach [Expr.Call (.Name "set" p2) [a] [] pos2] (C.X i).env=[(false,eval (.Call (.Name "set" p2) [a] [] pos2) (C.X i).env)]:=by intro _;rfl)(hg:∀i,Gl (C.X i) "sorted":=by intro _;rfl)(hv:bootBuiltins "sorted"=some (.builtin "sorted"):=by decide+kernel)(hg2:∀i,Gl (C.X i) "set":=by intro _;rfl)(hv2:bootBuiltins "set"=some (.type "set"):=by decide+kernel):
  SE C (some []) (.Call (.Name "sorted" p) [.Call (.Name "set" p2) [a] [] pos2] [] pos) (opA gw ga):=by
 obtain⟨t,h1,h2⟩:=ha;have hw:∀i,(C.X i).w=C.w:=λ i=>(C.cx i).2.1
 refine⟨tCB (aHc C.K C.w) (lr (tCB (aLZ C.K C.w) t) tH),λ i=>uf (by rw[<-C.hK i,<-hw i];exact aAk (C.calm i)) (hg i) (by rw[(C.cx i).2.2.2.1];exact hm) hv
  (gF (jf (by rw[<-C.hK i,<-hw i];exact aEt (C.calm i) (C.u64 i)) (hg2 i) (by rw[(C.cx i).2.2.2.1];exact hm2) hv2 (h1 i) (by decide) (by decide) (he i) rfl) jK (he2 i)) (by decide) (by decide) (he2 i) rfl,λ τ σ H ρ lab Q R W=>?_⟩
 refine h2 τ σ H ρ lab _ R (W.bd.imp λ ds _ w xs H1 s1 r1=>?_);obtain⟨z,ez,w⟩:=w.okD;unfold gw at ez;split at ez
 ·cases r1 with
  |cons h r=>
   cases r;cases h with
   |lst h m r=>
    split at ez
    ·rename_i nss e
     obtain⟨e1,e2⟩:=qC e;subst e1;split at ez
     ·rename_i hl
      cases ez;have ht:=yj r e2;have hlv:=hl.1;rw[<-ht.len]at hlv;refine⟨_,_,nss,rfl,SqL.of h,ht,hlv,hl.2,λ a H2 s2 ha hn=>⟨a,_,nss,rfl,ha,ht.up s2,hlv,?_⟩⟩;exact aCa (ht.up s2) λ v H' s r=>w v H' ((s1.trans s2).trans s) (r.wk λ p o _ q=>.inl ((s1.trans s2).free q))
     ·cases ez
    ·cases ez
 ·cases ez
end
def ddI(ns:List Int):List Int:=ns.foldl step_dedup []
theorem aIy(ns:List Int):firstMet (λ i=>ns.getD i 0) ns.length=ddI ns:=by
 unfold firstMet ddI;congr 1;refine List.ext_getElem (by simp) λ i h1 h2=>?_
 rw[List.getElem_map,List.getElem_range,List.getD_eq_getElem?_getD,List.getElem?_eq_getElem h2];rfl
theorem aKw(hl:l.Nodup)(n:Int):(step_dedup l n).Nodup/\∀x,x∈step_dedup l n↔x∈l\/x=n:=by
 unfold step_dedup;by_cases h:l.any (·==n)=true
 ·rw[if_pos h]
  have:n∈l:=by simpa using h
  exact⟨hl,λ x=>⟨.inl,λ q=>q.elim id λ e=>e▸this⟩⟩
 ·rw[if_neg h]
  have:n∉l:=by simpa using h
  refine⟨List.nodup_append.mpr ⟨hl,by simp,λ x hx y hy e=>?_⟩,λ x=>by simp⟩;rw[List.mem_singleton]at hy;subst hy;subst e;exact this hx
theorem aIx:∀(ns acc:List Int),acc.Nodup->(ns.foldl step_dedup acc).Nodup/\∀x,x∈ns.foldl step_dedup acc↔x∈acc\/x∈ns
 |[],acc,h=>⟨h,λ x=>by simp⟩
 |n::ns,acc,h=>by
  obtain⟨h1,h2⟩:=aKw h n;obtain⟨h3,h4⟩:=aIx ns _ h1;refine⟨h3,λ x=>?_⟩;rw[List.foldl_cons,h4,h2,List.mem_cons];constructor
  ·rintro((a|a)|a)
   ·exact .inl a
   ·exact .inr (.inl a)
   ·exact .inr (.inr a)
  ·rintro(a|a|a)
   ·exact .inl (.inl a)
   ·exact .inl (.inr a)
   ·exact .inr a
theorem rP(ns:List Int):(ddI ns).Nodup:=(aIx ns [] (by simp)).1
theorem aF4(ns:List Int)(x:Int):x∈ddI ns↔x∈ns:=by
 have:=(aIx ns [] (by simp)).2 x
 unfold ddI;simpa using this
theorem aIz(ns:List Int):(ddI ns).length<=ns.length:=sub_len (rP ns) λ x hx=>(aF4 ns x).mp hx
section
variable{X:Cx}
def aHd(K:PySem.W.Frag):List V->Hp->VK->Prop:=λ xs H Q=>∃p ns,xs=[.ref p]/\(SqL K H p (ns.map V.int)\/SqT K H p (ns.map V.int))/\ns.length<4000/\∀a H',aq H H'->H' a=some (.set (λ k=>(ddI ns).any (·==k)) (ddI ns).length)->H a=none->Q (.ref a) H'
theorem aCe(I:Inv X pins σ H s)(q:∀a H',aq H H'->H' a=some (.set (λ k=>(ddI ns).any (·==k)) (ddI ns).length)->H a=none->Q (.ref a) H')
  (g1:h'.SetOf (intKind X.prog X.w) s.heap.objs.size (λ k'=>(firstMet (λ i=>ns.getD i 0) ns.length).any (·==k')) (firstMet (λ i=>ns.getD i 0) ns.length).length)(g2:∀b o,s.heap.get? b=some o->h'.get? b=some o):EP X pins σ Q (.ref s.heap.objs.size) {s with heap:=h',toks:=tk}:=by
 rw[aIy]at g1;have hfr:H s.heap.objs.size=none:=I.hok.fresh (Nat.le_refl _);exact⟨.ref s.heap.objs.size,upd H s.heap.objs.size (.set (λ k=>(ddI ns).any (·==k)) (ddI ns).length),I.laid (t':=tk) g2 (Nat.le_refl _) g1,rfl,q _ _ (bL hfr _) bI hfr⟩
theorem aCd{s:Shared}{St:Nat->Shared->Prop}(hl:l<s.heap.objs.size)(hi:IntsAre its ns)(hz:ns.length<4000)
  (W:WalksS prog w A.in1 (s.heap.objs.size+1) [s.heap.objs.size+1,l] [s.heap.objs.size+1] (λ a b=>b=a) its.toArray.size (λ i v=>its.toArray[i]? =some v) St)(st:St 0 {s with heap:=(s.heap.push (cO #[] 0 (.fresh 0 0 led))).push oI})
  (R:Result->Shared->Prop)(hR:∀h' tk,h'.SetOf (intKind prog w) s.heap.objs.size (λ k'=>(firstMet (λ i=>ns.getD i 0) ns.length).any (·==k')) (firstMet (λ i=>ns.getD i 0) ns.length).length->(∀b o,s.heap.get? b=some o->h'.get? b=some o)->R (.ok (.ret .none)) {s with heap:=h',toks:=tk}):
  codeAny (model prog w) A (.builtin "set.update.loop" ⟨[.ref s.heap.objs.size,.ref (s.heap.objs.size+1)],[]⟩) R {s with heap:=(s.heap.push (cO #[] 0 (.fresh 0 0 led))).push oI}:=by
 have hlen:its.length=ns.length:=IntsAre.length hi;have hSf:s.heap.objs.size∉[s.heap.objs.size+1,l]:=by
  simp only[List.mem_cons,List.not_mem_nil,or_false,not_or];exact⟨Nat.ne_of_lt (Nat.lt_succ_self _),Nat.ne_of_gt hl⟩
 have hsz:its.toArray.size=ns.length:=by rw[List.size_toArray];exact hlen
 refine PyProof.Rows.codeAny_set_update_loopS W s.heap.objs.size hSf (λ i=>ns.getD i 0) (λ i v hv=>PyProof.Rows.IntsAre.int_at hi i v (by simpa using hv)) (by rw[hsz];unfold scanBound;lia) (its.toArray.size-0) 0 _ (by lia) (Nat.zero_le _) st ?_ λ s' hm hS'=>?_
 ·have hget:((s.heap.push (cO #[] 0 (.fresh 0 0 led))).push oI).get? s.heap.objs.size=some (cO #[] 0 (.fresh 0 0 led)):=Heap.get?_push_of_some _ (Heap.get?_push_size _ rfl)
  exact PyProof.Rows.SetOf_congr ((PyProof.Rows.setObjOf_fresh (knd:=intKind prog w) led).setOf hget (by unfold scanBound;lia)) (λ _=>rfl) rfl
 ·obtain⟨h',g',d',tk',os'⟩:=s'
  have eg:g'=s.gens:=hm.gens;have ed:d'=s.drawn:=hm.drawn;have eo:os'=s.os:=hm.os;subst eg;subst ed;subst eo;rw[hsz]at hS';refine hR h' tk' hS' λ b o e=>hm.heap b o ?_ (Heap.get?_push_of_some _ (Heap.get?_push_of_some _ e))
  have hb:=Heap.lt_size e;simp only[List.mem_cons,List.not_mem_nil,or_false,not_or];exact⟨Nat.ne_of_lt hb,Nat.ne_of_lt (Nat.lt_succ_of_lt hb)⟩
theorem aGe(hc:X.calm=true):dR X (.type "set") (aHd X.K):=by
 intro pins s σ H xs us Q I r h;obtain⟨p,ns,rfl,hp,hz,q⟩:=h;obtain⟨u,rfl,ru⟩:=vals1 r;cases ru;have hh:X.A.in1.in1.in1.handled=none:=I.ok.hd hc;have hsz:∀o:Obj,(s.heap.push o).objs.size=s.heap.objs.size+1:=λ o=>Heap.size_push _ _
 rcases hp with hp|hp
 ·obtain⟨its,rv,pl,_⟩:=I.list hp
  have hI:IntsAre its ns:=intsAre_of rv;have hl0:=pl.isList;obtain⟨ol,hol,hcl,nl,hdl⟩:=pl.isList;have hlS:p<s.heap.objs.size:=Heap.lt_size hol;refine PySem.qy (T:="list") (Φ:=λ h'=>h'.SetOf (intKind X.prog X.w) s.heap.objs.size (λ k'=>(firstMet (λ i=>ns.getD i 0) ns.length).any (·==k')) (firstMet (λ i=>ns.getD i 0) ns.length).length) ⟨ol,hol,hcl⟩ F.sub_list_set F.sub_list_frozenset (by decide)
   (λ h₁ A₁ E₁ Q₁ k q=>wpAny_pyIter_list (s:={s with heap:=h₁}) (items:=its.toArray) ⟨ol,k _ _ hol,hcl,nl,hdl⟩ q) (λ R hR=>?_) λ h' tk g1 g2=>aCe I q g1 g2
  rw[hsz];refine aCd hlS hI hz ((Walks.list hh _ p (Nat.ne_of_lt (Nat.lt_succ_of_lt hlS)) its.toArray).toS) ⟨?_,?_⟩ R hR
  ·have e:=Heap.get?_push_size (s.heap.push (cO #[] 0 (.fresh 0 0 (!X.w.params.followText "set-order")))) (o:={cls:=.type "list_iterator",data:=.fields #[.ref p,.int 0 0]}) rfl
   rw[hsz]at e;exact⟨_,e,rfl,rfl⟩
  ·exact⟨ol,Heap.get?_push_of_some _ (Heap.get?_push_of_some _ hol),hcl,nl,hdl⟩
 ·obtain⟨its,rv,pl,_⟩:=I.tuple hp
  have hI:IntsAre its ns:=intsAre_of rv;obtain⟨ol,hol,hcl,nl,hdl⟩:=id pl;have hlS:p<s.heap.objs.size:=Heap.lt_size hol;refine PySem.qy (T:="tuple") (Φ:=λ h'=>h'.SetOf (intKind X.prog X.w) s.heap.objs.size (λ k'=>(firstMet (λ i=>ns.getD i 0) ns.length).any (·==k')) (firstMet (λ i=>ns.getD i 0) ns.length).length) ⟨ol,hol,hcl⟩ F.sub_tuple_set F.sub_tuple_frozenset (by decide)
   (λ h₁ A₁ E₁ Q₁ k q=>wpAny_pyIter_tuple (s:={s with heap:=h₁}) (items:=its.toArray) ⟨ol,k _ _ hol,hcl,nl,hdl⟩ q) (λ R hR=>?_) λ h' tk g1 g2=>aCe I q g1 g2
  rw[hsz];refine aCd hlS hI hz ((Walks.tuple hh _ p (Nat.ne_of_lt (Nat.lt_succ_of_lt hlS)) its.toArray).toS) ⟨?_,?_⟩ R hR
  ·have e:=Heap.get?_push_size (s.heap.push (cO #[] 0 (.fresh 0 0 (!X.w.params.followText "set-order")))) (o:={cls:=.type "tuple_iterator",data:=.fields #[.ref p,.int 0 0]}) rfl
   rw[hsz]at e;exact⟨_,e,rfl,rfl⟩
  ·exact⟨ol,Heap.get?_push_of_some _ (Heap.get?_push_of_some _ hol),hcl,nl,hdl⟩
theorem aGl:dR X (.builtin "len") (λ xs H Q=>∃p S n,xs=[.ref p]/\H p=some (.set S n)/\Q (.int n) H):=by
 intro pins s σ H xs us Q I r h;obtain⟨p,S,n,rfl,hp,q⟩:=h;obtain⟨u,rfl,ru⟩:=vals1 r;cases ru;obtain⟨o,es,ep,t,ho,hex,hd,_,_,hb,hf,hn⟩:=I.hok p _ hp
 have:(es.size:Int)<2^63:=by unfold scanBound at hb;lia
 refine PySem.call_len_set ho hex hd hf this ⟨.int n,H,(I.tok _).tok _,?_,q⟩;exact⟨_,by rw[hn]⟩
end
theorem aH4{K:PySem.W.Frag}(nd:l.Nodup)(h:H a=some (.set (λ k=>l.any (·==k)) l.length))(m:A a):Rp K A H (.ref a) (.set l):=.set h m (λ i=>by
 rw[Bool.eq_iff_iff];simp) nd
def qI:List D->Rs D
 |[.lst l]=>match intsOf l with
  |some ns=>if ns.length<4000 then .ok (.set (ddI ns))else .st
  |none=>.st
 |[.tup l]=>match intsOf l with
  |some ns=>if ns.length<4000 then .ok (.set (ddI ns))else .st
  |none=>.st
 |_=>.st
theorem aN9{K:PySem.W.Frag}:aJR K (aHd K) qI:=by
 intro A xs ds H Q z r ez q;unfold qI at ez;split at ez
 ·cases r with
  |cons h r=>
   cases r;cases h with
   |lst h m r=>
    split at ez
    ·rename_i ns e
     have e1:=dC e;subst e1;split at ez
     ·rename_i hl
      cases ez;have e2:=r.ints_of;subst e2;exact⟨_,ns,rfl,.inl (SqL.of h),hl,λ a H' s ha hn=>q _ H' s (aH4 (rP ns) ha hn)⟩
     ·cases ez
    ·cases ez
 ·cases r with
  |cons h r=>
   cases r;cases h with
   |tup h r=>
    split at ez
    ·rename_i ns e
     have e1:=dC e;subst e1;split at ez
     ·rename_i hl
      cases ez;have e2:=r.ints_of;subst e2;exact⟨_,ns,rfl,.inr h,hl,λ a H' s ha hn=>q _ H' s (aH4 (rP ns) ha hn)⟩
     ·cases ez
    ·cases ez
 ·cases ez
def uG:List D->Rs D
 |[.set l]=>.ok (.int l.length)
 |ds=>bz ds
theorem aLA{K:PySem.W.Frag}:p7 K (λ xs H Q=>(∃p ys,xs=[.ref p]/\(SqL K H p ys\/SqT K H p ys)/\Q (.int ys.length) H)\/∃p S n,xs=[.ref p]/\H p=some (.set S n)/\Q (.int n) H) uG:=by
 intro A xs ds H Q z r ez q;unfold uG at ez;split at ez
 ·cases ez
  cases r with
  |cons h r=>
   cases r;cases h with
   |set h m hS nd=>exact .inr ⟨_,_,_,rfl,h,q _ H (aq.refl H) (.int _)⟩
 ·exact .inl (aJD A xs _ H Q z r ez q)
theorem aI7:∀x z,uG x= .ok z->imm z=true:=by
 intro x z e;unfold uG at e;split at e
 ·cases e;rfl
 ·exact aFh _ _ e
section
variable{C:Ct}{pos p:Pos}{m:Mode}{a:Expr}{ga:En->Rs (List D)}
theorem aEF(hm:C.mg "set"=none)(ha:SA C m [a] ga)(he:∀i,starEach [a] (C.X i).env=[(false,eval a (C.X i).env)]:=by intro _;rfl)(hg:∀i,Gl (C.X i) "set":=by intro _;rfl)(hv:bootBuiltins "set"=some (.type "set"):=by decide+kernel):SE C (some []) (.Call (.Name "set" p) [a] [] pos) (opA qI ga):=by
 obtain⟨t,h1,h2⟩:=ha;refine⟨_,λ i=>jf (r:=aHd C.K) (by rw[<-C.hK i];exact aGe (C.calm i)) (hg i) (by rw[(C.cx i).2.2.2.1];exact hm) hv (h1 i) (by decide) (by decide) (he i) rfl,aFJ aN9 h2⟩
theorem aBe(hm:C.mg "len"=none)(ha:SA C m [a] ga)(he:∀i,starEach [a] (C.X i).env=[(false,eval a (C.X i).env)]:=by intro _;rfl)(hg:∀i,Gl (C.X i) "len":=by intro _;rfl):SE C (some []) (.Call (.Name "len" p) [a] [] pos) (opA uG ga):=
 gf (kJ (λ i=>by have h:=(vN (X:=C.X i)).or aGl;rw[C.hK i]at h;exact h) aLA hg hm PySem.boot_len ha (by decide) (by decide) he) λ _ _ h=>nQ aI7 h
end
section
variable{K:PySem.W.Frag}{G:Gx}{wi:TI}{fi:En->Rs (List D)}{g:TG}{fg:D->En->Rs En}{tt:TT}
theorem aMA(hi:aJK K G wi fi)(hg:aJL K {G with E:=λ _ _ _=>False} g fg)(hfg:∀d,∃ρ1,fg d [.no]= .ok ρ1)(ht:aDr K {G with E:=λ _ _ _=>False} tt bV)(R:RR K G τ ρ σ H lab)
  (W:WR G (fi (shE ρ)) (λ ds=>ds.length<sizeLine/\∀(l:Addr) (as:List Addr) H',aq H H'->H l=none->H' l=some (.lst (as.map V.ref))->(l::as).Nodup->as.length=ds.length->(∀a∈as,H a=none/\H' a=some (.lst []))->Q (.ref l) H')):
  tLC wi (stV [none]) g tt (aHD tH) σ H Q:=by
 refine hi τ σ H _ _ _ R.shE (W.imp λ ds _ w J H1 lab1 τ1 s1 _ R1 jl=>?_);obtain⟨hlen,w⟩:=w;intro l hl;have hHl:H l=none:=s1.free hl;have nl:∀p o,H1 p=some o->p≠l:=λ p o e z=>by subst z;rw[hl]at e;cases e
 have RB:RR K {G with E:=λ _ _ _=>False} (τ1++τ) [.no] (stV [none] σ) H1 (λ p=>if p=l then(2,0)else(0,0)):=by
  refine⟨rfl,λ i s e=>?_,R1.old,λ p hp=>?_,λ q hq=>(R1.tm q hq).wk λ p o e _=>by rw[if_neg (nl p o e)];exact Nat.zero_le _⟩
  ·match i,e with
   |0,e=>cases e;exact .inl rfl
   |i+1,e=>simp at e
  ·by_cases z:p=l
   ·subst z;exact R1.old.free hl
   ·exact absurd (show(if p=l then((2,0):Nat×Nat)else(0,0)).1=0 by rw[if_neg z]) hp
 have labl:¬((λ p=>if p=l then((2,0):Nat×Nat)else(0,0)) l).1<=1:=by simp
 refine⟨λ i n acc H2=>∃as:List Addr,n=ds.length-i/\i<=ds.length/\acc=as.map V.ref/\H2 l=some (.lst acc)/\RR K {G with E:=λ _ _ _=>False} (τ1++τ) [.no] (stV [none] σ) H2 (λ p=>if p=l then(2,0)else(0,0))/\aq H H2/\as.length=i/\(l::as).Nodup/\∀a∈as,H a=none/\H2 a=some (.lst []),
  ⟨ds.length,[],by omega,by omega,rfl,bI,RB.up (bL hl _),s1.trans (bL hl _),rfl,by simp,λ a h=>by simp at h⟩,?_⟩
 rintro i n acc H2 ⟨as,rfl,hi',rfl,hH2,R2,s2,hlen2,hnd,hal⟩;refine⟨hH2,by rw[List.length_map];omega,?_⟩;have jj:=jl _ H2 λ q hq=>R2.tm q (List.mem_append_left _ hq)
 by_cases hlt:i<ds.length
 ·obtain⟨go,yl⟩:=(jj i).2 hlt
  refine .inr ⟨go,λ x H3 hy=>?_⟩;obtain⟨s3,d,ed,rx⟩:=yl x H3 hy;replace R2:=R2.up s3;replace hH2:=s3 _ _ hH2;replace s2:=s2.trans s3;replace hal:=λ a ha=>(⟨(hal a ha).1,s3 _ _ (hal a ha).2⟩:H a=none/\H3 a=some (.lst []))
  obtain⟨ρ1,e1⟩:=hfg d;refine hg (τ1++τ) x d _ H3 _ _ _ ρ1 R2 rx e1 λ σ4 R4=>?_
  refine ht (τ1++τ) σ4 H3 ρ1 _ _ R4 λ H5 s5=>?_
  rw[if_pos rfl];refine⟨Nat.zero_le _,λ p H6 s6 hp hn=>?_⟩;have hl6:H6 l=some (.lst (as.map V.ref)):=s6 _ _ (s5 _ _ hH2);have hpl:p≠l:=λ z=>by subst z;rw[s5 _ _ hH2]at hn;cases hn
  have hpa:p∉as:=λ z=>by
   have:=s5 _ _ (hal p z).2
   rw[hn]at this;cases this
  have hpH:H p=none:=(s2.trans s5).free hn;have B:oA l H6 (upd H6 l (.lst (as.map V.ref++[.ref p]))):=λ b o ne hb=>by rw[bZ ne];exact hb
  refine⟨hl6,ds.length-(i+1),by omega,as++[p],rfl,hlt,by rw[List.map_append];rfl,bI,?_,?_,by rw[List.length_append];simp;omega,?_,λ a ha=>?_⟩
  ·have R6:=R2.up (s5.trans s6)
   refine⟨R6.len,λ j s e=>?_,λ b o hb=>?_,R6.new,λ q hq=>(R6.tm q hq).but B hl6 rfl labl⟩
   ·match j,e with
    |0,e=>cases e;exact .inl rfl
    |j+1,e=>simp at e
   ·exact B b o (λ z=>by subst z;rw[R1.old.free hl]at hb;cases hb) (R6.old b o hb)
  ·exact λ b o hb=>B b o (λ z=>by subst z;rw[hHl]at hb;cases hb) (((s2.trans s5).trans s6) b o hb)
  ·obtain⟨n1,n2⟩:=List.nodup_cons.mp hnd
   refine List.nodup_cons.mpr ⟨λ z=>?_,List.nodup_append.mpr ⟨n2,by simp,λ x hx y hy e=>?_⟩⟩
   ·rcases List.mem_append.mp z with z|z
    ·exact n1 z
    ·exact hpl (List.mem_singleton.mp z).symm
   ·rw[List.mem_singleton]at hy
    subst hy;subst e;exact hpa hx
  ·rcases List.mem_append.mp ha with z|z
   ·refine⟨(hal a z).1,?_⟩
    rw[bZ λ q=>by subst q;exact(List.nodup_cons.mp hnd).1 z];exact s6 _ _ (s5 _ _ (hal a z).2)
   ·rw[List.mem_singleton]at z
    subst z;exact⟨hpH,by rw[bZ hpl];exact hp⟩
 ·have ei:i=ds.length:=by omega
  exact .inl ⟨by rw[ei];exact(jj _).1 (Nat.le_refl _),w l as H2 s2 hHl hH2 hnd (by omega) hal⟩
end
section
variable{C:Ct}{pos lpos:Pos}{tg iter:Expr}{sc:Scope}{N:List Str}{js:List (Option Nat)}{ks:List Nat}{fi:En->Rs (List D)}{fg:D->En->Rs En}
def llS(i:Nat)(fi:En->Rs (List D))(js:List (Option Nat))(fg:D->En->Rs En):En->Ou:=λ ρ=>(fi (shE ρ)).bo λ ds=>if ds.length<sizeLine then .nx (ρ.set i (.o2 (List.replicate ds.length [])))else .st
theorem aOF(hi:SI C tg iter fi)(hg:SG (C.blk sc N) tg ks fg)(hj:js=[none]:=by rfl)(hfg:∀d,∃ρ1,fg d [.no]= .ok ρ1:=by intro _;exact⟨_,rfl⟩)(hN:∀j,(C.X j).N[i]? =some x:=by intro _;rfl)(hx:∀j,Loc (C.X j).env.scope x:=by intro _;first|exact Or.inl rfl|exact Or.inr rfl)(hsw:∀j,swapsWith (.ListComp (.List [] lpos) [⟨tg,iter,[],0⟩] sc pos) (some (.Name x pos')) spos.line (C.X j).env=pure true:=by intro _;rfl)(hs:∀i x,foldedSetIterable iter (C.X i).env x=pure x:=by intro _ _;rfl)(hf:∀j,(C.X j).fn x=true\/(C.X j).env.scope.names.lookup x=some .local:=by intro _;first|exact .inl rfl|exact .inr rfl)(nd:∀j,(C.X j).N.Nodup:=by intro _;assumption)(hB:∀i,iQ (C.X i) sc N (stV js) ks:=by intro _;exact aCU rfl rfl rfl rfl rfl rfl):
  SS C (.Assign [.Name x pos'] (.ListComp (.List [] lpos) [⟨tg,iter,[],0⟩] sc pos) spos) (llS i fi js fg):=by
 subst hj;obtain⟨wi,i1,i2⟩:=hi;obtain⟨g,g1,g2,g3,g4⟩:=hg;obtain⟨tt,t1,t2⟩:=eO (C:=C.blk sc N);refine⟨_,λ j=>aCv (nd j) (hN j) (hx j) (hB j) (C.calm j) (i1 j) (λ c fp s₀ H₀=>g1 (j,c,fp,s₀,H₀)) g3 (λ c fp s₀ H₀=>t1 (j,c,fp,s₀,H₀)) (λ c fp s₀ H₀=>ue jK) (hsw j) (hs j) (hf j),λ τ σ H ρ lab De R W=>?_⟩;refine aMA i2 g2 hfg t2 R (W.bo.imp λ ds _ w=>?_);by_cases hl:ds.length<sizeLine
 ·rw[if_pos hl]at w
  refine⟨hl,λ l as H' s hn hH hnd hlen hal=>?_⟩;have hlab:∀p o,H p=some o->(λ p=>if p=l then(i+2,0)else if p∈as then(i+2,as.idxOf p+1)else cQ H 1 lab p) p=lab p:=λ p o e=>by
   dsimp only;have z1:p≠l:=λ z=>by subst z;rw[hn]at e;cases e
   have z2:p∉as:=λ z=>by rw[(hal p z).1]at e;cases e
   rw[if_neg z1,if_neg z2,bc e]
  have R':RR C.K C.G τ ρ σ H' (λ p=>if p=l then(i+2,0)else if p∈as then(i+2,as.idxOf p+1)else cQ H 1 lab p):=by
   refine(R.relab hlab λ p hp=>?_).up s;cases e:H p with
   |none=>exact R.old.free e
   |some o=>
    have:=hlab p o e
    dsimp only at this hp;rw[this]at hp;exact R.new p hp
  refine w _ _ _ (R'.put (s:=.o2 (List.replicate ds.length [])) ⟨l,as.map V.ref,rfl,hH,by dsimp only;rw[if_pos rfl],by rw[List.length_map,List.length_replicate];exact hlen,λ j x es e1 e2=>?_⟩);rw[List.getElem?_map,Option.map_eq_some_iff]at e1;obtain⟨a,e1,rfl⟩:=e1;have ees:es=[]:=by
   rw[List.getElem?_replicate]at e2;split at e2
   ·cases e2;rfl
   ·cases e2
  subst ees;have ha:a∈as:=List.mem_of_getElem? e1;have hla:a≠l:=λ z=>by subst z;exact(List.nodup_cons.mp hnd).1 ha
  have hj2:j<as.length:=(List.getElem?_eq_some_iff.mp e1).1;refine .lst (hal a ha).2 ?_ .nil
  show(if a=l then(i+2,0)else if a∈as then(i+2,as.idxOf a+1)else cQ H 1 lab a)=(i+2,j+1)
  rw[if_neg hla,if_pos ha];have hix:as.idxOf a<as.length:=List.idxOf_lt_length_iff.mpr ha
  have:as[as.idxOf a]? =some a:=by rw[List.getElem?_eq_getElem hix];exact congrArg some (List.getElem_idxOf hix)
  have:=(List.getElem?_inj hix (List.nodup_cons.mp hnd).2).mp (this.trans e1.symm)
  rw[this]
 ·rw[if_neg hl]at w
  exact False.elim w
end
def iz{α:Type}(l:List α)(i:Int)(y:α):List α:=l.take (if i<0 then(i+(l.length:Int)).toNat else min i.toNat l.length)++y::l.drop (if i<0 then(i+(l.length:Int)).toNat else min i.toNat l.length)
theorem aBD(l:List α)(i:Int)(y:α):(iz l i y).length=l.length+1:=by
 unfold iz;rw[List.length_append,List.length_cons,List.length_take,List.length_drop];omega
def aL2:V->List V->Hp->VK->Prop:=λ x vs H Q=>∃l xs i y,x= .ref l/\vs=[.int i,y]/\H l=some (.lst xs)/\-(2^63)<=i/\i<2^63/\xs.length<sizeLine/\∀H',oA l H H'->H' l=some (.lst (iz xs i y))->Q .non H'
theorem aKS:MtM X "list.insert" aL2:=by
 intro pins s σ H x vs v us Q I rx rv h;obtain⟨l,xs,i,y,rfl,rfl,hH,h1,h2,hz,q⟩:=h;cases rx;obtain⟨u1,u2,rfl,r1,r2⟩:=vals2 rv;obtain⟨t,rfl⟩:=r1;obtain⟨z,its,n,r,hl,e⟩:=I.lstM hH;have hf:Builtin.List.listFitsIndex i=true:=by unfold Builtin.List.listFitsIndex;simp;omega
 refine call_meets PySem.F.slot_list_insert ⟨_,e,rfl⟩ PySem.F.entry_list_insert (PySem.F.args_list_insert_3 _ _ _) (PySem.AutoSeq1.list_insert_list_int_val_1 l its.toArray n i t u2 (by simp[hf]) (by rw[List.size_toArray];omega)) ⟨e,?_⟩;refine⟨.non,_,I.lset (ys:=iz xs i y) (its':=iz its i u2) hH e ?_ ?_ ?_,rfl,q _ (λ b o ne hb=>by rw[bZ ne];exact hb) bI⟩
 ·show(its.toArray.extract 0 (if i<0 then(i+(its.toArray.size:Int)).toNat else min i.toNat its.toArray.size)).push u2++its.toArray.extract (if i<0 then(i+(its.toArray.size:Int)).toNat else min i.toNat its.toArray.size)=(iz its i u2).toArray
  rw[PySem.W.kl_ins_eq,List.size_toArray];rfl
 ·unfold iz
  rw[hl];exact(r.take _).append (.cons r2 (r.drop _))
 ·rw[aBD];omega
theorem Rps.iz{K:PySem.W.Frag}(r:Rps K A H xs ds)(h:Rp K A H x d)(i:Int):Rps K A H (VL.iz xs i x) (VL.iz ds i d):=by
 unfold VL.iz;rw[r.length];exact(r.take _).append (.cons h (r.drop _))
section
variable{C:Ct}{pos apos cpos p:Pos}{e e1 e2:Expr}{fe f1 f2:En->Rs D}{i:Nat}{x:Str}{m m1:Mode}
def aI0(i:Nat)(f1 f2:En->Rs D):En->Ou:=λ ρ=>match ρ[i]? with
 |some (.ow (.lst ds))=>(f1 ρ).bo λ k=>match k with
  | .int n=>(f2 ρ).bo λ d=>if -(2^63)<=n/\n<2^63/\ds.length<sizeLine then .nx (ρ.set i (.ow (.lst (iz ds n d))))else .st
  |_=>.st
 |_=>.st
theorem aFx(i:Nat)(he1:SE C m1 e1 f1)(he2:SE C m e2 f2)(hm:okN m=true:=by rfl)(hN:∀j,(C.X j).N[i]? =some x:=by intro _;rfl)(hv:∀j,Vis (C.X j).env.scope x:=by intro _;first|exact Or.inl rfl|exact Or.inr (Or.inl rfl)|exact Or.inr (Or.inr rfl))(hd:(x==("__debug__":Str))=false:=by decide)
  (hcd:(x==("__classdict__":Str))=false:=by decide)(hs1:∀j,starEach [e1,e2] (C.X j).env=(false,eval e1 (C.X j).env)::starEach [e2] (C.X j).env:=by intro _;rfl)(hs2:∀j,starEach [e2] (C.X j).env=[(false,eval e2 (C.X j).env)]:=by intro _;rfl)
  (hbase:∀j,attributeBase (.Name x p) "insert" (C.X j).env (eval (.Name x p) (C.X j).env)=eval (.Name x p) (C.X j).env:=by intro _;rfl)
  (hfew:∀j,((backTo cpos (starEach [e1,e2] (C.X j).env)).all (λ x=>!x.1)&&(backToKw cpos (keywordEach [] (C.X j).env)).all (λ x=>x.1.isSome)&&decide ([e1,e2].length+([]:List Keyword).length+(if ([]:List Keyword).isEmpty then 0 else 1)<30))=true:=by intro _;rfl)
  (hline:(apos.endLine==cpos.line)=true:=by rfl)(hplain:∀j,(backTo cpos (starEach [e2] (C.X j).env)).any (·.1)=false:=by intro _;rfl)
  (hsw:∀j,swapsWith (.Call (.Attribute (.Name x p) "insert" apos) [e1,e2] [] cpos) none pos.line (C.X j).env=pure false:=by intro _;rfl):
  SS C (.Expr (.Call (.Attribute (.Name x p) "insert" apos) [e1,e2] [] cpos) pos) (aI0 i f1 f2):=by
 obtain⟨t1,a1,a2⟩:=he1;obtain⟨t2,b1,b2⟩:=he2;refine⟨aAo (tBM C.K "list" aL2 (ym i) (lr t1 (lr t2 tH))),λ j=>rC (by rw[<-C.hK j];exact aCx PySem.F.plainAttrs_list PySem.F.slot_list_insert PySem.F.type_list_insert aKS (nj (hN j) (hv j) hd hcd) (gF (a1 j) (gF (b1 j) jK (hs2 j)) (hs1 j)) (hbase j) (hfew j) hline (hs1 j) (hplain j)) (hsw j),λ τ σ H ρ lab De R W=>?_⟩;unfold aI0 at W;cases es:ρ[i]? with
 |none=>rw[es]at W;exact False.elim W
 |some s=>
  rw[es]at W;split at W
  ·rename_i ds hs
   cases hs;rcases R.sl i _ es with z|⟨v,ev,hv'⟩
   ·cases z
   ·obtain⟨hv1,htop⟩:=hv'
    obtain⟨a0,ea0,la0⟩:=htop rfl;subst ea0;cases hv1 with
    |lst h mm r=>
     rename_i xs;refine⟨.ref a0,ev,.inl ⟨rfl,xs,SqL.of h⟩,a2 τ σ H ρ lab _ R (W.bo.imp λ k _ w y1 H1 s1 r1=>?_)⟩;cases k with
     |int n=>
      cases r1;refine b2 τ σ H1 ρ lab _ (R.up s1) (w.bo.imp λ d _ w y H2 s2 r2=>?_);by_cases hz: -(2^63)<=n/\n<2^63/\ds.length<sizeLine
      ·rw[if_pos hz]at w
       refine⟨a0,xs,n,y,rfl,rfl,(s1.trans s2) _ _ h,hz.1,hz.2.1,by rw[r.length];exact hz.2.2,λ H3 B h3=>?_⟩;obtain⟨R',r'⟩:=(R.up s1).fresh (P:=λ k=>k=1) rfl (λ k hk=>beq_iff_eq.mp (pF hm k hk)) s2 r2;have h1:H1 a0=some (.lst xs):=s1 _ _ h;have la:(cQ H1 1 lab a0).1=i+2:=by rw[bc h1];exact la0
       refine w σ H3 _ (R'.mut ev (s2 _ _ h1) rfl la B ⟨.lst h3 (.inr la) ?_,λ _=>⟨a0,rfl,la⟩⟩);have ra:Rps C.K (λ p=>((cQ H1 1 lab p).1=1\/(cQ H1 1 lab p).1=i+2)/\p≠a0) H2 (iz xs n y) (iz ds n d):=by
        refine(r.mono (s1.trans s2) λ p o e z=>⟨by rw[bc (s1 _ _ e)];exact z.1,z.2⟩).iz (r'.wk λ p o e z=>⟨.inl z,λ q=>?_⟩) n;subst q;rw[la]at z;omega
       exact ra.but B (s2 _ _ h1) rfl λ z=>z.2 rfl
      ·rw[if_neg hz]at w
       exact False.elim w
     |_=>exact False.elim w
  ·exact False.elim W
end
theorem aGf(hc:X.calm=true):dR X (.builtin "min") (λ xs H Q=>∃(p:Addr) (ns:List Int) (m:Int),xs=[.ref p]/\SqT X.K H p (ns.map V.int)/\ns.min?=some m/\Q (.int m) H):=by
 intro pins s σ H xs us Q I r h;obtain⟨p,ns,m,rfl,hp,hm,q⟩:=h;obtain⟨u,rfl,ru⟩:=vals1 r;cases ru;obtain⟨its,rv,pl,hz⟩:=I.tuple hp;obtain⟨ts,rfl,rfl⟩:=oM rv;have hsz:0<ts.toArray.size:=by
  cases ts with
  |nil=>cases hm
  |cons a b=>simp
 have hl:s.heap.IsTuple p (intItems ts.toArray):=by
  obtain⟨o,h1,h2,n,h3⟩:=pl;exact⟨o,h1,h2,n,by rw[h3];simp[intItems]⟩
 have hlt:p<s.heap.objs.size:=by obtain⟨_,e,_⟩:=hl;exact Heap.lt_size e
 refine call_min_walk (wpAny_pyIter_tuple hl ?_);refine⟨_,_,_,_,_,_,_,rfl,Walks.tuple (A:=X.A.in1) (I.ok.hd hc) _ p (Nat.ne_of_lt hlt) (intItems ts.toArray),⟨⟨_,Heap.get?_push_size _ rfl,rfl,rfl⟩,hl.push _⟩,λ b hb=>?_,by simpa[intItems]using hsz,CmpOf.ints_lt (numAt ts.toArray) (λ _ _=>intItems_at),λ v h' tk hv hk=>?_⟩
 ·show b<(s.heap.push _).objs.size
  rw[Heap.size_push];simp only[List.mem_cons,List.not_mem_nil,or_false]at hb;rcases hb with e|e<;>subst e
  ·exact Nat.lt_succ_self _
  ·exact Nat.lt_succ_of_lt hlt
 have hv':(intItems ts.toArray)[argBest (λ i j=>decide (numAt ts.toArray i<numAt ts.toArray j)) (ts.toArray.size-1)]? =some v:=by simpa[intItems]using hv
 obtain⟨t,rfl⟩:=intItems_at hv';obtain⟨h1,h2⟩:=argBest_lt (numAt ts.toArray) (ts.toArray.size-1);have hM:(ts.map Prod.fst).min?=some (numAt ts.toArray (argBest (λ i j=>decide (numAt ts.toArray i<numAt ts.toArray j)) (ts.toArray.size-1))):=by
  rw[List.min?_eq_some_iff];refine⟨?_,λ a ha=>?_⟩
  ·rw[numAt_eq];exact getD_mem (by rw[List.length_map];simp at h1 hsz ⊢;omega)
  ·obtain⟨j,hj,rfl⟩:=mem_getD ha
   have:=h2 j (by rw[List.length_map]at hj;simp;omega)
   rw[numAt_eq _ j]at this;exact this
 rw[hm]at hM;injection hM with hM
 refine⟨.int m,H,I.kept λ b o e=>hk b o (λ z=>?_) (Heap.get?_push_of_some _ e),⟨t,by rw[hM]⟩,q⟩;rw[List.mem_singleton]at z;exact absurd (z▸Heap.lt_size e) (Nat.lt_irrefl _)
def iB(f:List Int->Option Int):List D->Rs D
 |[.tup l]=>match intsOf l with
  |some ns=>match f ns with
   |some m=>.ok (.int m)
   |none=>.st
  |none=>.st
 |ds=>aDC f ds
theorem aDb{K:PySem.W.Frag}:p7 K (λ xs H Q=>(∃(p:Addr) (ns:List Int) (m:Int),xs=[.ref p]/\SqT K H p (ns.map V.int)/\f ns=some m/\Q (.int m) H)\/∃(p:Addr) (ns:List Int) (m:Int),xs=[.ref p]/\H p=some (.lst (ns.map V.int))/\f ns=some m/\Q (.int m) H) (iB f):=by
 intro A xs ds H Q z r ez q;unfold iB at ez;split at ez
 ·split at ez
  ·rename_i l ns e
   split at ez
   ·rename_i m em
    cases ez
    have:=dC e
    subst this;cases r with
    |cons h r=>
     cases r;cases h with
     |tup h r=>
      have:=r.ints_of
      subst this;exact .inl ⟨_,ns,m,rfl,h,em,q _ H (aq.refl H) (.int _)⟩
   ·cases ez
  ·cases ez
 ·exact .inr (aKy A xs _ H Q z r ez q)
theorem aBF:∀x z,iB f x= .ok z->imm z=true:=by
 intro x z e;unfold iB at e;split at e
 ·split at e
  ·split at e
   ·cases e;rfl
   ·cases e
  ·cases e
 ·exact aI3 _ _ e
section
variable{C:Ct}{pos p:Pos}{a:Expr}{ga:En->Rs (List D)}{m:Mode}
theorem aBc(hm:C.mg "min"=none)(ha:SA C m [a] ga)(he:∀i,starEach [a] (C.X i).env=[(false,eval a (C.X i).env)]:=by intro _;rfl)(hg:∀i,Gl (C.X i) "min":=by intro _;rfl)(hv:bootBuiltins "min"=some (.builtin "min"):=by decide+kernel):SE C (some []) (.Call (.Name "min" p) [a] [] pos) (opA (iB List.min?) ga):=
 gf (kJ (λ i=>by have h:=(aGf (X:=C.X i) (C.calm i)).or (aGg (C.calm i));rw[C.hK i]at h;exact h) aDb hg hm hv ha (by decide) (by decide) he) λ _ _ h=>nQ aBF h
end
theorem wL:∀{us:List α},us.length=1->∃a0,us=[a0]
 |[a0],_=>⟨a0,rfl⟩
theorem pH:∀{us:List α},us.length=2->∃a0 a1,us=[a0,a1]
 |[a0,a1],_=>⟨a0,a1,rfl⟩
theorem aO5:∀{us:List α},us.length=3->∃a0 a1 a2,us=[a0,a1,a2]
 |[a0,a1,a2],_=>⟨a0,a1,a2,rfl⟩
theorem aNH:∀{us:List α},us.length=4->∃a0 a1 a2 a3,us=[a0,a1,a2,a3]
 |[a0,a1,a2,a3],_=>⟨a0,a1,a2,a3,rfl⟩
theorem aGZ:∀{us:List α},us.length=6->∃a0 a1 a2 a3 a4 a5,us=[a0,a1,a2,a3,a4,a5]
 |[a0,a1,a2,a3,a4,a5],_=>⟨a0,a1,a2,a3,a4,a5,rfl⟩
section
variable{K:PySem.W.Frag}{G:Gx}{wi:TI}{fi:En->Rs (List D)}{js:List (Option Nat)}{g:TG}{fg:D->En->Rs En}{tt:TT}{ft:En->Rs Bool}{te:TE}{fe:En->Rs D}
end
section
variable{C:Ct}{pos:Pos}{elt tg iter:Expr}{ifs:List Expr}{sc:Scope}{N:List Str}{js:List (Option Nat)}{ks:List Nat}{fi:En->Rs (List D)}{fg:D->En->Rs En}{ft:En->Rs Bool}{fe:En->Rs D}
end
section
variable{C:Ct}{pos apos cpos p:Pos}{e a:Expr}{fe fa:En->Rs D}{i:Nat}{x:Str}{m:Mode}
end
section
variable{C:Ct}{pos tpos p:Pos}{ek e:Expr}{fk fe:En->Rs D}{x:Str}{m m1:Mode}{op:Operator}{g:Int->Int->Int}
end
def bB(j:Int):List Int:=(List.range j.toNat).map λ(k:Nat)=>0+(k:Int)
def aML:List V->Hp->VK->Prop:=λ xs H Q=>∃j:Int,xs=[.int j]/\∀p,H p=none->Q (.ref p) (upd H p (.rng 0 j))
theorem aDh:dR X (.type "range") aML:=by
 intro pins s σ H vs us Q I rv h;obtain⟨j,rfl,q⟩:=h;obtain⟨u,rfl,ru⟩:=rv.one;obtain⟨t,rfl⟩:=ru;exact call_range_1 ⟨.ref s.heap.objs.size,_,I.laid (a:=s.heap.objs.size) (o:=.rng 0 j) (t':=s.toks+1+1) (λ _ _ q=>Heap.get?_push_of_some _ q) (Nat.le_refl _) ⟨_,_,_,Heap.get?_push_size _ rfl⟩,rfl,q _ (I.hok.fresh (Nat.le_refl _))⟩
def aCt:List V->Hp->VK->Prop:=λ xs H Q=>∃(p:Addr) (j:Int),xs=[.ref p]/\H p=some (.rng 0 j)/\-(2^62)<=j/\j<=10000/\∀l H',aq H H'->H l=none->H' l=some (.lst ((bB j).map V.int))->Q (.ref l) H'
theorem aFD:∀{ns:List Int} {us:List Value},ns.length=us.length->(∀(k:Nat) i,ns[k]? =some i->∃tk,us[k]? =some (.int i tk))->Vals (ns.map V.int) us:=by
 intro ns;induction ns with
 |nil=>intro us hl _;rw[List.eq_nil_of_length_eq_zero hl.symm];exact .nil
 |cons n ns ih=>
  intro us hl h;obtain⟨tk,e⟩:=h 0 n rfl;cases us with
  |nil=>cases e
  |cons u us=>
   have e':u= .int n tk:=Option.some.inj e;subst e';exact .cons ⟨tk,rfl⟩ (ih (Nat.succ.inj hl) λ k i hi=>h (k+1) i hi)
theorem aCR(hc:X.calm=true):dR X (.type "list") aCt:=by
 intro pins s σ H vs us Q I rv h;obtain⟨p,j,rfl,hp,h1,h2,q⟩:=h;obtain⟨u,rfl,ru⟩:=rv.one;cases ru;obtain⟨t,u,v,hg⟩:=I.hok p _ hp;have hsz:Builtin.Range.rangeSize 0 j 1=(j.toNat:Int):=by
  unfold Builtin.Range.rangeSize;simp only[show(1:Int)>0 by decide,if_true];split<;>lia
 refine call_list_range (n:=j.toNat) (I.ok.hd hc) hg ?_ hsz (by lia) λ h' tk acc c' hk hS hacc=>?_
 ·have fl:∀x:Int,-(2^62)<=x->x<=2^62->Builtin.Range.rangeFitsLong x=true:=λ x hx1 hx2=>by
   unfold Builtin.Range.rangeFitsLong;simp;lia
  unfold Builtin.Range.small;rw[hsz,fl 0 (by lia) (by lia),fl j (by lia) (by lia),fl 1 (by lia) (by lia),fl _ (by lia) (by lia),if_pos (by decide),fl (j+(1-1)) (by lia) (by lia),Bool.or_true];rfl
 ·have hfr:=I.hok.fresh (Nat.le_refl s.heap.objs.size)
  have hv:Vals ((bB j).map V.int) acc.toList:=by
   have hl:(bB j).length=acc.toList.length:=by rw[show acc.toList.length=acc.size from Array.length_toList,hacc.1];simp[bB]
   refine aFD hl λ k i hi=>?_
   have hk2:k<acc.size:=by rw[hacc.1];have:=(List.getElem?_eq_some_iff.mp hi).1;simpa[bB]using this
   obtain⟨tk,e⟩:=hacc.2 k acc[k] (Array.getElem?_eq_getElem hk2);refine⟨tk,?_⟩;have ei:i=0+(k:Int)*1:=by
    unfold bB at hi;rw[List.getElem?_map]at hi;cases c:(List.range j.toNat)[k]? with
    |none=>rw[c]at hi;cases hi
    |some m=>
     rw[c]at hi;cases hi
     have:=List.getElem?_eq_some_iff.mp c
     have:m=k:=by simpa using this.2.symm
     subst this
     show(0:Int)+(m:Int)=0+(m:Int)*1
     lia
   rw[ei,<-e];simp[hk2]
  refine⟨.ref s.heap.objs.size,upd H s.heap.objs.size (.lst ((bB j).map V.int)),I.laid (t':=tk) hk (Nat.le_refl _) ⟨?_,acc.toList,c',hv,by simpa using hS⟩,rfl,q _ _ (bL hfr _) hfr bI⟩;simp[bB]
  have:sizeLine=16777216:=sizeLine_eq
  lia
def lrR:D->Rs D
 | .int j=>if -(2^62)<=j/\j<=10000 then .ok (.lst (dB 0 j))else .st
 |_=>.st
def lrD(fa:En->Rs D):En->Rs D:=λ ρ=>(fa ρ).bd lrR
theorem gW(j:Int):dB 0 j=(bB j).map D.int:=by
 unfold dB bB;rw[List.map_map,Int.sub_zero];rfl
section
variable{C:Ct}{pos pos2 p p2:Pos}{a:Expr}{fa:En->Rs D}{m:Mode}
theorem tO(hmL:C.mg "list"=none)(hmR:C.mg "range"=none)(ha:SE C m a fa)(hs:∀i,starEach [a] (C.X i).env=[(false,eval a (C.X i).env)]:=by intro _;rfl)(hs2:∀i,starEach [.Call (.Name "range" p2) [a] [] pos2] (C.X i).env=[(false,eval (.Call (.Name "range" p2) [a] [] pos2) (C.X i).env)]:=by intro _;rfl)(hgL:∀i,Gl (C.X i) "list":=by intro _;rfl)(hvL:bootBuiltins "list"=some (.type "list"):=by decide+kernel)(hgR:∀i,Gl (C.X i) "range":=by intro _;rfl):SE C (some []) (.Call (.Name "list" p) [.Call (.Name "range" p2) [a] [] pos2] [] pos) (lrD fa):=by
 obtain⟨t,h1,h2⟩:=ha;refine⟨tCB aCt (lr (tCB aML (lr t tH)) tH),λ i=>jf (aCR (C.calm i)) (hgL i) (by rw[(C.cx i).2.2.2.1];exact hmL) hvL (gF (jf aDh (hgR i) (by rw[(C.cx i).2.2.2.1];exact hmR) boot_range (gF (h1 i) jK (hs i)) (by decide) (by decide) (hs i) rfl) jK (hs2 i)) (by decide) (by decide) (hs2 i) rfl,λ τ σ H ρ lab Q R W=>?_⟩;refine h2 τ σ H ρ lab _ R (W.bd.imp λ d _ w y H1 s1 r1=>?_);unfold lrR at w;split at w
 ·rename_i j _
  by_cases hz: -(2^62)<=j/\j<=10000
  ·rw[if_pos hz]at w
   have ey:=r1.int_inv;subst ey;refine⟨j,rfl,λ q hq=>⟨q,j,rfl,bI,hz.1,hz.2,λ l H' s' hl hH'=>?_⟩⟩;have s0:=(s1.trans (bL hq _)).trans s';have hlH:H l=none:=(s1.trans (bL hq _)).free hl;refine w _ H' s0 (.lst hH' (.inl hlH) ?_);rw[gW];exact Rps.ints
  ·rw[if_neg hz]at w
   exact False.elim w
 ·exact False.elim w
end
def aNg(ρ:En)(i:Nat)(ds:List Int):D->Ou
 | .int z=>if ds.length<4000 then .nx (ρ.set i (.ow (.set (step_dedup ds z))))else .st
 |_=>.st
section
variable{C:Ct}{pos apos cpos p:Pos}{e a:Expr}{fe fa:En->Rs D}{i:Nat}{x:Str}{m:Mode}
end
section
variable{C:Ct}{pos p:Pos}{a b:Expr}{fa fb:En->Rs D}{m1 m2:Mode}
end
section
variable{prog:Program}{w:World}{A:Around}{E:Value->Shared->Prop}{s:Shared}{r:Addr}{a b c:Int}{t u v:Tok}{n:Nat}
def PR(a c:Int):Nat->Value->Prop:=λ i v=>∃t,v= .int (a+i*c) t
theorem aDd(hh:A.handled=none)(hr:IsRange s.heap r a b c t u v)(hsmall:Builtin.Range.small a b c=true)(hn:Builtin.Range.rangeSize a b c=n)(hlen:n<=2^24)
  (h:∀h' tk vs,s.heap.objs.size<h'.objs.size->(∀b o,s.heap.get? b=some o->h'.get? b=some o)->vs.length=n->(∀(j:Nat) v,vs[j]? =some v->PR a c j v)->Q vs {s with heap:=h',toks:=tk}):wpAny (model prog w) A (collect (.ref r)) Q E s:=by
 unfold collect;refine wpAny_bind (wpAny_runValue (codeAny_builtin PySem.F.entry_proto_collect ?_));rw[Around.under_plainId PySem.F.plain_proto_collect _];show wpAny _ A.in1 (newList []>>=λ l=>again (.builtin "list.__iadd__" ⟨[l,.ref r],[]⟩)) _ _ s;refine wpAny_bind (wpAny_newObj_type (wpAny_pure ⟨plainId_quiet PySem.F.plain_list_iadd _,codeAny_builtin PySem.F.entry_list_iadd ?_⟩));rw[Around.under_plainId PySem.F.plain_list_iadd _];show wpAny _ A.in1 (Builtin.List.listExtendWith (.ref s.heap.objs.size) (.ref r) (.ref s.heap.objs.size)) _ _ _;have fin:∀h' tk acc' c',(∀b o,b≠s.heap.objs.size->(s.heap.push (seqObj "list" #[] 0)).get? b=some o->h'.get? b=some o)->h'.get? s.heap.objs.size=some {cls:=.type "list",dict:=none,data:=.seq acc' c',slots:=#[]}->ItemsOf (PR a c) acc' n->
   wpAny (model prog w) A (do match (Value.ref s.heap.objs.size)with
    | .ref a=>match (<-load a).data with
     | .seq xs _=>pure xs.toList
     |_=>unsupported "internal:collect"
    |_=>unsupported "internal:collect") Q E {s with heap:=h',toks:=tk}:=λ h' tk acc' c' hk hS' hacc=>
  wpAny_bind (wpAny_load hS' (wpAny_pure (h h' tk acc'.toList (Heap.lt_size hS') (λ b o e=>hk b o (Nat.ne_of_lt (Heap.lt_size e)) (Heap.get?_push_of_some _ e)) (by rw[Array.length_toList];exact hacc.1) λ j v e=>hacc.2 j v (by rw[<-Array.getElem?_toList];exact e))))
 refine wpAny_mono (wpAny_extend_range (A:=A) (s:={s with heap:=s.heap.push (seqObj "list" #[] 0)}) (R:=λ r s'=>∃h' tk acc' c',r= .ok (.ret (.ref s.heap.objs.size))/\s'={s with heap:=h',toks:=tk}/\(∀b o,b≠s.heap.objs.size->(s.heap.push (seqObj "list" #[] 0)).get? b=some o->h'.get? b=some o)/\h'.get? s.heap.objs.size=some {cls:=.type "list",dict:=none,data:=.seq acc' c',slots:=#[]}/\ItemsOf (PR a c) acc' n)
  hh (Heap.get?_push_of_some _ hr) hsmall hn hlen s.heap.objs.size (.ref s.heap.objs.size) 0 (Heap.get?_push_size _ rfl) (λ h' tk acc' c' hk hS' hacc=>⟨h',tk,acc',c',rfl,rfl,hk,hS',hacc⟩)) (λ f s' hf=>?_) λ e s' he=>?_
 ·cases f with
  |done f=>
   obtain⟨h',tk,acc',c',q1,q2,q3,q4,q5⟩:=hf;cases q1;subst q2;exact fin h' tk acc' c' q3 q4 q5
  |again c=>
   refine⟨hf.1,codeAny_mono hf.2 λ r s' hr=>?_⟩;obtain⟨h',tk,acc',c',q1,q2,q3,q4,q5⟩:=hr;subst q1 q2;exact fin h' tk acc' c' q3 q4 q5
 ·obtain⟨h',tk,acc',c',q1,_⟩:=he
  cases q1
end
theorem yD(r:Addr)(a b c:Int)(t u v:Tok)(n:Nat)(hsmall:Builtin.Range.small a b c=true)(hn:Builtin.Range.rangeSize a b c=n)(hlen:n<=10000):
  Meets (Builtin.«tuple.__new__» ⟨[.type "tuple",.ref r],[]⟩)
   (λ A R s=>A.handled=none/\IsRange s.heap r a b c t u v/\∀(h':Heap) (tk:Nat) (vs:List Value),s.heap.objs.size<h'.objs.size->(∀b o',s.heap.get? b=some o'->h'.get? b=some o')->vs.length=n->(∀(j:Nat) v,vs[j]? =some v->PR a c j v)->
    R (.ok (.ret (.ref h'.objs.size))) {s with heap:=h'.push {cls:=.type "tuple",data:=.seq vs.toArray},toks:=tk}):=
 .of_wp λ prog w A R s h=>by
  obtain⟨hp,g,d,tk,os⟩:=s;obtain⟨hh,ht,h⟩:=h;have hsub:=sub_tuple_self;have hinit:=init_tuple_lookup;have hmh:=madeHere_tuple;have hT:Shared.TypeIs ⟨hp,g,d,tk,os⟩ (.ref r) "range":=⟨_,ht,rfl⟩;wp_walk using wpAny_loadPart' ht,wpAny_typeOf hT,aDd (A:=A.in1) (show A.in1.handled=none from hh) ht hsmall hn (Nat.le_trans hlen (by decide));intro h' tk' vs hlt hk hl hv;show wpAny _ _ (Builtin.Tuple.tupleExact vs.toArray>>=λ v=>ret v) _ _ _;unfold Builtin.Tuple.tupleExact;refine wpAny_bind (wpAny_newObj_type ?_ (by show vs.toArray.size<=sizeLine;rw[List.size_toArray,hl,sizeLine_eq];lia));exact wpAny_pure ⟨_,rfl,h h' tk' vs hlt hk hl hv⟩
def aFS:List V->Hp->VK->Prop:=λ xs H Q=>∃(p:Addr) (j:Int),xs=[.ref p]/\H p=some (.rng 0 j)/\-(2^62)<=j/\j<=10000/\∀l H',aq H H'->H l=none->H' l=some (.tup ((bB j).map V.int))->Q (.ref l) H'
theorem aFy(h1: -(2^62)<=j)(h2:j<=10000):Builtin.Range.rangeSize 0 j 1=(j.toNat:Int)/\Builtin.Range.small 0 j 1=true:=by
 have hsz:Builtin.Range.rangeSize 0 j 1=(j.toNat:Int):=by
  unfold Builtin.Range.rangeSize;simp only[show(1:Int)>0 by decide,if_true];split<;>lia
 refine⟨hsz,?_⟩;have fl:∀x:Int,-(2^62)<=x->x<=2^62->Builtin.Range.rangeFitsLong x=true:=λ x hx1 hx2=>by
  unfold Builtin.Range.rangeFitsLong;simp;lia
 unfold Builtin.Range.small;rw[hsz,fl 0 (by lia) (by lia),fl j (by lia) (by lia),fl 1 (by lia) (by lia),fl _ (by lia) (by lia),if_pos (by decide),fl (j+(1-1)) (by lia) (by lia),Bool.or_true];rfl
theorem aDg(hc:X.calm=true):dR X (.type "tuple") aFS:=by
 intro pins s σ H vs us Q I rv h;obtain⟨p,j,rfl,hp,h1,h2,q⟩:=h;obtain⟨u,rfl,ru⟩:=rv.one;cases ru;obtain⟨t,u,v,hg⟩:=I.hok p _ hp;obtain⟨hsz,hsm⟩:=aFy h1 h2;refine callType_new PySem.F.called_tuple (by decide) (PySem.F.typeCall_tuple_1 _) (PySem.F.newCall_tuple_1 _) (λ obj=>PySem.F.args_object_init_2 obj _) PySem.F.entry_tuple_new
  (yD p 0 j 1 t u v j.toNat hsm hsz (by lia)) ⟨I.ok.hd hc,hg,λ h' tk vs hlt hk hl hv=>⟨⟨_,Heap.get?_push_size _ rfl,rfl⟩,?_⟩⟩
 have hle:s.heap.objs.size<=h'.objs.size:=Nat.le_of_lt hlt;have hv2:Vals ((bB j).map V.int) vs:=by
  have hl2:(bB j).length=vs.length:=by rw[hl];simp[bB]
  refine aFD hl2 λ k i hi=>?_
  have hk2:k<vs.length:=by rw[<-hl2];exact(List.getElem?_eq_some_iff.mp hi).1
  obtain⟨tk,e⟩:=hv k vs[k] (List.getElem?_eq_getElem hk2);refine⟨tk,?_⟩;have ei:i=0+(k:Int)*1:=by
   unfold bB at hi;rw[List.getElem?_map]at hi;cases c:(List.range j.toNat)[k]? with
   |none=>rw[c]at hi;cases hi
   |some m=>
    rw[c]at hi;cases hi
    have:=List.getElem?_eq_some_iff.mp c
    have:m=k:=by simpa using this.2.symm
    subst this
    show(0:Int)+(m:Int)=0+(m:Int)*1
    lia
  rw[ei,<-e];exact List.getElem?_eq_getElem hk2
 have hfr:H h'.objs.size=none:=I.hok.fresh hle;refine⟨.ref h'.objs.size,upd H h'.objs.size (.tup ((bB j).map V.int)),I.laid (t':=tk) (λ b o e=>Heap.get?_push_of_some _ (hk b o e)) hle ⟨?_,vs,hv2,?_⟩,rfl,q _ _ (bL hfr _) hfr bI⟩
 ·simp[bB]
  have:sizeLine=16777216:=sizeLine_eq
  lia
 ·exact⟨_,Heap.get?_push_size _ rfl,rfl,0,rfl⟩
def trR:D->Rs D
 | .int j=>if -(2^62)<=j/\j<=10000 then .ok (.tup (dB 0 j))else .st
 |_=>.st
def trD(fa:En->Rs D):En->Rs D:=λ ρ=>(fa ρ).bd trR
section
variable{C:Ct}{pos pos2 p p2:Pos}{a:Expr}{fa:En->Rs D}{m:Mode}
theorem vf(hmL:C.mg "tuple"=none)(hmR:C.mg "range"=none)(ha:SE C m a fa)(hs:∀i,starEach [a] (C.X i).env=[(false,eval a (C.X i).env)]:=by intro _;rfl)(hs2:∀i,starEach [.Call (.Name "range" p2) [a] [] pos2] (C.X i).env=[(false,eval (.Call (.Name "range" p2) [a] [] pos2) (C.X i).env)]:=by intro _;rfl)(hgL:∀i,Gl (C.X i) "tuple":=by intro _;rfl)(hvL:bootBuiltins "tuple"=some (.type "tuple"):=by decide+kernel)(hgR:∀i,Gl (C.X i) "range":=by intro _;rfl):SE C (some []) (.Call (.Name "tuple" p) [.Call (.Name "range" p2) [a] [] pos2] [] pos) (trD fa):=by
 obtain⟨t,h1,h2⟩:=ha;refine⟨tCB aFS (lr (tCB aML (lr t tH)) tH),λ i=>jf (aDg (C.calm i)) (hgL i) (by rw[(C.cx i).2.2.2.1];exact hmL) hvL (gF (jf aDh (hgR i) (by rw[(C.cx i).2.2.2.1];exact hmR) boot_range (gF (h1 i) jK (hs i)) (by decide) (by decide) (hs i) rfl) jK (hs2 i)) (by decide) (by decide) (hs2 i) rfl,λ τ σ H ρ lab Q R W=>?_⟩;refine h2 τ σ H ρ lab _ R (W.bd.imp λ d _ w y H1 s1 r1=>?_);unfold trR at w;split at w
 ·rename_i j _
  by_cases hz: -(2^62)<=j/\j<=10000
  ·rw[if_pos hz]at w
   have ey:=r1.int_inv;subst ey;refine⟨j,rfl,λ q hq=>⟨q,j,rfl,bI,hz.1,hz.2,λ l H' s' hl hH'=>?_⟩⟩;refine w _ H' ((s1.trans (bL hq _)).trans s') (.tup (SqT.of hH') ?_);rw[gW];exact Rps.ints
  ·rw[if_neg hz]at w
   exact False.elim w
 ·exact False.elim w
end
section
variable{prog:Program}{w:World}{A:Around}{E:Value->Shared->Prop}{s:Shared}{it t:Addr}{i:Nat}{items:Array Value}
end
theorem aIZ{X:Cx}{pins:List (Addr×Obj)}{σ:List (Option V)}{H:Hp}{s:Shared}{h':Heap}{ch:List Addr}{p t':Nat}{o:HO}(I:Inv X pins σ H s)(hf:∀b∈ch,uO X pins H b)(k:∀b u,b∉ch->s.heap.get? b=some u->h'.get? b=some u)
  (hp:s.heap.objs.size<=p)(new:gm X.prog X.w (upd H p o) h' p o):Inv X pins σ (upd H p o) {s with heap:=h',toks:=t'}:=by
 have hn:=I.hok.fresh hp;have nch:∀b u,H b=some u->b∉ch:=λ b u e z=>by have:=(hf b z).1;rw[e]at this;cases this
 refine I.call (g':=s.gens) (d':=s.drawn) (ch:=ch) ⟨λ b u q _ _ hx=>k b u hx q,λ b u q _ _ hx=>⟨u.slots,k b u hx q⟩,λ b u q n _=>?_,λ b u q hx=>⟨u,k b u hx q⟩,λ b xs q=>?_,λ b u xs q=>?_,λ b ps q=>⟨#[],?_⟩⟩ (λ b u e=>?_) I.bare
  λ b hb=>let⟨_,f1,_,f3,f4,f5⟩:=hf b hb;⟨f3,f1,f4,f5⟩
 ·rw[bZ (Nat.ne_of_lt (Nat.lt_of_lt_of_le (Heap.lt_size q) hp))];exact n
 ·rw[bZ (dw q hn)];exact q
 ·rw[bZ (dw q hn)];exact q
 ·rw[bZ (dw q hn),q];simp
 ·by_cases hb:b=p
  ·subst hb;rw[bI]at e;cases e;exact new
  ·rw[bZ hb]at e
   refine(I.hok b u e).stay (λ c v hc q=>k c v ?_ q) (λ c q=>by rw[bZ (dw q hn)];exact q) λ c xs q=>by rw[bZ (dw q hn)];exact q
   rcases hc with rfl|hc
   ·exact nch _ _ e
   ·exact nch _ _ hc
def aD5(l:List D):List D:=l.zipIdx.map λ p=>.tup [.int (p.2:Int),p.1]
section
variable{C:Ct}{m:Mode}{a:Expr}{ga:En->Rs (List D)}{elts:List Expr}{x1:Nat}{ps p pos:Pos}
end
abbrev Ent:=List Int×Addr×V
section
variable{X:Cx}{pins:List (Addr×Obj)}{σ:L2.St}{H:Hp}{s:Shared}{a b:Addr}{k:List Int}{es:List Ent}
end
section
variable{C:Ct}{m1 m2:Mode}{a b:Expr}{fa fb:En->Rs D}{pos:Pos}
end
section
variable{K:PySem.W.Frag}{G:Gx}{wi:TI}{fi:En->Rs (List D)}{js:List (Option Nat)}{g:TG}{fg:D->En->Rs En}{tt:TT}{ft:En->Rs Bool}{tk tv:TE}{fk fv:En->Rs D}
end
section
variable{C:Ct}{pos:Pos}{kx vx tg iter:Expr}{ifs:List Expr}{sc:Scope}{N:List Str}{js:List (Option Nat)}{ks:List Nat}{fi:En->Rs (List D)}{fg:D->En->Rs En}{ft:En->Rs Bool}{fk fv:En->Rs D}
end
section
variable{prog:Program}{w:World}{A:Around}{E:Value->Shared->Prop}{s:Shared}{a:Addr}{led:Bool}{ks:List Int}
end
section
variable{X:Cx}
theorem ints_of:∀(tks:List (Int×Tok)),IntsAre (tks.map λ p=>Value.int p.1 p.2) (tks.map (·.1))
 |[]=>.nil
 |p::r=>.cons _ _ (ints_of r)
end
section
variable{C:Ct}{pos pos2 p p2:Pos}{m:Mode}{a:Expr}{ga:En->Rs (List D)}
end
theorem Rp.fn_inv{K:PySem.W.Frag}(r:Rp K A H v (.fn x)):∃a,v= .ref a/\PySem.W.nsIn K mainGlobals x=some (some (.ref a)):=by cases r with|fn h=>exact⟨_,rfl,h⟩
structure FnAt(C:Ct)(n:Nat)(x:Str)(F:List D->Rs D):Prop where
 ex:∃(fn:Addr) (fd:FuncData) (ps:List Str) (k:Nat),dJ C.prog C.w C.K C.mg C.base (CX1 C.prog C.w) k fn fd ps (spF C.K C.G.cl n F)/\k<=C.k/\PySem.W.nsIn C.K mainGlobals x=some (some (.ref fn))/\PySem.W.keepIn C.K (.ref fn)=true/\Binds C.K fd ps []
abbrev aGq:=List (Str×(List D->Rs D))
def Tab(C:Ct)(n:Nat)(tab:aGq):Prop:=∀q∈tab,FnAt C n q.1 q.2
theorem aJ0:Tab C n []:=λ q hq=>by cases hq
theorem aC5(hF:dJ C.prog C.w C.K C.mg C.base (CX1 C.prog C.w) k fn fd ps (spF C.K C.G.cl n F))(hr:k<=C.k)(hn:PySem.W.nsIn C.K mainGlobals x=some (some (.ref fn)))
  (hk:PySem.W.keepIn C.K (.ref fn)=true)(hb:Binds C.K fd ps [])(h:Tab C n tab):Tab C n ((x,F)::tab):=λ q hq=>by
 rcases List.mem_cons.mp hq with rfl|hq
 ·exact⟨fn,fd,ps,k,hF,hr,hn,hk,hb⟩
 ·exact h q hq
def fnOf(tab:aGq):Rs D->Option (List D->Rs D)
 | .ok (.fn x)=>tab.lookup x
 |_=>none
def tB(tab:aGq)(i:Nat)(ga:En->Rs (List D)):En->Rs D:=λ ρ=>match fnOf tab (aB i ρ)with
 |some F=>aO F ga ρ
 |none=>.st
theorem aG8(h:fnOf tab r=some F):∃x,r= .ok (.fn x)/\tab.lookup x=some F:=by
 unfold fnOf at h;split at h
 ·exact⟨_,rfl,h⟩
 ·cases h
def aLu(K:PySem.W.Frag)(cl:Str->Addr)(n:Nat)(E:XK)(tab:aGq)(i:Nat)(t:TA):TE:=λ σ H Q=>∃f x F,σ[i]? =some (some (.ref f))/\(x,F)∈tab/\PySem.W.nsIn K mainGlobals x=some (some (.ref f))/\aHF (spF K cl n F) [] E t σ H Q
theorem lookup_mem{tab:aGq}(h:tab.lookup x=some F):(x,F)∈tab:=by
 induction tab with
 |nil=>cases h
 |cons q tab ih=>
  obtain⟨y,G⟩:=q;rw[List.lookup_cons]at h;by_cases e:x==y
  ·simp only[e]at h
   cases h;rw[eq_of_beq e];exact List.mem_cons_self
  ·simp only[e]at h
   exact List.mem_cons_of_mem _ (ih h)
section
variable{C:Ct}{m:Mode}{e:Expr}{es:List Expr}{ga:En->Rs (List D)}{pos p:Pos}{n i:Nat}{y:Str}{tab:aGq}
theorem aHY(hT:Tab C n tab)(ha:SA C m (e::es) ga)(hn:∀ρ ds,ga ρ= .ok ds->ds.length=n)(hN:∀j,(C.X j).N[i]? =some y:=by intro _;rfl)(hv:∀j,Vis (C.X j).env.scope y:=by intro _;first|exact Or.inl rfl|exact Or.inr (Or.inl rfl)|exact Or.inr (Or.inr rfl))
  (hd:(y==("__debug__":Str))=false:=by decide)(hcd:(y==("__classdict__":Str))=false:=by decide)(he:∀i,starEach (e::es) (C.X i).env=(false,eval e (C.X i).env)::starEach es (C.X i).env:=by intro _;rfl)
  (hpl:∀i,(backTo pos (starEach es (C.X i).env)).any (·.1)=false:=by intro _;rfl):SE C (some []) (.Call (.Name y p) (e::es) [] pos) (tB tab i ga):=by
 obtain⟨t,h1,h2⟩:=ha;refine⟨aLu C.K C.G.cl n C.G.E tab i t,λ j=>?_,λ τ σ H ρ lab Q R W=>?_⟩
 ·obtain⟨e1,e2,e3,e4,e5⟩:=C.cx j
  intro pins s σ H Q I ⟨f,x,F,hs,hx,hf,h⟩;obtain⟨fn,fd,ps,k,hF,hr,hn',hk,hb⟩:=(hT _ hx).ex;rw[hf]at hn';cases hn';have fin:wpAny (model (C.X j).prog (C.X j).w) (C.X j).A (eval (.Name y p) (C.X j).env) (λ v s'=>v= .ref f/\s'=s) (C.X j).xe s:=by
   obtain⟨mm,hnn,hl⟩:=I.loc;obtain⟨u,ru,l⟩:=hl i y _ (hN j) hs (hv j);cases ru;rcases l with ⟨hk2,hm⟩|⟨hk2,c,hc,hcell⟩
   ·exact wpAny_Name (wpAny_loadName_local I.ok.kind hk2 hnn hm ⟨rfl,rfl⟩) hd
   ·rcases hk2 with hk2|hk2
    ·exact wpAny_Name (wpAny_loadName_cell I.ok.kind hk2 hc hcell ⟨rfl,rfl⟩) hd
    ·exact wpAny_Name (wpAny_loadName_free I.ok.kind hk2 hc hcell ⟨rfl,rfl⟩ hcd) hd
  refine wpAny_Call_Name_kw (thn fin λ v s' ⟨ev,es'⟩=>?_);subst ev es';refine PySem.W.callWith_K (h₀:=(C.X j).base) I.ok.mod.kin (by rw[e3];exact hk) (thn (h1 j pos pins s' σ H _ I h) λ us s1 ⟨vs,H1,I1,r,q⟩=>⟨I1.kIn,?_⟩) (he j) (hpl j);exact aH1 (CX:=CX1 (C.X j).prog (C.X j).w) (by rw[e1,e2,e3,e4,e5];exact hF) ((C.room j).mono hr) (by rw[e3];exact hb) .nil (C.pass j) I1 r q
 ·unfold tB at W
  cases hf:fnOf tab (aB i ρ)with
  |none=>rw[hf]at W;exact False.elim W
  |some F=>
   rw[hf]at W;obtain⟨x,hvd,hl⟩:=aG8 hf;obtain⟨v,hsv,rv⟩:∃v,σ[i]? =some (some v)/\Rp C.K (λ _=>True) H v (.fn x):=by
    unfold aB at hvd;split at hvd
    ·rename_i d' e'
     cases hvd;rcases R.sl i _ e' with z|⟨v,a,b⟩
     ·cases z
     ·exact⟨v,a,Rp.wk (λ _ _ _ _=>trivial) b⟩
    ·rename_i d' e'
     cases hvd;rcases R.sl i _ e' with z|⟨v,a,b⟩
     ·cases z
     ·exact⟨v,a,Rp.wk (λ _ _ _ _=>trivial) b⟩
    ·cases hvd
   obtain⟨a,rfl,hx⟩:=rv.fn_inv;exact⟨a,x,F,hsv,lookup_mem hl,hx,aCb (F:=F) hn h2 τ σ H ρ lab Q R W⟩
end
def shB:Slot->Bool
 | .no=>true
 | .sh _=>true
 |_=>false
def nsL(ρ:En)(fg:D->En->Rs En)(ft:En->Rs Bool)(inn:En->Rs (List D)):List D->Rs (List D)
 |[]=>.ok []
 |d::ds=>(fg d ρ).bd λ ρ1=>(ft ρ1).bd λ k=>if k=true then(inn ρ1).bd λ ys=>(nsL ρ fg ft inn ds).bd λ zs=>.ok (ys++zs)else nsL ρ fg ft inn ds
def inL(fi2:En->Rs (List D))(fg2:D->En->Rs En)(ft2:En->Rs Bool)(fe:En->Rs D):En->Rs (List D):=λ ρ1=>if ρ1.all shB=true then(fi2 ρ1).bd λ ds=>lcL ρ1 fg2 ft2 fe ds else .st
def aIQ(fi:En->Rs (List D))(js:List (Option Nat))(fg:D->En->Rs En)(ft:En->Rs Bool)(inn:En->Rs (List D)):En->Rs D:=λ ρ=>(fi (shE ρ)).bd λ ds=>match nsL (stE js (shE ρ)) fg ft inn ds with
 | .ok l=>if l.length<sizeLine then .ok (.lst l)else .st
 |_=>.st
theorem aIB(h:nsL ρ fg ft inn (d::ds)= .ok l):
  ∃ρ1 k,fg d ρ= .ok ρ1/\ft ρ1= .ok k/\((k=true/\∃ys zs,inn ρ1= .ok ys/\nsL ρ fg ft inn ds= .ok zs/\l=ys++zs)\/(k=false/\nsL ρ fg ft inn ds= .ok l)):=by
 unfold nsL at h;obtain⟨ρ1,e1,h⟩:=dY h;obtain⟨k,e2,h⟩:=dY h;refine⟨ρ1,k,e1,e2,?_⟩;cases k with
 |true=>
  rw[if_pos rfl]at h;obtain⟨ys,e3,h⟩:=dY h;obtain⟨zs,e4,h⟩:=dY h;exact .inl ⟨rfl,ys,zs,e3,e4,by cases h;rfl⟩
 |false=>
  rw[if_neg Bool.false_ne_true]at h;exact .inr ⟨rfl,h⟩
theorem aNS(h:inL fi2 fg2 ft2 fe ρ1= .ok ys):ρ1.all shB=true/\∃ds,fi2 ρ1= .ok ds/\lcL ρ1 fg2 ft2 fe ds= .ok ys:=by
 unfold inL at h;split at h
 ·rename_i hs
  obtain⟨ds,e1,e2⟩:=dY h;exact⟨hs,ds,e1,e2⟩
 ·cases h
theorem RR.butS{K:PySem.W.Frag}(R:RR K G τ ρ σ H lab)(hs:ρ.all shB=true)(hlab:¬(lab l).1<=1)(B:oA l H H')(hl:H l=some o)(ho:mQ o=true)(h0:G.H0 l=none):RR K G τ ρ σ H' lab:=by
 refine⟨R.len,λ j s e=>?_,λ b o hb=>?_,R.new,λ q hq=>(R.tm q hq).but B hl ho hlab⟩
 ·rcases R.sl j s e with z|⟨u,e1,e2⟩
  ·exact .inl z
  ·have hb:=List.all_eq_true.mp hs s (List.mem_of_getElem? e)
   cases s with
   |no=>exact .inl rfl
   |sh d=>exact .inr ⟨u,e1,Rp.but B hl ho hlab e2⟩
   |_=>cases hb
 ·exact B b o (λ z=>by subst z;rw[h0]at hb;cases hb) (R.old b o hb)
section
variable{K:PySem.W.Frag}{G:Gx}{wi wi2:TI}{fi fi2:En->Rs (List D)}{js:List (Option Nat)}{ks ks2:List Nat}{g g2:TG}{fg fg2:D->En->Rs En}{tt tt2:TT}{ft ft2:En->Rs Bool}{te:TE}{fe:En->Rs D}
theorem aMB(hi:aJK K G wi fi)(hg:aJL K {G with E:=λ _ _ _=>False} g fg)(hgo:p6 g ks)(hgm:aB3 g)(hk:∀k∈ks2,k∉ks/\(js[k]?).join=none)(ht:aDr K {G with E:=λ _ _ _=>False} tt ft)(hi2:aJK K {G with E:=λ _ _ _=>False} wi2 fi2)
  (hg2:aJL K {G with E:=λ _ _ _=>False} g2 fg2)(ht2:aDr K {G with E:=λ _ _ _=>False} tt2 ft2)(he:km K {G with E:=λ _ _ _=>False} (some []) te fe):
  km K G (some []) (aOB (λ _=>.lst []) wi (stV js) g tt (aHC ks2 wi2 g2 tt2 (aLS te))) (aIQ fi js fg ft (inL fi2 fg2 ft2 fe)):=by
 intro τ σ H ρ lab Q R W;refine hi τ σ H _ _ _ R.shE (W.bd.imp λ ds _ w J H1 lab1 τ1 s1 _ R1 jl=>?_);intro l hl;obtain⟨out,hout,hlen,w⟩:∃out,nsL (stE js (VL.shE ρ)) fg ft (inL fi2 fg2 ft2 fe) ds= .ok out/\out.length<sizeLine/\QE K (some []) lab H Q (.lst out):=by
  cases hout:nsL (stE js (VL.shE ρ)) fg ft (inL fi2 fg2 ft2 fe) ds with
  |ok out=>
   rw[hout]at w;dsimp only at w;split at w
   ·rename_i hz;exact⟨out,rfl,hz,w⟩
   ·exact False.elim w
  |ex c=>rw[hout]at w;exact False.elim w
  |st=>rw[hout]at w;exact False.elim w
 have R0:RR K {G with E:=λ _ _ _=>False} (τ1++τ) (VL.shE ρ) σ H1 (λ _=>(0,0)):=R1.blk0 rfl;have RB:=R0.block (js:=js) (λ _=>Nat.zero_le _) hl;have hHl:H l=none:=s1.free hl;have h0l:G.H0 l=none:=R1.old.free hl;have labl:¬((λ p=>if p=l then((2,0):Nat×Nat)else(0,0)) l).1<=1:=by simp
 have hsk:∀k∈ks2,(stV js σ)[k]? =some none\/(stV js σ)[k]? =none:=λ k hk2=>by
  have:=(hk k hk2).2
  unfold stV;rw[List.getElem?_map];cases e:js[k]? with
  |none=>exact .inr rfl
  |some o=>
   rw[e]at this;cases o with
   |none=>exact .inl rfl
   |some j=>cases this
 refine⟨λ i n H2=>∃(pre:List D) (acc:List V),n=ds.length-i/\i<=ds.length/\H2 l=some (.lst acc)/\RR K {G with E:=λ _ _ _=>False} (τ1++τ) (stE js (VL.shE ρ)) (stV js σ) H2 (λ p=>if p=l then(2,0)else(0,0))/\aq H H2/\Rps K (λ p=>H p=none/\p≠l) H2 acc pre/\
  ∃post,nsL (stE js (VL.shE ρ)) fg ft (inL fi2 fg2 ft2 fe) (ds.drop i)= .ok post/\out=pre++post,⟨ds.length,[],[],by lia,by lia,bI,RB.up (bL hl _),s1.trans (bL hl _),.nil,out,hout,rfl⟩,?_⟩
 rintro i n H2 ⟨pre,acc,rfl,hi',hH2,R2,s2,rpre,post,hpost,eout⟩;have jj:=jl _ H2 λ q hq=>R2.tm q (List.mem_append_left _ hq)
 by_cases hlt:i<ds.length
 ·obtain⟨go,yl⟩:=(jj i).2 hlt
  refine .inr ⟨go,λ x H3 hy=>?_⟩;obtain⟨s3,d,ed,rx⟩:=yl x H3 hy;replace R2:=R2.up s3;replace hH2:=s3 _ _ hH2;replace s2:=s2.trans s3;replace rpre:=rpre.up s3;have ed2:ds.drop i=d::ds.drop (i+1):=by
   rw[List.drop_eq_getElem_cons hlt]
   have:=List.getElem?_eq_getElem hlt
   rw[ed]at this;cases this;rfl
  rw[ed2]at hpost;obtain⟨ρ1,k,e1,e2,e3⟩:=aIB hpost;have hgx:=hgo _ _ _ _ (hg (τ1++τ) x d _ H3 _ _ (λ σ4 H4=>H4=H3/\RR K {G with E:=λ _ _ _=>False} (τ1++τ) ρ1 σ4 H3 (λ p=>if p=l then(2,0)else(0,0))) ρ1 R2 rx e1 λ σ4 R4=>⟨rfl,R4⟩);refine hgm _ _ _ _ _ (λ σ4 H4 ⟨⟨eH,R4⟩,hlen4,hag4⟩=>?_) hgx;subst eH;refine ht (τ1++τ) σ4 H4 ρ1 _ _ R4 ?_;rw[e2];intro H5 s5;rcases e3 with ⟨rfl,ys,zs,e3,e4,rfl⟩|⟨rfl,e4⟩
  ·rw[if_pos rfl]
   obtain⟨hsh,ds2,f1,f2⟩:=aNS e3;refine⟨λ k hk2 v e=>?_,?_⟩
   ·rw[hag4 k (hk k hk2).1]at e
    rcases hsk k hk2 with z|z<;>rw[z]at e<;>cases e
   refine hi2 (τ1++τ) σ4 H5 ρ1 _ _ (R4.up s5) ?_;rw[f1];intro J2 H6 lab6 τ6 s6 hlab6 R6 jl6;have hl6:H6 l=some (.lst acc):=s6 _ _ (s5 _ _ hH2);have lab6l:¬(lab6 l).1<=1:=by rw[hlab6 l _ (s5 _ _ hH2)];exact labl
   refine⟨λ j n2 H7=>∃(pre2:List D) (acc2:List V),n2=ds2.length-j/\j<=ds2.length/\H7 l=some (.lst acc2)/\RR K {G with E:=λ _ _ _=>False} (τ6++(τ1++τ)) ρ1 σ4 H7 lab6/\RR K {G with E:=λ _ _ _=>False} (τ1++τ) (stE js (VL.shE ρ)) (stV js σ) H7 (λ p=>if p=l then(2,0)else(0,0))/\aq H H7/\
    Rps K (λ p=>H p=none/\p≠l) H7 acc2 (pre++pre2)/\∃post2,lcL ρ1 fg2 ft2 fe (ds2.drop j)= .ok post2/\ys=pre2++post2,
    ⟨ds2.length,[],acc,by lia,by lia,hl6,R6,R2.up (s5.trans s6),(s2.trans s5).trans s6,by rw[List.append_nil];exact rpre.up (s5.trans s6),ys,f2,rfl⟩,?_⟩
   rintro j n2 H7 ⟨pre2,acc2,rfl,hj,hl7,R7,Rb7,s7,rpre2,post2,hpost2,eys⟩;have jj7:=jl6 _ H7 λ q hq=>R7.tm q (List.mem_append_left _ hq)
   by_cases hlt2:j<ds2.length
   ·obtain⟨go2,yl2⟩:=(jj7 j).2 hlt2
    refine .inr ⟨go2,λ x2 H8 hy2=>?_⟩;obtain⟨s8,d2,ed8,rx2⟩:=yl2 x2 H8 hy2;replace R7:=R7.up s8;replace Rb7:=Rb7.up s8;replace hl7:=s8 _ _ hl7;replace s7:=s7.trans s8;replace rpre2:=rpre2.up s8;have ed9:ds2.drop j=d2::ds2.drop (j+1):=by
     rw[List.drop_eq_getElem_cons hlt2]
     have:=List.getElem?_eq_getElem hlt2
     rw[ed8]at this;cases this;rfl
    rw[ed9]at hpost2;obtain⟨ρ2,k2,q1,q2,q3⟩:=aDP hpost2;refine hg2 (τ6++(τ1++τ)) x2 d2 _ H8 _ _ _ ρ2 R7 rx2 q1 λ σ9 R9=>?_
    refine ht2 (τ6++(τ1++τ)) σ9 H8 ρ2 _ _ R9 ?_;rw[q2];intro H9 s9;rcases q3 with ⟨rfl,y,ys2,q3,q4,rfl⟩|⟨rfl,q4⟩
    ·rw[if_pos rfl]
     refine he (τ6++(τ1++τ)) σ9 H9 ρ2 _ _ (R9.up s9) ?_;rw[q3];intro v Ha sa ra;have hla:Ha l=some (.lst acc2):=sa _ _ (s9 _ _ hl7);have B:oA l Ha (upd Ha l (.lst (acc2++[v]))):=λ b o ne hb=>by rw[bZ ne];exact hb
     have hsz:acc2.length<sizeLine:=by
      have h1:=rpre2.length;have h2:out.length=pre.length+(pre2.length+(ys2.length+1))+zs.length:=by rw[eout,eys];simp;lia
      rw[List.length_append]at h1;lia
     refine⟨acc2,hla,hsz,ds2.length-(j+1),by lia,pre2++[y],acc2++[v],rfl,hlt2,bI,(R7.up (s9.trans sa)).butS hsh lab6l B hla rfl h0l,(Rb7.up (s9.trans sa)).but_blk B hla rfl h0l,λ b o hb=>B b o (λ z=>by subst z;rw[hHl]at hb;cases hb) (((s7.trans s9).trans sa) b o hb),?_,ys2,q4,by rw[eys];simp⟩;rw[<-List.append_assoc];refine((rpre2.up (s9.trans sa)).append (.cons (ra.wk λ p o _ z=>?_) .nil)).but B hla rfl λ z=>z.2 rfl
     rcases z with z|z
     ·exact⟨(s7.trans s9).free z,λ e=>by subst e;rw[s9 _ _ hl7]at z;cases z⟩
     ·cases z
    ·rw[if_neg Bool.false_ne_true]
     exact⟨ds2.length-(j+1),by lia,pre2,acc2,rfl,hlt2,s9 _ _ hl7,R7.up s9,Rb7.up s9,s7.trans s9,rpre2.up s9,post2,q4,eys⟩
   ·have ej:j=ds2.length:=by lia
    subst ej;rw[List.drop_length]at hpost2;cases hpost2;rw[List.append_nil]at eys;subst eys;exact .inl ⟨(jj7 _).1 (Nat.le_refl _),ds.length-(i+1),by lia,_,acc2,rfl,hlt,hl7,Rb7,s7,rpre2,zs,e4,by rw[eout];simp⟩
  ·rw[if_neg Bool.false_ne_true]
   exact⟨ds.length-(i+1),by lia,pre,acc,rfl,hlt,s5 _ _ hH2,R2.up s5,s2.trans s5,rpre.up s5,post,e4,eout⟩
 ·have ei:i=ds.length:=by lia
  subst ei;rw[List.drop_length]at hpost;cases hpost;rw[List.append_nil]at eout;subst eout;exact .inl ⟨(jj _).1 (Nat.le_refl _),w _ H2 s2 (.lst hH2 (.inl hHl) (rpre.wk λ p o _ z=>⟨.inl z.1,z.2⟩))⟩
end
section
variable{C:Ct}{pos:Pos}{elt tg iter tg2 iter2:Expr}{ifs ifs2:List Expr}{sc:Scope}{N:List Str}{js:List (Option Nat)}{ks ks2:List Nat}{fi fi2:En->Rs (List D)}{fg fg2:D->En->Rs En}{ft ft2:En->Rs Bool}{fe:En->Rs D}
theorem aOJ(hi:SI C tg iter fi)(hg:SG (C.blk sc N) tg ks fg)(ht:aGn (C.blk sc N) ifs ft)(hi2:SI (C.blk sc N) tg2 iter2 fi2)(hg2:SG (C.blk sc N) tg2 ks2 fg2)(ht2:aGn (C.blk sc N) ifs2 ft2)(he:SE (C.blk sc N) (some []) elt fe)(hk:∀k∈ks2,k∉ks/\(js[k]?).join=none:=by decide)(hs:∀i x,foldedSetIterable iter (C.X i).env x=pure x:=by intro _ _;rfl)(hs2:∀(i:(C.blk sc N).ι) x,foldedSetIterable iter2 ((C.blk sc N).X i).env x=pure x:=by intro _ _;rfl)(hB:∀i,iQ (C.X i) sc N (stV js) (ks++ks2):=by intro _;exact aCU rfl rfl rfl rfl rfl rfl):
  SE C (some []) (.ListComp elt [⟨tg,iter,ifs,0⟩,⟨tg2,iter2,ifs2,0⟩] sc pos) (aIQ fi js fg ft (inL fi2 fg2 ft2 fe)):=by
 obtain⟨wi,i1,i2⟩:=hi;obtain⟨g,g1,g2,g3,g4⟩:=hg;obtain⟨tt,t1,t2⟩:=ht;obtain⟨wi2,j1,j2⟩:=hi2;obtain⟨gg,h1,h2,h3,h4⟩:=hg2;obtain⟨tt2,u1,u2⟩:=ht2;obtain⟨te,e1,e2⟩:=he;have go1:p6 g (ks++ks2):=λ v σ H Q q=>g4 _ _ _ _ _ (λ σ' H' ⟨a,b,c⟩=>⟨a,b,λ k hk=>c k λ z=>hk (List.mem_append_left _ z)⟩) (g3 v σ H Q q)
 refine⟨_,λ i=>aOU (pos:=pos) (hB i) (C.calm i) (i1 i) (λ c fp s₀ H₀=>g1 (i,c,fp,s₀,H₀)) go1 (λ c fp s₀ H₀=>t1 (i,c,fp,s₀,H₀)) (aGy elt tg iter tg2 iter2 ifs ifs2 sc pos) (aC7 rfl (λ _ _ _ _=>rfl) λ _ _ _ _ _=>rfl) aLI ?_ rfl rfl (hs i),aMB i2 g2 g3 g4 hk t2 j2 h2 u2 e2⟩;intro c fp s₀ H₀;exact aKE (C.calm i) (λ _ _ h=>h) (aGx elt tg iter tg2 iter2 ifs ifs2 sc pos) (aC7 rfl (λ _ _ _ _=>rfl) λ _ _ _ _ _=>rfl) (j1 (i,c,fp,s₀,H₀)) (h1 (i,c,fp,s₀,H₀)) h3 (u1 (i,c,fp,s₀,H₀)) (aM9 (e1 (i,c,fp,s₀,H₀))) (hs2 (i,c,fp,s₀,H₀))
end
def aNl(K:PySem.W.Frag)(a:Addr):It:=
 ⟨λ i H=>∃xs x,SqL K H a xs/\xs[i]? =some x,λ i H x H'=>∃p y,x= .ref p/\H p=none/\H'=upd H p (.tup [.int i,y])/\∀xs,SqL K H a xs->xs[i]? =some y,λ i H=>∃xs,SqL K H a xs/\xs.length<=i⟩
theorem aDy{K:PySem.W.Frag}(a e it:Addr)(hei:e≠it)(hae:a≠e)(hai:a≠it):
  Turn P w K (.Tuple elts x1 ps) (aNl K a) [e,it] e (λ i h=>(∃old,IsEnum h e it i old)/\h.IsListIter it a i) where
 mem:=by simp
 obj:=λ i h st b hb=>by
  obtain⟨⟨old,he⟩,o,e2,c,d⟩:=st;rcases List.mem_cons.mp hb with rfl|hb
  ·exact⟨_,he,λ v z=>by cases z⟩
  ·have q:b=it:=by simpa using hb
   subst q;exact⟨o,e2,λ v z=>by rw[d]at z;cases z⟩
 keep:=λ i h h' st k=>⟨let⟨old,he⟩:=st.1;⟨old,k e (by simp) _ he⟩,st.2.at λ o q=>k it (by simp) o q⟩
 item:=by
  intro X hP hw hK hc i pins s σ H E I hf st hg;subst hP hw hK;obtain⟨xs,x,hq,hx⟩:=hg;obtain⟨its,rv,p,hz⟩:=I.list hq;obtain⟨u,hu,ru⟩:=rv.get hx;obtain⟨⟨old,he⟩,hit⟩:=st;refine wpAny_pyNext_enum_itemD (Draws.list (A:=X.A.in1) (show X.A.in1.handled=none from I.ok.hd hc) it a hai its.toArray) he ⟨hit,p.isList⟩ (by have:=(List.getElem?_eq_some_iff.mp hu).1;simpa using this) hei (by simp[hei,Ne.symm hae]) λ y h' tk hy ho st' hT hsz hk=>⟨_,rfl,?_⟩
  have ey:y=u:=by
   have:its.toArray[i]? =some u:=by simpa using hu
   rw[this]at hy;exact(Option.some.inj hy).symm
  subst ey;have hel:e<s.heap.objs.size:=Heap.lt_size he;refine wpAny_letOwnedTupleGo_enum ho λ h2 he2 hs2=>⟨.ref s.heap.objs.size,upd H s.heap.objs.size (.tup [.int i,x]),?_,rfl,⟨_,x,rfl,I.hok.fresh (Nat.le_refl _),rfl,λ ys hy=>by rw[I.list_inj hy hq];exact hx⟩,⟨⟨_,by simpa using he2⟩,st'.1.at λ o q=>(hs2.2 it (Ne.symm hei)).trans q⟩,λ b hb=>?_⟩
  ·exact aIZ (s:=s) (h':=h2) (t':=tk+1) I hf (λ b u hb q=>(hs2.2 b λ z=>hb (by simp[z])).trans (hk b u (λ z=>hb (by simp[z])) (λ z=>hb (by simp[z])) q)) (Nat.le_refl _) ⟨by simp[sizeLine_eq],[.int i tk,y],.cons ⟨_,rfl⟩ (.cons ru .nil),_,(hs2.2 _ (Nat.ne_of_gt hel)).trans hT,rfl,_,rfl⟩
  ·have:=(hf b hb).1
   rw[bZ]
   ·exact this
   ·rintro rfl
    rcases List.mem_cons.mp hb with q|q
    ·exact absurd hel (by rw[<-q];exact Nat.lt_irrefl _)
    ·obtain⟨o,ho2,_⟩:=hit
     have q2:s.heap.objs.size=it:=by simpa using q
     exact absurd (Heap.lt_size ho2) (by rw[<-q2];exact Nat.lt_irrefl _)
 done:=by
  intro X hP hw hK hc i pins s σ H E I hf st hg;subst hP hw hK;obtain⟨xs,hq,hx⟩:=hg;obtain⟨its,rv,p,hz⟩:=I.list hq;obtain⟨⟨old,he⟩,hit⟩:=st;obtain⟨f0,f1,f2,f3,f4,f5⟩:=hf it (by simp);have hT:s.TypeIs (.ref e) "enumerate":=⟨_,he,rfl⟩;have hl:=rv.length;unfold pyNext;refine wpAny_bind (wpAny_attempt (wpAny_callSpecial?_slot (name:=Str.ofString "__next__") hT F.slot_enumerate_next (wpAny_call_entry F.slot_enumerate_next hT F.entry_enumerate_next ?_ (F.args_enumerate_next_1 _))));show wpAny _ _ (field (.ref e) 2>>=_) _ _ _;refine wpAny_bind (wpAny_field he rfl (x:=.ref it) rfl ?_);refine wpAny_bind (wpAny_nextOf_list_end (I.ok.hd hc) hit p.isList (by simp;lia) λ h' x he' hx'=>?_);obtain⟨o,ho,hc⟩:=hx';refine wpAny_bind (wpAny_isInstance (T:="StopIteration") (b:=true) ⟨o,ho,hc⟩ isSubtype_stop ?_);exact wpAny_pure ⟨rfl,I.turned (t':=s.toks) (λ b o hb q=>he' b o hb q) f0 f1 f3 f4 f5⟩
 self:=λ _ _ _ _ _ st h=>let⟨⟨_,he⟩,_⟩:=st;wpAny_pyIter_enum he h
def aIa(K:PySem.W.Frag)(tl:TA):TI:=λ σ H R=>tl σ H λ xs H1=>∃a,xs=[.ref a]/\(∃ys,SqL K H1 a ys)/\R (aNl K a) H1
theorem aHm{x1:Nat}(hl:PA X [l] tl)(hg:Gl X "enumerate")(hm:X.mg "enumerate"=none)(hv:bootBuiltins "enumerate"=some (.type "enumerate"))
  (he:starEach [l] X.env=[(false,eval l X.env)]:=by rfl):PI X (.Tuple elts x1 ps) (.Call (.Name "enumerate" p) [l] [] pos) (aIa X.K tl):=by
 intro pins s σ H R I h;refine wpAny_Call_Name_kw (wM I hg hm hv ?_ (by decide) (by decide));refine PyProof.Rows.callWith_type1 (thn (hl pos pins s σ H _ I h) λ us s1 ⟨vs,H1,I1,r1,a,e,⟨ys,hy⟩,q⟩=>?_) he rfl;subst e;obtain⟨u,rfl,ru⟩:=r1.one;cases ru;obtain⟨its,rv,pp,hz⟩:=I1.list hy;have ha:a<s1.heap.objs.size:=let⟨o,_,ho,_⟩:=pp;Heap.lt_size ho
 refine call_enumerate_list pp.isList λ h' he hit _ hk=>wpAny_pyIter_enum he ?_
 have n1:s1.heap.objs.size+1≠s1.heap.objs.size:=by lia
 refine⟨_,_,_,_,H1,rfl,I1.kept (t':=s1.toks) hk,aDy a _ _ n1 (Nat.ne_of_lt (Nat.lt_succ_of_lt ha)) (Nat.ne_of_lt ha),⟨⟨_,he⟩,hit⟩,λ b hb=>?_,q⟩;have hle:s1.heap.objs.size<=b:=by
  rcases List.mem_cons.mp hb with rfl|hb
  ·exact Nat.le_succ _
  ·have:b=s1.heap.objs.size:=by simpa using hb
   exact Nat.le_of_eq this.symm
 exact I1.fpOk hle (I1.hok.fresh hle)
def aD6:List D->Rs (List D)
 |[.lst l]=>.ok (aD5 l)
 |_=>.st
theorem aIV{K:PySem.W.Frag}(h:SqL K H a xs)(r:Rps K (λ p=>(lab p).1<=1) H xs ds):JL K lab (aNl K a) H (aD5 ds):=by
 have hl:=r.length;have hle:(aD5 ds).length=ds.length:=by simp[aD5]
 refine λ i=>⟨λ hi=>⟨xs,h,by lia⟩,λ hi=>⟨⟨xs,xs[i]'(by lia),h,by simp[hl,hle▸hi]⟩,λ x H' y=>?_⟩⟩
 obtain⟨p,y,rfl,hp,rfl,hy⟩:=y;obtain⟨d,h1,h2⟩:=r.get (hy xs h);refine⟨bL hp _,.tup [.int (i:Int),d],?_,.tup (.inl (.inl bI)) (.cons (.int _) (.cons (h2.up (bL hp _)) .nil))⟩;unfold aD5;rw[List.getElem?_map,List.getElem?_zipIdx,h1];simp
section
variable{C:Ct}{m:Mode}{a:Expr}{ga:En->Rs (List D)}{elts:List Expr}{x1:Nat}{ps p pos:Pos}
theorem aHS(ha:SA C m [a] ga)(hm:C.mg "enumerate"=none)(ho:okS m=true:=by rfl)(hs:∀i,starEach [a] (C.X i).env=[(false,eval a (C.X i).env)]:=by intro _;rfl)(hg:∀i,Gl (C.X i) "enumerate":=by intro _;rfl)(hv:bootBuiltins "enumerate"=some (.type "enumerate"):=by decide+kernel):
  SI C (.Tuple elts x1 ps) (.Call (.Name "enumerate" p) [a] [] pos) (cX aD6 ga):=by
 obtain⟨t,p1,p2⟩:=ha;refine⟨aIa C.K t,λ i=>by rw[<-C.hK i];exact aHm (p1 i) (hg i) (by rw[(C.cx i).2.2.2.1];exact hm) hv (hs i),λ τ σ H ρ lab Rr R W=>p2 τ σ H ρ lab _ R (W.bd.imp λ ds _ w vs H1 s r=>?_)⟩;cases ds with
 |nil=>exact False.elim w
 |cons d ds=>
  cases ds with
  |cons _ _=>cases d<;>exact False.elim w
  |nil=>
   obtain⟨v,rfl,rd⟩:=r.one_inv;cases d with
   |lst l=>
    obtain⟨R',r'⟩:=R.shared ho s rd;obtain⟨b,xs,rfl,h,mm,q⟩:=r'.lst_inv;refine⟨b,rfl,⟨xs,SqL.of h⟩,w _ H1 _ [(.ref b,.lst l)] s (λ p o e=>bc e) ⟨R'.len,R'.sl,R'.old,R'.new,λ z hz=>?_⟩ λ lab' H' hq=>?_⟩
    ·rcases List.mem_cons.mp hz with rfl|hz
     ·exact .lst h mm q
     ·exact R'.tm z hz
    ·have z:=hq _ (List.mem_cons_self ..)
     obtain⟨b',xs',e',h',_,q'⟩:=z.lst_inv;cases e';exact aIV (SqL.of h') (q'.wk λ _ _ _ z=>z.1)
   |_=>exact False.elim w
end
end VL
namespace HT
open PySem PySem.Spec PyProof.Rows
section
variable{prog:Program}{w:World}{A:Around}{E:Value->Shared->Prop}{s:Shared}
theorem aEM(n:Nat):Builtin.Slice.sliceAdjust none (some 0) (-1) (n:Int)=((n:Int)-1,if n=0 then -1 else 0):=by
 unfold Builtin.Slice.sliceAdjust;by_cases h:n=0
 ·subst h;rfl
 ·rw[if_neg h]
  simp;lia
theorem aEL(n:Nat):Builtin.Slice.slicePlaces ((n:Int)-1) (if n=0 then -1 else 0) (-1)=n-1:=by
 unfold Builtin.Slice.slicePlaces;rw[if_neg (by decide)];by_cases h:n=0
 ·subst h;rfl
 ·rw[if_neg h]
  by_cases h1:n=1
  ·subst h1;rfl
  ·rw[if_pos (by lia)]
   have e:((n:Int)-1-0-1) / (- -1)+1=((n-1:Nat):Int):=by
    rw[show(- -1:Int)=1 by decide,Int.ediv_one];lia
   rw[e];simp
theorem aH0(xs:Array Value):((List.range (xs.size-1)).filterMap λ(m:Nat)=>xs[(((xs.size:Int)-1)+(m:Int)*(-1)).toNat]?)=xs.toList.reverse.take (xs.size-1):=by
 have key:∀n,n<=xs.size->((List.range n).filterMap λ(m:Nat)=>xs[(((xs.size:Int)-1)+(m:Int)*(-1)).toNat]?)=xs.toList.reverse.take n:=by
  intro n;induction n with
  |zero=>intro _;simp
  |succ n ih=>
   intro hn;rw[List.range_succ,List.filterMap_append,ih (by lia),List.take_add_one];congr 1;have e:(((xs.size:Int)-1)+(n:Int)*(-1)).toNat=xs.size-1-n:=by lia
   simp only[List.filterMap_cons,List.filterMap_nil,e];rw[List.getElem?_reverse (by rw[Array.length_toList];lia)];have e2:xs.toList.length-1-n=xs.size-1-n:=by simp
   rw[e2,Array.getElem?_toList];have hlt:xs.size-1-n<xs.size:=by lia
   rw[Array.getElem?_eq_getElem hlt];rfl
 exact key _ (Nat.sub_le _ _)
theorem v5{n:Nat}(hs:s.heap.IsSliceOf sl .none (.int 0 u0) (.int (-1) u))
  (h:Q ((n:Int)-1,-1,n-1) s):wpAny (model prog w) A (Builtin.Slice.sliceApplied (.ref sl) (pure (n:Int))) Q E s:=by
 obtain⟨os,hos,hcs,hds⟩:=id hs;unfold Builtin.Slice.sliceApplied Builtin.Slice.sliceFields;refine wpAny_bind (wpAny_bind (wpAny_field hos hds (x:=.none) rfl (wpAny_bind (wpAny_field hos hds (x:=.int 0 u0) rfl (wpAny_bind (wpAny_field hos hds (x:=.int (-1) u) rfl (wpAny_pure ?_)))))));refine wpAny_bind (slicePart_int ?_);show wpAny _ _ (if ((-1:Int)==0)=true then _ else _) _ _ s;rw[if_neg (by decide)];refine wpAny_bind (slicePart_none (wpAny_bind (slicePart_int (wpAny_bind (wpAny_pure ?_)))));show wpAny _ _ (match Builtin.Slice.sliceAdjust none (some 0) (-1) (n:Int)with|(lo,hi)=>pure (lo,(-1:Int),Builtin.Slice.slicePlaces lo hi (-1))) _ _ s;rw[aEM n];show wpAny _ _ (pure ((n:Int)-1,(-1:Int),Builtin.Slice.slicePlaces ((n:Int)-1) (if n=0 then -1 else 0) (-1))) _ _ s;rw[aEL];exact wpAny_pure h
theorem uy(ht:IsTup s.heap t items)(hs:s.heap.IsSliceOf sl .none (.int 0 u0) (.int (-1) u))
  (h:Q (.ref s.heap.objs.size) {s with heap:=s.heap.push {cls:=.type "tuple",data:=.seq (items.toList.reverse.take (items.size-1)).toArray}})
  (hsz:items.size<=sizeLine):wpAny (model prog w) A (getItem (.ref t) (.ref sl)) Q E s:=by
 have htake:sizeOk (.seq (items.toList.reverse.take (items.size-1)).toArray):=by
  show(items.toList.reverse.take (items.size-1)).toArray.size<=sizeLine
  rw[List.size_toArray,List.length_take,List.length_reverse,Array.length_toList];lia
 obtain⟨os,hos,hcs,hds⟩:=id hs;have hTs:s.TypeIs (.ref sl) "slice":=⟨os,hos,hcs⟩;unfold getItem
 try with_reducible refine wpAny_holding ?_
 first|refine wpAny_bind (wpAny_pure ?_)|skip
 refine wpAny_bind (wpAny_sequenceKey ht.typeIs (by decide) ?_);refine wpAny_bind (wpAny_callSpecial?_slot (name:=Str.ofString "__getitem__") ht.typeIs PyProof.Rows.slot_tuple_getitem (wpAny_call_entry PyProof.Rows.slot_tuple_getitem ht.typeIs entry_tuple_getitem ?_ (args_tuple_getitem _ _)));show wpAny _ _ (Builtin.Tuple.tupleItemsOf (.ref t)>>=_) _ _ s;refine wpAny_bind (tupleItemsOf_ ht ?_);refine wpAny_bind (wpAny_typeOf hTs ?_);rw[if_pos (by decide)];refine wpAny_bind (v5 hs ?_);show wpAny _ _ (if (((items.size:Int)-1==0&&(-1:Int)==1&&items.size-1==items.size))=true then _ else _) _ _ s;rw[if_neg (by simp)];rw[aH0 items]
 first
  |exact wpAny_bind (m:=Builtin.Tuple.tupleExact _) (wpAny_newObj_type (wpAny_pure ⟨_,rfl,wpAny_pure h⟩) htake)
  |exact wpAny_bind (m:=Builtin.Tuple.tupleExact _) (wpAny_newObj_type (wpAny_bind (wpAny_pure (wpAny_pure ⟨_,rfl,wpAny_pure h⟩))) htake)
  |exact wpAny_bind (wpAny_bind (m:=Builtin.Tuple.tupleExact _) (wpAny_newObj_type (wpAny_pure (wpAny_pure ⟨_,rfl,wpAny_pure h⟩)) htake))
  |exact wpAny_bind (wpAny_bind (m:=Builtin.Tuple.tupleExact _) (wpAny_newObj_type (wpAny_pure ⟨_,rfl,wpAny_pure h⟩) htake))
end
end HT
namespace VL
open PySem PySem.Spec PyProof.Rows L2
def xn{α:Type}(l:List α):List α:=l.reverse.take (l.length-1)
def aCq:D->Rs D
 | .tup l=>.ok (.tup (xn l))
 |_=>.st
def aNw(K:PySem.W.Frag)(te:TE):TE:=λ σ H Q=>te σ H λ x H1=>∃a xs,x= .ref a/\SqT K H1 a xs/\∀c H',aq H1 H'->H' c=some (.tup (xn xs))->Q (.ref c) H'
theorem aM3(he:PE X e te):PE X (.Subscript e (.Slice none (some (.Constant (.int 0) j0 p0)) (some (.UnaryOp .USub (.Constant (.int 1) j p3) p4)) p2) pos) (aNw X.K te):=by
 intro pins s σ H Q I h;refine Subscript_ (thn (he pins s σ H _ I h) λ v s1 ⟨x,H1,I1,r1,q1⟩=>?_);obtain⟨a,xs,rfl,hx,q⟩:=q1;cases r1;have hz0:PE X (.Constant (.int 0) j0 p0) (tC (.int 0)):=aBr;have hm:PE X (.UnaryOp .USub (.Constant (.int 1) j p3) p4) (tUn (rU λ i=>.int (-i)) (tC (.int 1))):=aHo aDu aBr;refine wpAny_Slice ?_;rw[evalPart_none];refine wpAny_pure ?_;rw[evalPart_some];refine thn (hz0 pins s1 σ H1 (λ z H2=>z= .int 0/\H2=H1) I1 ⟨rfl,rfl⟩) λ u0 s0 ⟨z0,H0,I0,r0,ez0,eH0⟩=>?_
 subst ez0 eH0;obtain⟨tk0,rfl⟩:=r0;rw[evalPart_some];refine thn (hm pins s0 σ H0 (λ z H2=>z= .int (-1)/\H2=H0) I0 ⟨1,rfl,rfl,rfl⟩) λ u s2 ⟨z,H2,I2,r2,ez,eH⟩=>?_
 subst ez eH;obtain⟨tk,rfl⟩:=r2;have I4:Inv X pins σ H2 {s2 with heap:=s2.heap.push {cls:=.type "slice",data:=.fields #[.none,.int 0 tk0,.int (-1) tk]}}:=I2.kept (t':=s2.toks) λ b ob q=>Heap.get?_push_of_some _ q
 obtain⟨its,r,ht,hz⟩:=I4.tuple hx;have hlen:its.toArray.size=xs.length:=by rw[List.size_toArray];exact r.length.symm
 show wpAny (model X.prog X.w) X.A (subscriptTail e _ (.ref a) (.ref s2.heap.objs.size)) (EP X pins σ Q) X.xe _;refine tail_any (ops:=[.ref a,.ref s2.heap.objs.size]) ht.typeIs PyProof.Rows.slot_tuple_getitem.lookup ?_ (by with_unfolding_all rfl);refine HT.uy ht (Heap.IsSliceOf.new ..) ?_ (by rw[hlen];exact hz);refine⟨.ref _,_,I4.laid (t':=s2.toks) (o:=.tup (xn xs)) (λ b ob q=>Heap.get?_push_of_some _ q) (Nat.le_refl _) ?_,rfl,q _ _ (bL (I4.hok.fresh (Nat.le_refl _)) _) bI⟩;refine⟨by unfold xn;rw[List.length_take,List.length_reverse];lia,_,?_,IsTup.new _ _⟩;unfold xn;rw[hlen];exact r.reverse.take _
section
variable{C:Ct}{m:Mode}{e:Expr}{fe:En->Rs D}{pos p2:Pos}
theorem aMD(h:SE C m e fe):SE C m (.Subscript e (.Slice none (some (.Constant (.int 0) j0 p0)) (some (.UnaryOp .USub (.Constant (.int 1) j p3) p4)) p2) pos) (op1 aCq fe):=by
 obtain⟨t,h1,h2⟩:=h;refine⟨aNw C.K t,λ i=>by rw[<-C.hK i];exact aM3 (h1 i),λ τ σ H ρ lab Q R W=>h2 τ σ H ρ lab _ R (W.bd.imp λ d _ w x H1 s1 r1=>?_)⟩;obtain⟨z,ez,w⟩:=w.okD;cases d with
 |tup l=>
  cases ez;obtain⟨a,xs,rfl,h,r⟩:=r1.tup_inv;refine⟨_,_,rfl,h,λ c H' s hc=>w _ H' (s1.trans s) (.tup (SqT.of hc) ?_)⟩;unfold xn;rw[r.length];exact(Rps.take _ r.reverse).up s
 |_=>cases ez
end
def aE5:Nat->TA
 |0=>tH
 |n+1=>lr (aHD tH) (aE5 n)
def PN(C:Ct)(n:Nat)(elts:List Expr):Prop:=∀j,PA (C.X j) elts (aE5 n)
theorem aID:∀(n:Nat) (H:Hp) (Q:List V->Hp->Prop),(∀(as:List Addr) H',aq H H'->as.length=n->as.Nodup->(∀a∈as,H a=none/\H' a=some (.lst []))->Q (as.map V.ref) H')->aE5 n σ H Q:=by
 intro n;induction n with
 |zero=>intro H Q h;exact h [] H (aq.refl H) rfl List.nodup_nil λ a ha=>by cases ha
 |succ n ih=>
  intro H Q h;refine⟨Nat.zero_le _,λ p H1 s1 hp hn=>ih H1 _ λ as H' s' hl hnd hal=>h (p::as) H' (s1.trans s') (congrArg (·+1) hl) (List.nodup_cons.mpr ⟨λ z=>?_,hnd⟩) λ a ha=>?_⟩
  ·have:=(hal p z).1
   rw[hp]at this;cases this
  ·rcases List.mem_cons.mp ha with rfl|ha
   ·exact⟨hn,s' _ _ hp⟩
   ·exact⟨s1.free (hal a ha).1,(hal a ha).2⟩
section
variable{C:Ct}{elts:List Expr}{n i:Nat}{x:Str}{p lpos pos pos':Pos}
theorem aMV:PN C 0 []:=λ _=>jK
theorem aFU(h:PN C n elts)(hs:∀j,starEach (.List [] p::elts) (C.X j).env=(false,eval (.List [] p) (C.X j).env)::starEach elts (C.X j).env:=by intro _;rfl):PN C (n+1) (.List [] p::elts):=λ j=>gF (ue jK) (h j) (hs j)
def aGX(i n:Nat):En->Ou:=λ ρ=>if n<=sizeLine then .nx (ρ.set i (.o2 (List.replicate n [])))else .st
theorem aLz(h:PN C n elts)(hN:∀j,(C.X j).N[i]? =some x:=by intro _;rfl)(hx:∀j,Loc (C.X j).env.scope x:=by intro _;first|exact Or.inl rfl|exact Or.inr rfl)(hs:∀j,swapsWith (.List elts lpos) (some (.Name x pos')) pos.line (C.X j).env=pure false:=by intro _;rfl)(hf:∀j,(C.X j).fn x=true\/(C.X j).env.scope.names.lookup x=some .local:=by intro _;first|exact .inl rfl|exact .inr rfl)(nd:∀j,(C.X j).N.Nodup:=by intro _;assumption):
  SS C (.Assign [.Name x pos'] (.List elts lpos) pos) (aGX i n):=by
 refine⟨_,λ j=>aEU (nd j) (hN j) (hx j) (ue (h j)) (hs j) (hf j),λ τ σ H ρ lab De R W=>?_⟩;unfold aGX at W;by_cases hz:n<=sizeLine
 ·rw[if_pos hz]at W
  refine aID n H _ λ as H1 s1 hl hnd hal=>⟨by rw[List.length_map,hl];exact hz,λ l H' s2 hH hn1=>?_⟩
  have hn:H l=none:=s1.free hn1;have hla:l∉as:=λ z=>by have:=(hal l z).2;rw[hn1]at this;cases this
  have hlab:∀p o,H p=some o->(λ p=>if p=l then(i+2,0)else if p∈as then(i+2,as.idxOf p+1)else cQ H 1 lab p) p=lab p:=λ p o e=>by
   dsimp only;have z1:p≠l:=λ z=>by subst z;rw[hn]at e;cases e
   have z2:p∉as:=λ z=>by rw[(hal p z).1]at e;cases e
   rw[if_neg z1,if_neg z2,bc e]
  have R':RR C.K C.G τ ρ σ H' (λ p=>if p=l then(i+2,0)else if p∈as then(i+2,as.idxOf p+1)else cQ H 1 lab p):=by
   refine(R.relab hlab λ p hp=>?_).up (s1.trans s2);cases e:H p with
   |none=>exact R.old.free e
   |some o=>
    have:=hlab p o e
    dsimp only at this hp;rw[this]at hp;exact R.new p hp
  refine W _ _ _ (R'.put (s:=.o2 (List.replicate n [])) ⟨l,as.map V.ref,rfl,hH,by dsimp only;rw[if_pos rfl],by rw[List.length_map,List.length_replicate];exact hl,λ j x es e1 e2=>?_⟩);rw[List.getElem?_map,Option.map_eq_some_iff]at e1;obtain⟨a,e1,rfl⟩:=e1;have ees:es=[]:=by
   rw[List.getElem?_replicate]at e2;split at e2
   ·cases e2;rfl
   ·cases e2
  subst ees;have ha:a∈as:=List.mem_of_getElem? e1;have hal2:a≠l:=λ z=>by subst z;exact hla ha
  refine .lst (s2 _ _ (hal a ha).2) ?_ .nil
  show(if a=l then(i+2,0)else if a∈as then(i+2,as.idxOf a+1)else cQ H 1 lab a)=(i+2,j+1)
  rw[if_neg hal2,if_pos ha];have hix:as.idxOf a<as.length:=List.idxOf_lt_length_iff.mpr ha
  have:as[as.idxOf a]? =some a:=by rw[List.getElem?_eq_getElem hix];exact congrArg some (List.getElem_idxOf hix)
  have:=(List.getElem?_inj hix hnd).mp (this.trans e1.symm)
  rw[this]
 ·rw[if_neg hz]at W
  exact False.elim W
end
end VL
namespace PySem.AutoSeq1
set_option maxRecDepth 8000 in
theorem aE8(l:Addr)(items:Array Value)(n:Nat)(b:Addr)(items2:Array Value)(n2:Nat)(dd:Option Addr)(sl:Array (Option Value))(hs0:¬(!items.isEmpty&&Builtin.List.listTooLong (items.size+items2.size))=true)(hs1:items.size<=sizeLine)(hs2:items.size+items2.size<=sizeLine+1):
  Meets (Builtin.«list.extend» ⟨[.ref l,.ref b],[]⟩) (λ _ R s=>s.heap.get? l=some {cls:=.type "list",dict:=none,data:=.seq items n,slots:=#[]}/\s.heap.get? b=some {cls:=.type "tuple",dict:=dd,data:=.seq items2 n2,slots:=sl}/\
   R (.ok (.ret Value.none)) {s with heap:=s.heap.update l (Obj.mapSeq λ x=>x++items2),toks:=s.toks}):=
 .of_wp λ prog w A R s h=>by
  obtain⟨hp,g,d,tk,os⟩:=s;obtain⟨hl,hb,h⟩:=h;have f1:=idx_int;have f2:=sub_tuple_tuple;have f3:=sub_list_list;have f4:=sub_tuple_list;have f5:=sub_list_tuple;have hz':(items++items2).size<=sizeLine+1:=by rw[Array.size_append];exact hs2
  wp_walk using(wpAny_updateSeq hl rfl (hz:=hs1) (_hz':=hz')),wpAny_loadPart' hl,wpAny_loadPart' hb;exact⟨_,rfl,h⟩
end PySem.AutoSeq1
namespace VL
open PySem PySem.Spec PyProof.Rows L2
def aL3(K:PySem.W.Frag):V->List V->Hp->VK->Prop:=λ x vs H Q=>∃l b xs zs,x= .ref l/\vs=[.ref b]/\H l=some (.lst xs)/\SqT K H b zs/\xs.length+zs.length<=sizeLine/\∀H',oA l H H'->H' l=some (.lst (xs++zs))->Q .non H'
theorem aKT:MtM X "list.extend" (aL3 X.K):=by
 intro pins s σ H x vs v us Q I rx rv h;obtain⟨l,b,xs,zs,rfl,rfl,hH,hB,hz,q⟩:=h;cases rx;obtain⟨u,rfl,ru⟩:=rv.one;cases ru;obtain⟨z,its,n,r,hl,e⟩:=I.lstM hH;obtain⟨its2,r2,⟨⟨c2,dd,dt,sl⟩,e2,hc2,n2,hd2⟩,z2⟩:=I.tuple hB;replace hc2:c2= .type "tuple":=hc2;replace hd2:dt= .seq its2.toArray n2:=hd2;subst hc2 hd2;have l1:=r.length;have l2:=r2.length;have hsz:its.toArray.size+its2.toArray.size<=sizeLine:=by rw[List.size_toArray,List.size_toArray];lia
 have hlong:¬(!its.toArray.isEmpty&&Builtin.List.listTooLong (its.toArray.size+its2.toArray.size))=true:=by
  rw[zP hsz,Bool.and_false];exact Bool.false_ne_true
 refine call_meets F.slot_list_extend ⟨_,e,rfl⟩ F.entry_list_extend (F.args_list_extend_2 _ _) (AutoSeq1.aE8 l its.toArray n b its2.toArray n2 dd sl hlong (by lia) (by lia)) ⟨e,e2,?_⟩;refine⟨.non,_,I.lset (its':=its++its2) hH e (by simp) (r.append r2) ?_,rfl,q _ (λ b o ne hb=>by rw[bZ ne];exact hb) bI⟩;rw[List.length_append];lia
section
variable{C:Ct}{m1 m2:Mode}{a b:Expr}{fa fb:En->Rs D}{pos:Pos}
end
section
variable{C:Ct}{pos apos cpos p:Pos}{e:Expr}{fe:En->Rs D}{i:Nat}{x:Str}{m:Mode}
def aN1(ds:List D)(k:List D->Ou):D->Ou
 | .tup es=>if ds.length+es.length<=sizeLine then k (ds++es)else .st
 |_=>.st
def aAg(i:Nat)(fe:En->Rs D):En->Ou:=λ ρ=>match ρ[i]? with
 |some (.ow (.lst ds))=>(fe ρ).bo (aN1 ds λ l=>.nx (ρ.set i (.ow (.lst l))))
 |_=>.st
theorem aEA(i:Nat)(he:SE C m e fe)(hm:okN m=true:=by rfl)(hN:∀j,(C.X j).N[i]? =some x:=by intro _;rfl)(hv:∀j,Vis (C.X j).env.scope x:=by intro _;first|exact Or.inl rfl|exact Or.inr (Or.inl rfl)|exact Or.inr (Or.inr rfl))(hd:(x==("__debug__":Str))=false:=by decide)
  (hcd:(x==("__classdict__":Str))=false:=by decide)(hs1:∀j,starEach [e] (C.X j).env=[(false,eval e (C.X j).env)]:=by intro _;rfl)
  (hbase:∀j,attributeBase (.Name x p) "extend" (C.X j).env (eval (.Name x p) (C.X j).env)=eval (.Name x p) (C.X j).env:=by intro _;rfl)
  (hfew:∀j,((backTo cpos (starEach [e] (C.X j).env)).all (λ x=>!x.1)&&(backToKw cpos (keywordEach [] (C.X j).env)).all (λ x=>x.1.isSome)&&decide ([e].length+([]:List Keyword).length+(if ([]:List Keyword).isEmpty then 0 else 1)<30))=true:=by intro _;rfl)
  (hline:(apos.endLine==cpos.line)=true:=by rfl)
  (hsw:∀j,swapsWith (.Call (.Attribute (.Name x p) "extend" apos) [e] [] cpos) none pos.line (C.X j).env=pure false:=by intro _;rfl):
  SS C (.Expr (.Call (.Attribute (.Name x p) "extend" apos) [e] [] cpos) pos) (aAg i fe):=by
 obtain⟨t,h1,h2⟩:=he;refine⟨aAo (tBM C.K "list" (aL3 C.K) (ym i) (lr t tH)),λ j=>rC (by rw[<-C.hK j];exact aCx PySem.F.plainAttrs_list PySem.F.slot_list_extend PySem.F.type_list_extend aKT (nj (hN j) (hv j) hd hcd) (gF (h1 j) jK (hs1 j)) (hbase j) (hfew j) hline (hs1 j) rfl) (hsw j),λ τ σ H ρ lab De R W=>?_⟩;unfold aAg at W;cases es:ρ[i]? with
 |none=>rw[es]at W;exact False.elim W
 |some s=>
  rw[es]at W;split at W
  ·rename_i ds hs
   cases hs;rcases R.sl i _ es with z|⟨v,ev,hv'⟩
   ·cases z
   ·obtain⟨hv1,htop⟩:=hv'
    obtain⟨a0,ea0,la0⟩:=htop rfl;subst ea0;obtain⟨a1,xs,ea1,h,mm,r⟩:=hv1.lst_inv;cases ea1;refine⟨.ref a0,ev,.inl ⟨rfl,xs,SqL.of h⟩,h2 τ σ H ρ lab _ R (W.bo.imp λ d _ w y H2 s2 r2=>?_)⟩;cases d with
    |tup es'=>
     dsimp only[aN1]at w;by_cases hz:ds.length+es'.length<=sizeLine
     ·rw[if_pos hz]at w
      obtain⟨R',r'⟩:=R.fresh (P:=λ k=>k=1) rfl (λ k hk=>beq_iff_eq.mp (pF hm k hk)) s2 r2;have la:(cQ H 1 lab a0).1=i+2:=by rw[bc h];exact la0
      obtain⟨b,zs,rfl,hb,rb⟩:=r'.tup_inv;refine⟨a0,b,xs,zs,rfl,rfl,s2 _ _ h,hb,by rw[r.length,rb.length];exact hz,λ H3 B h3=>?_⟩;refine w σ H3 _ (R'.mut ev (s2 _ _ h) rfl la B ⟨.lst h3 (.inr la) ?_,λ _=>⟨a0,rfl,la⟩⟩);have ra:Rps C.K (λ p=>((cQ H 1 lab p).1=1\/(cQ H 1 lab p).1=i+2)/\p≠a0) H2 (xs++zs) (ds++es'):=by
       refine(r.mono s2 λ p o e z=>⟨by rw[bc e];exact z.1,z.2⟩).append (rb.wk λ p o e z=>⟨.inl z,λ q=>?_⟩);subst q;have z1:(cQ H 1 lab p).1=1:=z;lia
      exact ra.but B (s2 _ _ h) rfl λ z=>z.2 rfl
     ·rw[if_neg hz]at w
      exact False.elim w
    |_=>exact False.elim w
  ·exact False.elim W
end
def Enr(K:PySem.W.Frag)(x:Str)(st:Stmt)(f:Addr)(fd:FuncData):Prop:=L2.Fun K x x st f fd/\PySem.W.nsIn K mainGlobals x=some (some (.ref f))
theorem enr{K:PySem.W.Frag}{st:Stmt}{oc kV dc pm cd ct:Value}(a:PySem.W.nsIn K mainGlobals x=some (some (.ref f)))
  (l:K.lookup f=some ⟨oc,od,.func (PySem.W.fnOf x x (vI st) (lN st) (aR st) .none kV dc pm an cd ct),sl⟩)(c:PySem.W.codeIn K cd x=true)(k:PySem.W.keepIn K (.ref f)=true):∃f fd,Enr K x st f fd:=⟨f,_,aNZ (st:=st) l c k,a⟩
structure Dnr(K:PySem.W.Frag)(mg:Str->Option Value)(x:Str)(st:Stmt)(ps:List Str)(f:Addr)(d:FuncData):Prop where
 F:L2.Fun K x x st f d
 m:mg x=some (.ref f)
 b:L2.Binds K d ps []
section
variable{C:Ct}
theorem az{st:Stmt}(hF:dJ C.prog C.w C.K C.mg C.base (CX1 C.prog C.w) k fn fd ps (spF C.K C.G.cl n F))(D:Dnr C.K C.mg x st ps fn fd)(ha:SA C m (e::es) ga)(hr:k<=C.k:=by exact Nat.le_of_ble_eq_true rfl)(hg:∀i,Gl (C.X i) x:=by intro _;rfl)
  (hn:∀ρ ds,ga ρ= .ok ds->ds.length=n:=by repeat (first|exact λ _ _ h=>aF9 h|apply z8))(hdb:(x==("__debug__":Str))=false:=by decide)(he:∀i,starEach (e::es) (C.X i).env=(false,eval e (C.X i).env)::starEach es (C.X i).env:=by intro _;rfl)
  (hpl:∀i,(backTo pos (starEach es (C.X i).env)).any (·.1)=false:=by intro _;rfl):SE C (some []) (.Call (.Name x p) (e::es) [] pos) (aO F ga):=aJg hF hr D.m D.F.kp D.b ha hn hdb he hpl hg
end
theorem bH{P:Program}{w:World}{K:PySem.W.Frag}{st:Stmt}(D:Dnr K mg q st ps fn fd)(S:bD N ps (aR st))(hb:N.Nodup->∀cdv A outer s H E hr,SSs (ctD P w K mg base N q (aR st) fn cdv A outer s H E k hr) (lN st) f)(hn:ps.length=n:=by rfl)(hF:fK N.length f=FF:=by rfl):
  dJ P w K mg base (CX1 P w) (k+1) fn fd ps (spF K (cj mg) n FF):=aKt D.F S (hb S.nd) hn hF
section
variable{prog:Program}{w:World}{A:Around}{R:Result->Shared->Prop}{I S:Addr}{fp wr:List Addr}{n:Nat}{P:Nat->Value->Prop}{St:Nat->Heap->Prop}{bt:Nat->Nat->Bool}
def aLP(prog:Program)(w:World)(A:Around)(P:Nat->Value->Prop)(St:Nat->Heap->Prop)(bt:Nat->Nat->Bool):Prop:=
 ∀i j k vi vj (s:Shared) (Q E:Value->Shared->Prop),St k s.heap->P i vi->P j vj->Q (.bool (bt i j)) s->wpAny (model prog w) A (richCompare .Lt vi vj) Q E s
abbrev aNt(v:Value)(c:Nat):Obj:={cls:=.type "list",dict:=none,data:=.seq #[v,v] c,slots:=#[]}
abbrev aOo(prog:Program)(w:World)(A:Around)(I S:Addr)(R:Result->Shared->Prop)(s:Shared):Prop:=codeAny (model prog w) A (.builtin "min.loop" ⟨[.ref I,.none,.ref S],[]⟩) R s
abbrev aJN(wr:List Addr)(n:Nat)(P:Nat->Value->Prop)(bt:Nat->Nat->Bool)(S:Addr)(R:Result->Shared->Prop)(s:Shared):Prop:=
 ∀v h' tk,P (argBest bt (n-1)) v->(∀b o,b∉wr->b≠S->s.heap.get? b=some o->h'.get? b=some o)->R (.ok (.ret v)) {s with heap:=h',toks:=tk}
theorem aKX(W:Walks prog w A.in1 I fp wr n P St)(hc:aLP prog w A.in1 P St bt)(hSf:S∉fp)(k:Nat):∀(j:Nat) (s:Shared) (vb:Value) (c:Nat),j+1+k=n->St (j+1) s.heap->P (argBest bt j) vb->
  s.heap.get? S=some (aNt vb c)->aJN wr n P bt S R s->aOo prog w A I S R s:=by
 have nw:S∉wr:=λ h=>hSf (W.sub _ h)
 have nm:(toString "min"++toString ".loop":String)="min.loop":=by decide
 induction k with
 |zero=>
  intro j s vb c hk st pb hS fin;refine codeAny_builtin F.entry_min_loop ?_;rw[Around.under_plainId F.plain_min_loop _];show wpAny _ A.in1 (seqItems? (.ref S)>>=_) _ _ s;refine wpAny_bind (wpAny_seqItems hS rfl ?_);show wpAny _ A.in1 (tryCatch (pyNext (.ref I)) _>>=_) _ _ s;refine wpAny_bind (wpAny_tryCatch (W.done s _ _ (by rw[<-hk];exact st) λ h' tk kp=>?_));show wpAny _ A.in1 (updateSeq S (λ _=>#[])>>=_) _ _ _;refine wpAny_bind (wpAny_updateSeq (kp S _ nw hS) rfl (wpAny_bind (wpAny_letGo (wpAny_pure (fin vb _ tk ?_ λ b o b1 b2 e=>?_)))))
  ·have:n-1=j:=by omega
   rw[this];exact pb
  ·exact(Heap.get?_update_other _ _ (Ne.symm b2)).trans (kp b o b1 e)
 |succ k ih=>
  intro j s vb c hk st pb hS fin;refine codeAny_builtin F.entry_min_loop ?_;rw[Around.under_plainId F.plain_min_loop _];show wpAny _ A.in1 (seqItems? (.ref S)>>=_) _ _ s;refine wpAny_bind (wpAny_seqItems hS rfl ?_);show wpAny _ A.in1 (tryCatch (pyNext (.ref I)) _>>=_) _ _ s;refine wpAny_bind (wpAny_tryCatch (W.item (j+1) s _ _ (by omega) st λ v h' tk pv st' kp=>?_));have hS':=kp S _ nw hS;show wpAny _ A.in1 (tryCatch (holding [v,v] (richCompare .Lt v vb>>=_)) _>>=_) _ _ _;refine wpAny_bind (wpAny_tryCatch (wpAny_holding (wpAny_bind (hc (j+1) (argBest bt j) _ v vb _ _ _ st' pv pb ?_))));refine wpAny_bind (wpAny_holding (wpAny_truthy_bool (wpAny_bind (wpAny_letGo (wpAny_pure ?_)))));cases hb:bt (j+1) (argBest bt j)with
  |true=>
   simp only[if_true];refine wpAny_bind (wpAny_updateSeq hS' rfl (wpAny_bind (wpAny_letGo ?_)));rw[nm];refine wpAny_pure ⟨plainId_quiet F.plain_min_loop _,ih (j+1) _ v _ (by omega) (W.frame _ _ _ st' λ b bf o e=>?_) (by simp only[argBest,hb,if_true];exact pv) (Heap.get?_update_self _ hS' rfl) λ v' h2 t2 p2 k2=>?_⟩
   ·exact(Heap.get?_update_other _ _ (λ h:S=b=>hSf (h▸bf))).trans e
   ·exact fin v' h2 t2 p2 λ b o b1 b2 e=>k2 b o b1 b2 ((Heap.get?_update_other _ _ (Ne.symm b2)).trans (kp b o b1 e))
  |false=>
   simp only[Bool.false_eq_true,if_false];refine wpAny_bind (wpAny_letGo ?_);rw[nm];refine wpAny_pure ⟨plainId_quiet F.plain_min_loop _,ih (j+1) _ vb c (by omega) st' (by simp only[argBest,hb,Bool.false_eq_true,if_false];exact pb) hS' λ v' h2 t2 p2 k2=>?_⟩;exact fin v' h2 t2 p2 λ b o b1 b2 e=>k2 b o b1 b2 (kp b o b1 e)
theorem aIH(W:Walks prog w A.in1 I fp wr n P St)(hc:aLP prog w A.in1 P St bt)(hSf:S∉fp)(hn:0<n){s:Shared}{c:Nat}(st:St 0 s.heap)
  (hS:s.heap.get? S=some {cls:=.type "list",dict:=none,data:=.seq #[] c,slots:=#[]})(fin:aJN wr n P bt S R s):aOo prog w A I S R s:=by
 have nw:S∉wr:=λ h=>hSf (W.sub _ h)
 have nm:(toString "min"++toString ".loop":String)="min.loop":=by decide
 refine codeAny_builtin F.entry_min_loop ?_;rw[Around.under_plainId F.plain_min_loop _];show wpAny _ A.in1 (seqItems? (.ref S)>>=_) _ _ s;refine wpAny_bind (wpAny_seqItems hS rfl ?_);show wpAny _ A.in1 (tryCatch (pyNext (.ref I)) _>>=_) _ _ s;refine wpAny_bind (wpAny_tryCatch (W.item 0 s _ _ hn st λ v h' tk pv st' kp=>?_));have hS':=kp S _ nw hS;show wpAny _ A.in1 (updateSeq S (λ _=>#[v,v])>>=_) _ _ _;refine wpAny_bind (wpAny_updateSeq hS' rfl ?_);rw[nm];refine wpAny_pure ⟨plainId_quiet F.plain_min_loop _,aKX W hc hSf (n-1) 0 _ v _ (by omega) (W.frame _ _ _ st' λ b bf o e=>?_) pv (Heap.get?_update_self _ hS' rfl) λ v' h2 t2 p2 k2=>?_⟩
 ·exact(Heap.get?_update_other _ _ (λ h:S=b=>hSf (h▸bf))).trans e
 ·exact fin v' h2 t2 p2 λ b o b1 b2 e=>k2 b o b1 b2 ((Heap.get?_update_other _ _ (Ne.symm b2)).trans (kp b o b1 e))
abbrev aLi(prog:Program)(w:World)(A:Around)(Q:Value->Shared->Prop):Value->Shared->Prop:=λ it s₂=>∃I fp wr n P St bt,it= .ref I/\Walks prog w A.in1 I fp wr n P St/\St 0 s₂.heap/\(∀b∈fp,b<s₂.heap.objs.size)/\0<n/\aLP prog w A.in1 P St bt/\
  ∀v h' tk,P (argBest bt (n-1)) v->(∀b o,b∉wr->s₂.heap.get? b=some o->h'.get? b=some o)->Q v {s₂ with heap:=h',toks:=tk}
theorem aGS{Q:Value->Shared->Prop}{it:Value}{s₂:Shared}(h:aLi prog w A Q it s₂):
  codeAny (model prog w) A (.builtin "min.loop" ⟨[it,.none,.ref s₂.heap.objs.size],[]⟩) (λ r s=>match r with| .ok (.ret v)=>Q v s|_=>False) {s₂ with heap:=s₂.heap.push {cls:=.type "list",data:=.seq #[]}}:=by
 obtain⟨I,fp,wr,n,P,St,bt,rfl,W,st,lo,hn,hc,q⟩:=h;refine aIH W hc (λ hm=>Nat.lt_irrefl _ (lo _ hm)) hn (W.frame _ _ _ st λ b _ o e=>Heap.get?_push_of_some _ e) (Heap.get?_push_size _ rfl) λ v h' tk pv k=>?_
 exact q v h' tk pv λ b o bw e=>k b o bw (Nat.ne_of_lt (Heap.lt_size e)) (Heap.get?_push_of_some _ e)
end
section
variable{prog:Program}{w:World}{A:Around}{E:Value->Shared->Prop}{s:Shared}{Q:Value->Shared->Prop}
theorem aEv{a b:Value}(h:wpAny (model prog w) A.in1 (pyIter (.ref s.heap.objs.size)) (aLi prog w A Q) E {s with heap:=s.heap.push {cls:=.type "tuple",data:=.seq #[a,b]}}):wpAny (model prog w) A (call (.builtin "min") [a,b]) Q E s:=by
 have nm:(toString "min"++toString ".loop":String)="min.loop":=by decide
 refine call_function_tree F.kind_min F.plain_min F.entry_min (F.args_min2 _ _) ?_;show wpAny _ A.in1 (Builtin.Builtins.bindParams "min" ["key","default"] 0 ⟨[],[]⟩>>=_) _ _ s;refine wpAny_bind (wpAny_of_eq (show Builtin.Builtins.bindParams "min" ["key","default"] 0 ⟨[],[]⟩=pure [none,none]from rfl) ?_);show wpAny _ A.in1 (newTuple [a,b]>>=_) _ _ s;refine wpAny_bind (wpAny_newObj_type (wpAny_bind (wpAny_mono h (λ it s₂ h₂=>?_) λ _ _ e=>e)));refine wpAny_bind (wpAny_newObj_type ?_);rw[nm];refine wpAny_pure ⟨plainId_quiet F.plain_min_loop _,codeAny_mono (aGS h₂) λ r s hr=>?_⟩
 match r,hr with
 | .ok (.ret v),hr=>exact hr
end
def aA0(items:Array Value)(nss:Nat->List Int)(h:Heap):Prop:=∀i v,items[i]? =some v->∃x its,v= .ref x/\IsTup h x its/\IntsAre its.toList (nss i)
def uC(items:Array Value):List Addr:=items.toList.filterMap λ v=>match v with| .ref x=>some x|_=>none
theorem aEQ{items:Array Value}{i:Nat}(h:items[i]? =some (Value.ref x)):x∈uC items:=by
 unfold uC;rw[List.mem_filterMap];exact⟨.ref x,by have:=List.mem_of_getElem? (l:=items.toList) (i:=i) (by simpa using h);exact this,rfl⟩
theorem aA0.keep(T:aA0 items nss h)(k:∀b∈uC items,∀o,h.get? b=some o->h'.get? b=some o):aA0 items nss h':=λ i v e=>by
 obtain⟨x,its,rfl,⟨o,h1,h2⟩,h3⟩:=T i v e;exact⟨x,its,rfl,⟨o,k x (aEQ e) o h1,h2⟩,h3⟩
theorem aNm{items:Array Value}{nss:Nat->List Int}{St:Nat->Heap->Prop}(W:Walks prog w A I fp wr n (λ i v=>items[i]? =some v) St)(hw:∀b∈uC items,b∉wr):Walks prog w A I (fp++uC items) wr n (λ i v=>items[i]? =some v) (λ i h=>St i h/\aA0 items nss h) where
 sub:=λ b hb=>List.mem_append_left _ (W.sub b hb)
 frame:=λ i h h' st k=>⟨W.frame i h h' st.1 λ b hb=>k b (List.mem_append_left _ hb),st.2.keep λ b hb=>k b (List.mem_append_right _ hb)⟩
 item:=λ i s Q E hi st q=>W.item i s Q E hi st.1 λ v h' tk pv st' kp=>q v h' tk pv ⟨st',st.2.keep λ b hb o=>kp b o (hw b hb)⟩ kp
 done:=λ s Q E st q=>W.done s Q E st.1 q
 self:=λ i s Q E st q=>W.self i s Q E st.1 q
theorem aGc{items:Array Value}{nss:Nat->List Int}{St:Nat->Heap->Prop}{A:Around}(hu:A.units<cLine):aLP prog w A (λ i v=>items[i]? =some v) (λ i h=>St i h/\aA0 items nss h) (λ i j=>HT.lexLt (nss i) (nss j)):=λ i j k vi vj s Q E st hi hj q=>by
 obtain⟨x,xs,rfl,x1,x2⟩:=st.2 i vi hi;obtain⟨y,ys,rfl,y1,y2⟩:=st.2 j vj hj;exact HT.zX x1 y1 x2 y2 hu q
theorem aEu(hu:X.A.units+1<cLine)(hc:X.calm=true):dR X (.builtin "min") (λ xs H Q=>∃a b ns ms,xs=[.ref a,.ref b]/\SqT X.K H a (ns.map V.int)/\SqT X.K H b (ms.map V.int)/\Q (.ref (if HT.lexLt ms ns then b else a)) H):=by
 intro pins s σ H xs us Q I r h;obtain⟨a,b,ns,ms,rfl,ha,hb,q⟩:=h;obtain⟨u,v,rfl,ru,rv⟩:=vals2 r;cases ru;cases rv;obtain⟨is1,r1,t1,-⟩:=I.tuple ha;obtain⟨is2,r2,t2,-⟩:=I.tuple hb;have la:a<s.heap.objs.size:=by obtain⟨o,e,_⟩:=t1;exact Heap.lt_size e
 have lb:b<s.heap.objs.size:=by obtain⟨o,e,_⟩:=t2;exact Heap.lt_size e
 have hT:(s.heap.push {cls:=.type "tuple",data:=.seq #[.ref a,.ref b]}).IsTuple s.heap.objs.size #[.ref a,.ref b]:=⟨_,Heap.get?_push_size _ rfl,rfl,0,rfl⟩;have hsz:(s.heap.push {cls:=.type "tuple",data:=.seq #[.ref a,.ref b]}).objs.size=s.heap.objs.size+1:=Heap.size_push ..;have mem:∀x∈uC #[Value.ref a,.ref b],x=a\/x=b:=λ x hx=>by simpa[uC]using hx
 refine aEv (wpAny_pyIter_tuple hT ⟨_,_,_,_,_,_,_,rfl,aNm (nss:=λ i=>if i=0 then ns else ms) (Walks.tuple (A:=X.A.in1) (I.ok.hd hc) _ s.heap.objs.size (by rw[hsz];exact Nat.ne_of_lt (Nat.lt_succ_self _)) #[.ref a,.ref b]) ?_,⟨⟨⟨_,Heap.get?_push_size _ rfl,rfl,rfl⟩,hT.push _⟩,?_⟩,?_,by simp,aGc hu,?_⟩)
 ·intro x hx hw
  rw[List.mem_singleton,hsz]at hw
  have:x<s.heap.objs.size:=by rcases mem x hx with rfl|rfl<;>assumption
  exact absurd (hw▸this) (Nat.not_lt.mpr (Nat.le_succ _))
 ·intro i v e
  have up:∀{x its},IsTup s.heap x its->IsTup ((s.heap.push {cls:=.type "tuple",data:=.seq #[.ref a,.ref b]}).push {cls:=.type "tuple_iterator",data:=.fields #[.ref s.heap.objs.size,.int 0 0]}) x its:=λ⟨o,e,z⟩=>⟨o,Heap.get?_push_of_some _ (Heap.get?_push_of_some _ e),z⟩
  match i,e with
  |0,e=>cases e;exact⟨a,_,rfl,up t1,intsAre_of r1⟩
  |1,e=>cases e;exact⟨b,_,rfl,up t2,intsAre_of r2⟩
  |k+2,e=>simp at e
 ·intro x hx
  show x<((s.heap.push _).push _).objs.size;rw[Heap.size_push,hsz];rcases List.mem_append.mp hx with hx|hx
  ·simp only[List.mem_cons,List.not_mem_nil,or_false,hsz]at hx
   rcases hx with rfl|rfl
   ·exact Nat.lt_succ_self _
   ·exact Nat.lt_succ_of_lt (Nat.lt_succ_self _)
  ·have:x<s.heap.objs.size:=by rcases mem x hx with rfl|rfl<;>assumption
   exact Nat.lt_succ_of_lt (Nat.lt_succ_of_lt this)
 ·intro v h' tk pv k
  refine⟨.ref (if HT.lexLt ms ns then b else a),H,I.kept λ c o e=>k c o (λ hm=>?_) (Heap.get?_push_of_some _ (Heap.get?_push_of_some _ e)),?_,q⟩
  ·have:=Heap.lt_size e
   rw[List.mem_singleton,hsz]at hm;exact absurd (hm▸this) (Nat.not_lt.mpr (Nat.le_succ _))
  ·have e2:argBest (λ i j=>HT.lexLt (if i=0 then ns else ms) (if j=0 then ns else ms)) ((#[Value.ref a,.ref b]).size-1)=if HT.lexLt ms ns then 1 else 0:=by simp[argBest]
   rw[e2]at pv;cases hl:HT.lexLt ms ns<;>rw[hl]at pv<;>cases pv<;>rfl
theorem aGi(hc:X.calm=true):dR X (.builtin "max") (λ xs H Q=>∃(p:Addr) (ns:List Int) (m:Int),xs=[.ref p]/\SqT X.K H p (ns.map V.int)/\ns.max?=some m/\Q (.int m) H):=by
 intro pins s σ H xs us Q I r h;obtain⟨p,ns,m,rfl,hp,hm,q⟩:=h;obtain⟨u,rfl,ru⟩:=vals1 r;cases ru;obtain⟨its,rv,pl,-⟩:=I.tuple hp;obtain⟨ts,rfl,rfl⟩:=oM rv;have hz:0<ts.toArray.size:=by
  cases ts with
  |nil=>cases hm
  |cons a b=>simp
 have hl:s.heap.IsTuple p (intItems ts.toArray):=by
  obtain⟨o,h1,h2,n,h3⟩:=pl;exact⟨o,h1,h2,n,by rw[h3];simp[intItems]⟩
 have lt:p<s.heap.objs.size:=by obtain⟨_,e,_⟩:=hl;exact Heap.lt_size e
 refine call_max_walk (wpAny_pyIter_tuple hl ⟨_,_,_,_,_,_,_,rfl,Walks.tuple (A:=X.A.in1) (I.ok.hd hc) _ p (Nat.ne_of_lt lt) (intItems ts.toArray),⟨⟨_,Heap.get?_push_size _ rfl,rfl,rfl⟩,hl.push _⟩,λ b hb=>?_,by simpa[intItems]using hz,CmpOf.ints_gt (numAt ts.toArray) (λ _ _=>intItems_at),λ v h' tk hv hk=>?_⟩)
 ·show b<(s.heap.push _).objs.size
  rw[Heap.size_push];simp only[List.mem_cons,List.not_mem_nil,or_false]at hb;rcases hb with e|e<;>subst e
  ·exact Nat.lt_succ_self _
  ·exact Nat.lt_succ_of_lt lt
 have hv:(intItems ts.toArray)[argBest (λ i j=>decide (numAt ts.toArray i>numAt ts.toArray j)) (ts.toArray.size-1)]? =some v:=by simpa[intItems]using hv
 obtain⟨t,rfl⟩:=intItems_at hv;obtain⟨h1,h2⟩:=argBest_gt (numAt ts.toArray) (ts.toArray.size-1);have hM:(ts.map Prod.fst).max?=some (numAt ts.toArray (argBest (λ i j=>decide (numAt ts.toArray i>numAt ts.toArray j)) (ts.toArray.size-1))):=by
  rw[List.max?_eq_some_iff];refine⟨?_,λ a ha=>?_⟩
  ·rw[numAt_eq];exact getD_mem (by rw[List.length_map];simp at h1 hz ⊢;omega)
  ·obtain⟨j,hj,rfl⟩:=mem_getD ha
   have:=h2 j (by rw[List.length_map]at hj;simp;omega)
   rw[numAt_eq _ j]at this;exact this
 rw[hm]at hM;injection hM with hM
 refine⟨.int m,H,I.kept λ b o e=>hk b o (λ z=>?_) (Heap.get?_push_of_some _ e),⟨t,by rw[hM]⟩,q⟩;rw[List.mem_singleton]at z;exact absurd (z▸Heap.lt_size e) (Nat.lt_irrefl _)
def xF:List D->Rs D
 |[.tup l,.tup m]=>match intsOf l,intsOf m with
  |some ns,some ms=>.ok (if HT.lexLt ms ns=true then .tup m else .tup l)
  |_,_=>.st
 |_=>.st
theorem aJC{K:PySem.W.Frag}:p7 K (λ xs H Q=>∃a b ns ms,xs=[.ref a,.ref b]/\SqT K H a (ns.map V.int)/\SqT K H b (ms.map V.int)/\Q (.ref (if HT.lexLt ms ns then b else a)) H) xF:=by
 intro A xs ds H Q z r ez q;unfold xF at ez;split at ez
 ·split at ez
  ·rename_i l m _ _ ns ms e1 e2
   cases ez;cases r with
   |cons h r=>
    cases r with
    |cons h' r=>
     cases r;have k1:=h;have k2:=h';obtain⟨a,ys,rfl,sa,ra⟩:=h.tup_inv;obtain⟨b,zs,rfl,sb,rb⟩:=h'.tup_inv
     have:=dC e1
     subst this
     have:=dC e2
     subst this
     have:=ra.ints_of
     subst this
     have:=rb.ints_of
     subst this;refine⟨a,b,ns,ms,rfl,sa,sb,q _ H (aq.refl H) ?_⟩;cases HT.lexLt ms ns
     ·exact k1.wk λ _ _ _ z=>.inr z
     ·exact k2.wk λ _ _ _ z=>.inr z
  ·cases ez
 ·cases ez
theorem rK(ns:List Int):lJ (ns.map .int)=true:=by
 induction ns with
 |nil=>rfl
 |cons a l ih=>simp[lJ,imm,ih]
theorem aI5:∀x z,xF x= .ok z->imm z=true:=by
 intro x z e;unfold xF at e;split at e
 ·split at e
  ·rename_i l m _ _ ns ms e1 e2
   cases e;rw[dC e1,dC e2];split<;>exact rK _
  ·cases e
 ·cases e
section
variable{C:Ct}{pos p:Pos}{a b:Expr}{ga:En->Rs (List D)}{m:Mode}
theorem aJd(hm:C.mg "max"=none)(ha:SA C m [a] ga)(he:∀i,starEach [a] (C.X i).env=[(false,eval a (C.X i).env)]:=by intro _;rfl)(hg:∀i,Gl (C.X i) "max":=by intro _;rfl)(hv:bootBuiltins "max"=some (.builtin "max"):=by decide+kernel):SE C (some []) (.Call (.Name "max" p) [a] [] pos) (opA (iB List.max?) ga):=
 gf (kJ (λ i=>by have h:=(aGi (X:=C.X i) (C.calm i)).or (aGj (C.calm i));rw[C.hK i]at h;exact h) aDb hg hm hv ha (by decide) (by decide) he) λ _ _ h=>nQ aBF h
theorem aHW(hm:C.mg "min"=none)(ha:SA C m [a,b] ga)(he:∀i,starEach [a,b] (C.X i).env=(false,eval a (C.X i).env)::starEach [b] (C.X i).env:=by intro _;rfl)
  (hpl:∀i,(backTo pos (starEach [b] (C.X i).env)).any (·.1)=false:=by intro _;rfl)(hg:∀i,Gl (C.X i) "min":=by intro _;rfl)(hv:bootBuiltins "min"=some (.builtin "min"):=by decide+kernel):SE C (some []) (.Call (.Name "min" p) [a,b] [] pos) (opA xF ga):=
 gf (kJ (λ i=>by have h:=aEu (X:=C.X i) (aOc (C.room i)) (C.calm i);rw[C.hK i]at h;exact h) aJC hg hm hv ha (by decide) (by decide) he hpl) λ _ _ h=>nQ aI5 h
end
section
variable{ρ:En}{i:Nat}{f g:En->Rs D}{fb gb:En->Rs Bool}{ga:En->Rs (List D)}{u v:En->Ou}{d e:D}
@[simp] theorem varD_ap:jC i ρ=match ρ[i]? with
 |some (.sh d)=>.ok d
 |some (.nw d)=>.ok d
 |some (.ow d)=>.ok d
 |some (.oz d)=>.ok d
 |some (.o2 l)=>.ok (.lst (l.map .lst))
 |_=>.st:=aU rfl
@[simp] theorem jz:aB i ρ=match ρ[i]? with
 |some (.sh d)=>.ok d
 |some (.nw d)=>.ok d
 |_=>.st:=aU rfl
@[simp] theorem varN_ap:ik i ρ=match ρ[i]? with
 |some (.nw d)=>.ok d
 |_=>.st:=aU rfl
@[simp] theorem varO_ap:nW i ρ=match ρ[i]? with
 |some (.ow d)=>.ok d
 |some (.o2 l)=>.ok (.lst (l.map .lst))
 |_=>.st:=aU rfl
@[simp] theorem vO:cD d ρ= .ok d:=aU rfl
@[simp] theorem bQ:aF ρ= .ok []:=aU rfl
@[simp] theorem aX:aA f ga ρ=(f ρ).bd λ d=>(ga ρ).bd λ ds=>.ok (d::ds):=aU rfl
@[simp] theorem szl:sizeLine=16777216:=sizeLine_eq
@[simp] theorem nJ:aZ ga ρ=(ga ρ).bd λ ds=>if ds.length<=16777216 then .ok (.tup ds)else .st:=by unfold aZ;rw[szl]
@[simp] theorem aF7:fD ga ρ=(ga ρ).bd λ ds=>if ds.length<=16777216 then .ok (.lst ds)else .st:=by unfold fD;rw[szl]
@[simp] theorem bC:okD (.ok d)= .ok d:=aU rfl
@[simp] theorem b8:op2 fd f g ρ=(f ρ).bd λ x=>(g ρ).bd λ y=>okD (fd x y):=aU rfl
@[simp] theorem aEZ:op1 fd f ρ=(f ρ).bd λ x=>okD (fd x):=aU rfl
@[simp] theorem fO:opA fd ga ρ=(ga ρ).bd λ x=>okD (fd x):=aU rfl
@[simp] theorem eF:aO F ga ρ=(ga ρ).bd F:=aU rfl
def aOk(d:D)(r:Rs D):Rs D:=match d with
 | .bl true=>r
 | .bl false=>.ok (.bl false)
 |_=>.st
def orR(d:D)(r:Rs D):Rs D:=match d with
 | .bl false=>r
 | .bl true=>.ok (.bl true)
 |_=>.st
@[simp] theorem jc:aOk (.bl b) r=if b=true then r else .ok (.bl false):=by cases b<;>rfl
@[simp] theorem orR_bl:orR (.bl b) r=if b=true then .ok (.bl true)else r:=by cases b<;>rfl
@[simp] theorem iZ:iw f g ρ=(f ρ).bd λ d=>aOk d (g ρ):=aU rfl
@[simp] theorem orD_ap:orD f g ρ=(f ρ).bd λ d=>orR d (g ρ):=aU rfl
@[simp] theorem notD_bl:aKR (.bl b)= .ok (.bl (!b)):=aU rfl
def chR(d:D)(r:Rs D):Rs D:=match d with
 | .bl true=>r
 | .bl false=>.ok (.bl false)
 |_=>.st
@[simp] theorem chR_bl:chR (.bl b) r=if b=true then r else .ok (.bl false):=by cases b<;>rfl
@[simp] theorem chD_ap:chD fd fd' f g h ρ=(f ρ).bd λ x=>(g ρ).bd λ y=>(okD (fd x y)).bd λ z=>chR z ((h ρ).bd λ w=>okD (fd' y w)):=aU rfl
@[simp] theorem aB4:aLq (.bl b)= .ok b:=aU rfl
@[simp] theorem blD_bl:blD (.bl b)= .ok b:=aU rfl
@[simp] theorem nZ:tst f ρ=(f ρ).bd aLq:=aU rfl
@[simp] theorem o6:tsb f ρ=(f ρ).bd blD:=aU rfl
@[simp] theorem aFr:aEx fb gb ρ=(fb ρ).bd λ k=>if k=true then gb ρ else .ok false:=aU rfl
@[simp] theorem qW:orT fb gb ρ=(fb ρ).bd λ k=>if k=true then .ok true else gb ρ:=aU rfl
@[simp] theorem lC:fC fb ρ=(fb ρ).bd λ k=>.ok (!k):=aU rfl
@[simp] theorem aM:aQ u v ρ=(u ρ).sq v:=aU rfl
@[simp] theorem dg:retS f ρ=(f ρ).bo .rt:=aU rfl
@[simp] theorem dropS_ap:aD8 f ρ=(f ρ).bo λ _=>.nx ρ:=aU rfl
@[simp] theorem j6:ifS fb u v ρ=(fb ρ).bo λ k=>if k=true then u ρ else v ρ:=aU rfl
@[simp] theorem aBa:bY i f ρ=(f ρ).bo λ d=>.nx (ρ.set i (.sh d)):=aU rfl
@[simp] theorem uW:jE i f ρ=(f ρ).bo λ d=>.nx (ρ.set i (.nw d)):=aU rfl
@[simp] theorem yN:jX i f ρ=(f ρ).bo λ d=>.nx (ρ.set i (.ow d)):=aU rfl
@[simp] theorem pJ:gnm i d ρ= .ok (ρ.set i (.sh d)):=aU rfl
@[simp] theorem gnil_nil:mU [] ρ= .ok ρ:=aU rfl
@[simp] theorem gcons_cons:cH a b (d::ds) ρ=(a d ρ).bd (b ds):=aU rfl
@[simp] theorem gtup_tup:lL n b (.tup ds) ρ=if ds.length=n then b ds ρ else .st:=aU rfl
def nxO(r:Rs En):Ou:=match r with
 | .ok ρ=>.nx ρ
 |_=>.st
@[simp] theorem nxO_ok:nxO (.ok ρ)= .nx ρ:=aU rfl
@[simp] theorem asgS_ap:aDj f a ρ=(f ρ).bo λ d=>nxO (a d ρ):=aU rfl
@[simp] theorem itD_tup:itD (.tup l)= .ok l:=aU rfl
@[simp] theorem itD_lst:itD (.lst l)= .ok l:=aU rfl
@[simp] theorem yW:bh f ρ=(f ρ).bd itD:=aU rfl
@[simp] theorem j7:iH ga a u ρ=(ga ρ).bo λ ds=>forL a u ds ρ:=aU rfl
def Ou.tn(o:Ou)(k:En->Ou):Ou:=match o with
 | .nx ρ2=>k ρ2
 | .ct ρ2=>k ρ2
 | .bk ρ2=>.nx ρ2
 |o=>o
@[simp] theorem aHB:(Ou.nx ρ).tn k=k ρ:=aU rfl
def okE(r:Rs En)(k:En->Ou):Ou:=match r with
 | .ok ρ=>k ρ
 |_=>.st
@[simp] theorem kj:okE (.ok ρ) k=k ρ:=aU rfl
theorem lV:forL a u (d::ds) ρ=okE (a d ρ) λ ρ1=>(u ρ1).tn (forL a u ds):=by
 unfold forL;cases a d ρ with
 |ok ρ1=>simp only[kj];cases u ρ1<;>rfl
 |ex c=>rfl
 |st=>rfl
@[simp] theorem oNone_ap:bO ρ= .ok none:=aU rfl
@[simp] theorem oSome_ap:bK f ρ=(f ρ).bd λ d=>match d with
 | .int i=>.ok (some i)
 |_=>.st:=aU rfl
@[simp] theorem aFz:bA f a b ρ=(f ρ).bd λ d=>(a ρ).bd λ l=>(b ρ).bd λ h=>okD (slD d l h):=aU rfl
@[simp] theorem aJ9:slD (.tup l) a b= .ok (.tup (cutD l a b)):=aU rfl
@[simp] theorem aH7:uB (.tup l)= .ok (.tup l.reverse):=aU rfl
@[simp] theorem gk:aP f ρ=(f ρ).bd kO:=aU rfl
@[simp] theorem aKr:aKs i u ρ=u (frz i ρ):=aU rfl
@[simp] theorem rngA_ap:cX r ga ρ=(ga ρ).bd r:=aU rfl
@[simp] theorem raiseS_ap:aBq x ga ρ=(ga ρ).bo λ ds=>if ds.length<=16777216 then .ex x else .st:=by unfold aBq;rw[szl]
@[simp] theorem aJU:bV ρ= .ok true:=aU rfl
end
section
variable{d e:D}{i j:Int}{l m:List D}
theorem iV(h:imm d=true):kO d= .ok d:=by unfold kO;rw[if_pos h]
@[simp] theorem gImm_int:kO (.int i)= .ok (.int i):=aU rfl
@[simp] theorem addD_int:aV (.int i) (.int j)= .ok (.int (i+j)):=aU rfl
@[simp] theorem aAZ:aV (.lst l) (.lst m)=if l.length+m.length<=16777216 then .ok (.lst (l++m))else .st:=by unfold aV;rw[szl]
@[simp] theorem aDq:aV (.tup l) (.tup m)=if l.length+m.length<=16777216 then .ok (.tup (l++m))else .st:=by unfold aV;rw[szl]
@[simp] theorem subD_int:qD (.int i) (.int j)= .ok (.int (i-j)):=aU rfl
theorem aBI(h0:0<j)(h1:j<1073741824):zz (.int i) (.int j)= .ok (.int (i / j)):=by unfold zz i2;dsimp only;rw[if_pos (by simp[h0,h1])]
theorem mL(h0:0<j):p8 (.int i) (.int j)= .ok (.int (i%j)):=by unfold p8 i2;dsimp only;rw[if_pos (by simp[h0])]
theorem aBv(h0: -(2^64)<i)(h1:i<2^64):nG (.int i) (.int j)= .ok (.int (i*j)):=by unfold nG;dsimp only;rw[if_pos (by simp only[Bool.or_eq_true,Bool.and_eq_true,decide_eq_true_eq];exact .inl ⟨h0,h1⟩)]
theorem aIF(h0: -(2^64)<j)(h1:j<2^64):nG (.int i) (.int j)= .ok (.int (i*j)):=by unfold nG;dsimp only;rw[if_pos (by simp only[Bool.or_eq_true,Bool.and_eq_true,decide_eq_true_eq];exact .inr ⟨h0,h1⟩)]
@[simp] theorem zT:gn (.int i)= .ok (.int (-i)):=aU rfl
@[simp] theorem aK4:ltD (.int i) (.int j)= .ok (.bl (decide (i<j))):=aU rfl
@[simp] theorem leD_int:leD (.int i) (.int j)= .ok (.bl (decide (i<=j))):=aU rfl
@[simp] theorem gtD_int:gtD (.int i) (.int j)= .ok (.bl (decide (j<i))):=aU rfl
@[simp] theorem geD_int:geD (.int i) (.int j)= .ok (.bl (decide (j<=i))):=aU rfl
theorem aCA(ns ms:List Int):ltD (.tup (ns.map .int)) (.tup (ms.map .int))= .ok (.bl (HT.lexLt ns ms)):=by
 unfold ltD ltT i2;simp only[iG]
@[simp] theorem lenD_tup:bz [.tup l]= .ok (.int l.length):=aU rfl
@[simp] theorem lenD_lst:bz [.lst l]= .ok (.int l.length):=aU rfl
@[simp] theorem lenD_scr:bz [.scr x]= .ok (.int x.length):=aU rfl
@[simp] theorem je:dq [.lst l]= .ok (.tup l):=aU rfl
@[simp] theorem listD_tup:sX [.tup l]= .ok (.lst l):=aU rfl
@[simp] theorem aKW:mmD f [.int i,.int j]= .ok (.int (f i j)):=aU rfl
@[simp] theorem lH:ixD (.tup l) (.int i)=atD l i:=aU rfl
@[simp] theorem yV:ixD (.lst l) (.int i)=atD l i:=aU rfl
@[simp] theorem ixD_scr:ixD (.scr x) (.int i)=atD (x.map .int) i:=aU rfl
theorem jB{k:Nat}(h:l[k]? =some d):atD l (k:Int)= .ok d:=by
 have hk:=(List.getElem?_eq_some_iff.mp h).1;unfold atD atI ixN;rw[if_pos (by omega),if_pos (by omega)];simp[h]
theorem wY(h0:0<=i)(h1:i<l.length):∃d,atD l i= .ok d/\d∈l/\l[i.toNat]? =some d:=by
 have hk:i.toNat<l.length:=by omega
 have e:=List.getElem?_eq_getElem hk;refine⟨_,?_,List.getElem_mem hk,e⟩
 have:=jB e
 rwa [Int.toNat_of_nonneg h0]at this
@[simp] theorem atD_0{r:List D}:atD (d::r) 0= .ok d:=jB (k:=0) rfl
@[simp] theorem atD_1{r:List D}:atD (d::e::r) 1= .ok e:=jB (k:=1) rfl
@[simp] theorem eqR_int:eqR n (.int i) (.int j)= .ok (.bl (if n then !(i==j)else i==j)):=aU rfl
@[simp] theorem isD_bl:isD false (.bl a) (.bl b)= .ok (.bl (a==b)):=aU rfl
def knd:D->Bool
 | .set _=>false
 | .scr _=>false
 | .fn _=>false
 |_=>true
theorem aCH(hT:T∈["bool","int","str","list","tuple","dict"])(h:knd d=true):fU T d= .ok (.bl (aKb (tyD d) T)):=by
 have ht:tyD d∈["NoneType","bool","int","str","list","tuple","dict"]:=by cases d<;>simp_all [tyD,knd]
 unfold fU sZ;cases e:aKb (tyD d) T<;>simp[ht,hT]
def aNQ:D->Bool
 | .int _=>true
 | .bl _=>true
 |_=>false
def aO6:D->Bool
 | .bl _=>true
 |_=>false
def eE:D->Bool
 | .tup _=>true
 |_=>false
theorem aFf(h:knd d=true):fU "int" d= .ok (.bl (aNQ d)):=by
 rw[aCH (by simp) h];cases d<;>first|rfl|(simp[knd]at h)
theorem zb(h:knd d=true):fU "bool" d= .ok (.bl (aO6 d)):=by
 rw[aCH (by simp) h];cases d<;>first|rfl|(simp[knd]at h)
theorem fQ(h:knd d=true):fU "tuple" d= .ok (.bl (eE d)):=by
 rw[aCH (by simp) h];cases d<;>first|rfl|(simp[knd]at h)
@[simp] theorem isi_tuple_tup:fU "tuple" (.tup l)= .ok (.bl true):=fQ rfl
@[simp] theorem isi_bool_bl:fU "bool" (.bl b)= .ok (.bl true):=zb rfl
end
@[simp] theorem bG:fK n u ds=match u (bF n ds)with
 | .nx _=>.ok .non
 | .rt d=>.ok d
 | .ex c=>.ex c
 |_=>.st:=aU rfl
theorem gB(h0: -(2^62)<=j)(h1:j<2^62):dm [.int j]= .ok (dB 0 j):=by unfold dm;dsimp only;rw[if_pos ⟨h0,h1⟩]
theorem aBm(h0: -(2^62)<=i)(h1:i<2^62)(h2: -(2^62)<=j)(h3:j<2^62):uc [.int i,.int j]= .ok (dB i j):=by unfold uc;dsimp only;rw[if_pos ⟨⟨h0,h1⟩,h2,h3⟩]
theorem iC{lo hi:Int}:d∈dB lo hi↔∃k:Int,d= .int k/\lo<=k/\k<hi:=by
 unfold dB;rw[List.mem_map];constructor
 ·rintro⟨n,hn,rfl⟩
  have:=List.mem_range.mp hn
  exact⟨lo+n,rfl,by omega,by omega⟩
 ·rintro⟨k,rfl,h1,h2⟩
  exact⟨(k-lo).toNat,List.mem_range.mpr (by omega),by congr 1;omega⟩
theorem j8(I:Nat->En->Prop)(hs:∀(i:Nat) d ρ,ds[i]? =some d->I i ρ->∃ρ2,okE (a d ρ) (λ ρ1=>u ρ1)= .nx ρ2/\I (i+1) ρ2)(h0:I 0 ρ):∃ρ',forL a u ds ρ= .nx ρ'/\I ds.length ρ':=by
 have go:∀(n:Nat) (ρ:En),n<=ds.length->I (ds.length-n) ρ->∃ρ',forL a u (ds.drop (ds.length-n)) ρ= .nx ρ'/\I ds.length ρ':=by
  intro n;induction n with
  |zero=>intro ρ _ h;exact⟨ρ,by rw[Nat.sub_zero,List.drop_length];rfl,h⟩
  |succ n ih=>
   intro ρ hn h;have hlt:ds.length-(n+1)<ds.length:=by omega
   rw[List.drop_eq_getElem_cons hlt,lV];obtain⟨ρ2,e,h2⟩:=hs _ _ ρ (List.getElem?_eq_getElem hlt) h;rw[show ds.length-(n+1)+1=ds.length-n by omega]at h2 ⊢;cases ea:a ds[ds.length-(n+1)] ρ with
   |ok ρ1=>
    rw[ea]at e;simp only[kj]at e ⊢;rw[e,aHB];exact ih ρ2 (by omega) h2
   |ex c=>rw[ea]at e;cases e
   |st=>rw[ea]at e;cases e
 have:=go ds.length ρ (Nat.le_refl _) (by rw[Nat.sub_self];exact h0)
 rwa [Nat.sub_self,List.drop_zero]at this
end VL
namespace VL.My
open PySem L2
def jm:En->Ou:=
  (retS (iw (op1 (fU "int") (aB 0)) (op1 aKR (op1 (fU "bool") (aB 0)))))
def nC:List D->Rs D:=fK 1 jm
def iI:En->Ou:=
  (aQ (iH (cX uc (aA (cD (.int 1)) (aA (opA bz (aA (aB 0) aF)) aF))) (gnm 1)
   (ifS (fC (tsb (op2 ltD (op2 ixD (aB 0) (op2 qD (aB 1) (cD (.int 1)))) (op2 ixD (aB 0) (aB 1)))))
    (retS (cD (.bl false)))
    Ou.nx))
  (retS (cD (.bl true))))
def dh:List D->Rs D:=fK 2 iI
def jQ:En->Ou:=
  (retS (op2 (eqR false) (opA lw (aA (aIQ (bh (aB 1)) [none,none] (gnm 0) bV (inL (bh (aB 0)) (gnm 1) bV (aP (aB 1)))) aF)) (lrD (aB 0))))
def jU:List D->Rs D:=fK 2 jQ
def jr:En->Ou:=
  (aQ (aDj (aB 0) (lL 2 (cH (gnm 1) (cH (gnm 2) mU))))
  (aQ (llS 3 (cX dm (aA (aB 1) aF)) [none] (gnm 0))
  (aQ (iH (bh (aB 2)) (lL 2 (cH (gnm 4) (cH (gnm 5) mU)))
   (aQ (oV 3 (aB 4) (aP (aB 5)))
   (oV 3 (aB 5) (aP (aB 4)))))
  (retS (nW 3)))))
def jy:List D->Rs D:=fK 6 jr
def fW:En->Ou:=
  (retS (opA xF (aA (aB 0) (aA (op1 uB (aB 0)) aF))))
def iJ:List D->Rs D:=fK 1 fW
def fG:En->Ou:=
  (aQ (ifS (tsb (op2 ltD (aB 1) (opA bz (aA (aB 0) aF))))
   (retS (aP (op2 ixD (aB 0) (aB 1))))
   Ou.nx)
  (retS (cD (.int 0))))
def fH:List D->Rs D:=fK 2 fG
def jM:En->Ou:=
  (aQ (ifS (tsb (op2 geD (aB 0) (op2 aHk (cD (.int 10)) (cD (.int 18)))))
   (aQ (bY 3 (aB 0))
   (aQ (iH (cX dm (aA (aB 1) aF)) (gnm 4)
    (bY 3 (op2 zz (aB 3) (aB 2))))
   (retS (op2 p8 (aB 3) (aB 2)))))
   Ou.nx)
  (aQ (bY 5 (op2 p8 (op2 nG (op2 aV (op2 aV (op2 p8 (aB 0) (cD (.int 1000000007))) (op2 nG (cD (.int 1009)) (aB 1))) (cD (.int 17))) (cD (.int 69621))) (cD (.int 2147483647))))
  (aQ (bY 5 (op2 p8 (op2 aV (op2 aV (op2 nG (aB 5) (aB 5)) (op2 nG (cD (.int 40503)) (aB 1))) (cD (.int 5))) (cD (.int 2147483629))))
  (retS (op2 p8 (op2 zz (op2 p8 (op2 nG (aB 5) (cD (.int 48271))) (cD (.int 2147483647))) (cD (.int 32))) (aB 2))))))
def aY:List D->Rs D:=fK 6 jM
def jO:En->Ou:=
  (retS (iw (op1 (fU "int") (aB 0)) (op1 aKR (op1 (fU "bool") (aB 0)))))
def jT:List D->Rs D:=fK 1 jO
def iW:En->Ou:=
  (retS (opA (jt λ bs=>bs.all id) (aA (lcD (cX uc (aA (cD (.int 1)) (aA (opA bz (aA (aB 0) aF)) aF))) [none,some 0] (gnm 0) bV (op2 ltD (op2 ixD (aB 1) (op2 qD (aB 0) (cD (.int 1)))) (op2 ixD (aB 1) (aB 0)))) aF)))
def gK:List D->Rs D:=fK 1 iW
def fZ:En->Ou:=
  (aQ (jX 2 (fD aF))
  (aQ (iH (bh (aB 0)) (gnm 3)
   (aAg 2 (aP (aB 3))))
  (retS (op2 (eqR false) (opA lw (aA (jC 2) aF)) (lrD (aB 1))))))
def iM:List D->Rs D:=fK 4 fZ
def ji:En->Ou:=
  (retS (lcD (cX dm (aA (op2 ixD (aB 0) (cD (.int 0))) aF)) [none,some 1,some 0] (gnm 0) (tsb (op2 (inR false) (aZ (aA (opA (mmD λ i j=>if j<i then j else i) (aA (aB 1) (aA (aB 0) aF))) (aA (opA (mmD λ i j=>if j>i then j else i) (aA (aB 1) (aA (aB 0) aF))) aF))) (op2 ixD (aB 2) (cD (.int 1))))) (aP (aB 0))))
def gM:List D->Rs D:=fK 2 ji
def lg:En->Ou:=
  (retS (iw (aO nC (aA (aB 0) aF)) (chD leD leD (cD (.int 0)) (aB 0) (cD (.int 60)))))
def rQ:List D->Rs D:=fK 1 lg
def jo:En->Ou:=
  (retS (iw (aO nC (aA (aB 1) aF)) (chD leD ltD (cD (.int 0)) (aB 1) (aB 0))))
def dW:List D->Rs D:=fK 2 jo
def jh:En->Ou:=
  (aQ (jX 2 (fD aF))
  (aQ (iH (cX dm (aA (aB 1) aF)) (gnm 3)
   (aI0 2 (aO aY (aA (aB 0) (aA (op2 aV (cD (.int 100)) (aB 3)) (aA (op2 aV (aB 3) (cD (.int 1))) aF)))) (aP (aB 3))))
  (retS (nW 2))))
def jw:List D->Rs D:=fK 4 jh
def lX:En->Ou:=
  (aQ (jE 1 (fD (aA (cD .non) (aA (cD (.bl true)) (aA (cD (.int 0)) (aA (op1 gn (cD (.int 1))) (aA (cD (.str "")) (aA (cD (.str "0")) (aA (aZ aF) (aA (fD aF) (aA (cD (.dct [] [])) (aA (aZ (aA (aZ aF) aF)) (aA (aZ (aA (cD (.int 0)) aF)) (aA (aZ (aA (aZ (aA (cD (.int 0)) (aA (cD (.int 1)) aF))) aF)) (aA (fD (aA (cD (.int 0)) (aA (cD (.int 1)) aF))) (aA (aZ (aA (cD .non) aF)) (aA (aZ (aA (cD (.str "a")) (aA (cD (.str "b")) aF))) (aA (op2 aHk (cD (.int 10)) (cD (.int 20))) aF))))))))))))))))))
  (retS (op2 ixD (ik 1) (aO aY (aA (aB 0) (aA (cD (.int 90)) (aA (cD (.int 16)) aF)))))))
def lq:List D->Rs D:=fK 2 lX
def fY:En->Ou:=
  (aQ (bY 4 (aO aY (aA (aB 0) (aA (aB 1) (aA (op2 aV (opA bz (aA (aB 2) aF)) (cD (.int 1))) aF)))))
  (aQ (jE 5 (op2 ixD (fD (aA (cD (.int 0)) (aA (aP (aB 3)) (aA (op1 gn (cD (.int 1))) (aA (cD (.bl true)) (aA (cD .non) (aA (cD (.str "0")) (aA (fD (aA (cD (.int 0)) aF)) (aA (op2 qD (aB 3) (cD (.int 1))) (aA (cD (.int 1)) aF)))))))))) (aO aY (aA (aB 0) (aA (op2 aV (aB 1) (cD (.int 1))) (aA (cD (.int 9)) aF))))))
  (aQ (jE 6 (fD (aA (op2 aV (op2 aV (aP (bA (aB 2) bO (bK (aB 4)))) (aZ (aA (ik 5) aF))) (aP (bA (aB 2) (bK (op2 aV (aB 4) (cD (.int 1)))) bO))) (aA (op2 aV (aP (bA (aB 2) bO (bK (aB 4)))) (aP (bA (aB 2) (bK (op2 aV (aB 4) (cD (.int 1)))) bO))) (aA (op2 aV (op2 aV (aP (bA (aB 2) bO (bK (aB 4)))) (aZ (aA (ik 5) aF))) (aP (bA (aB 2) (bK (aB 4)) bO))) (aA (aP (op1 uB (aB 2))) aF))))))
  (aQ (jE 6 (op2 aV (ik 6) (fD (aA (opA sX (aA (aP (aB 2)) aF)) (aA (op2 aV (aP (aB 2)) (aP (bA (aB 2) bO (bK (cD (.int 1)))))) (aA (op2 aV (aP (bA (aB 2) (bK (cD (.int 1))) bO)) (aP (bA (aB 2) bO (bK (cD (.int 1)))))) (aA (aZ aF) (aA (cD .non) (aA (aZ (aA (aP (aB 2)) aF)) aF)))))))))
  (retS (op2 ixD (ik 6) (aO aY (aA (aB 0) (aA (op2 aV (aB 1) (cD (.int 2))) (aA (cD (.int 10)) aF))))))))))
def iK:List D->Rs D:=fK 7 fY
def jg:En->Ou:=
  (aQ (ifS (orT (fC (tst (op1 (fU "tuple") (aB 1)))) (tsb (op2 ltD (opA bz (aA (aB 1) aF)) (cD (.int 3)))))
   (retS (cD (.bl false)))
   Ou.nx)
  (aQ (ifS (orT (fC (tst (opA (jt λ bs=>bs.all id) (aA (lcD (bh (aB 1)) [none,some 0] (gnm 0) bV (iw (aO jT (aA (aB 0) aF)) (chD leD ltD (cD (.int 0)) (aB 0) (op2 ixD (aB 1) (cD (.int 0)))))) aF)))) (tsb (op2 ltD (opA uG (aA (opA qI (aA (aB 1) aF)) aF)) (opA bz (aA (aB 1) aF)))))
   (retS (cD (.bl false)))
   Ou.nx)
  (aQ (ifS (orT (tsb (op2 (eqR true) (opA (iB List.min?) (aA (aB 1) aF)) (op2 ixD (aB 1) (cD (.int 0))))) (tsb (op2 gtD (op2 ixD (aB 1) (cD (.int 1))) (op2 ixD (aB 1) (op1 gn (cD (.int 1)))))))
   (retS (cD (.bl false)))
   Ou.nx)
  (aQ (bY 2 (op2 aV (aB 1) (bA (aB 1) bO (bK (cD (.int 1))))))
  (retS (opA (jt λ bs=>bs.all id) (aA (lcD (cX dm (aA (opA bz (aA (aB 1) aF)) aF)) [none,some 2,some 0] (gnm 0) bV (op2 (inR false) (aZ (aA (opA (mmD λ i j=>if j<i then j else i) (aA (op2 ixD (aB 1) (aB 0)) (aA (op2 ixD (aB 1) (op2 aV (aB 0) (cD (.int 1)))) aF))) (aA (opA (mmD λ i j=>if j>i then j else i) (aA (op2 ixD (aB 1) (aB 0)) (aA (op2 ixD (aB 1) (op2 aV (aB 0) (cD (.int 1)))) aF))) aF))) (op2 ixD (aB 2) (cD (.int 1))))) aF)))))))
def gJ:List D->Rs D:=fK 3 jg
def jk:En->Ou:=
  (aQ (ifS (orT (fC (tst (op1 (fU "tuple") (aB 1)))) (tsb (op2 (eqR false) (opA bz (aA (aB 1) aF)) (cD (.int 0)))))
   (retS (cD (.bl false)))
   Ou.nx)
  (aQ (ifS (orT (fC (tst (opA (jt λ bs=>bs.all id) (aA (lcD (bh (aB 1)) [none,some 0] (gnm 0) bV (iw (aO jT (aA (aB 0) aF)) (chD leD ltD (cD (.int 0)) (aB 0) (op2 ixD (aB 1) (cD (.int 0)))))) aF)))) (tsb (op2 ltD (opA uG (aA (opA qI (aA (aB 1) aF)) aF)) (opA bz (aA (aB 1) aF)))))
   (retS (cD (.bl false)))
   Ou.nx)
  (aQ (ifS (tsb (op2 gtD (op2 ixD (aB 1) (cD (.int 0))) (op2 ixD (aB 1) (op1 gn (cD (.int 1))))))
   (retS (cD (.bl false)))
   Ou.nx)
  (retS (opA (jt λ bs=>bs.all id) (aA (lcD (cX dm (aA (op2 qD (opA bz (aA (aB 1) aF)) (cD (.int 1))) aF)) [none,some 1,some 0] (gnm 0) bV (op2 (inR false) (aZ (aA (opA (iB List.min?) (aA (bA (aB 1) (bK (aB 0)) (bK (op2 aV (aB 0) (cD (.int 2))))) aF)) (aA (opA (iB List.max?) (aA (bA (aB 1) (bK (aB 0)) (bK (op2 aV (aB 0) (cD (.int 2))))) aF)) aF))) (op2 ixD (aB 2) (cD (.int 1))))) aF))))))
def nA:List D->Rs D:=fK 2 jk
def dG:En->Ou:=
  (aQ (jX 1 (lcD (cX dm (aA (op2 ixD (aB 0) (cD (.int 0))) aF)) [none] (gnm 0) bV (aZ (aA (aP (aB 0)) aF))))
  (aQ (bY 2 (cD (.int 0)))
  (aQ (tE (tsb (op2 ltD (aB 2) (opA bz (aA (jC 1) aF))))
   (aQ (jE 3 (aP (op2 ixD (jC 1) (aB 2))))
   (aQ (aAh 1 (lcD (bh (aO gM (aA (aB 0) (aA (op2 ixD (aB 3) (op1 gn (cD (.int 1)))) aF)))) [none,some 3] (gnm 0) (tsb (op2 (inR true) (aB 0) (aB 1))) (op2 aV (aP (aB 1)) (aZ (aA (aP (aB 0)) aF)))))
   (bY 2 (op2 aV (aB 2) (cD (.int 1)))))))
  (retS (lcD (bh (aB 1)) [none] (gnm 0) (tsb (op2 leD (op2 ixD (aB 0) (cD (.int 0))) (op2 ixD (aB 0) (op1 gn (cD (.int 1)))))) (aP (aB 0)))))))
def eG:List D->Rs D:=fK 4 dG
def lZ:En->Ou:=
  (aQ (ifS (orT (fC (tst (op1 (fU "tuple") (aB 1)))) (tsb (op2 (eqR true) (opA bz (aA (aB 1) aF)) (cD (.int 2)))))
   (retS (cD (.bl false)))
   Ou.nx)
  (retS (iw (aO dW (aA (aB 0) (aA (op2 ixD (aB 1) (cD (.int 0))) aF))) (iw (aO dW (aA (aB 0) (aA (op2 ixD (aB 1) (cD (.int 1))) aF))) (op2 (eqR true) (op2 ixD (aB 1) (cD (.int 0))) (op2 ixD (aB 1) (cD (.int 1))))))))
def oZ:List D->Rs D:=fK 2 lZ
def iY:En->Ou:=
  (aQ (ifS (orT (fC (tst (op1 (fU "tuple") (aB 1)))) (tsb (op2 (eqR false) (opA bz (aA (aB 1) aF)) (cD (.int 0)))))
   (retS (cD (.bl false)))
   Ou.nx)
  (aQ (iH (bh (aB 1)) (gnm 2)
   (ifS (fC (tst (aO dW (aA (opA bz (aA (aB 0) aF)) (aA (aB 2) aF)))))
    (retS (cD (.bl false)))
    Ou.nx))
  (aQ (ifS (tsb (op2 (eqR true) (opA uG (aA (opA qI (aA (aB 1) aF)) aF)) (opA bz (aA (aB 1) aF))))
   (retS (cD (.bl false)))
   Ou.nx)
  (aQ (iH (cX uc (aA (cD (.int 1)) (aA (opA bz (aA (aB 1) aF)) aF))) (gnm 3)
   (ifS (tsb (op2 (inR true) (op2 ixD (aB 1) (aB 3)) (op2 ixD (aB 0) (op2 ixD (aB 1) (op2 qD (aB 3) (cD (.int 1)))))))
    (retS (cD (.bl false)))
    Ou.nx))
  (retS (cD (.bl true)))))))
def cN:List D->Rs D:=fK 4 iY
def lW:En->Ou:=
  (aQ (bY 2 (aO aY (aA (aB 0) (aA (cD (.int 0)) (aA (op2 aV (aB 1) (cD (.int 1))) aF)))))
  (aQ (bY 3 (aO aY (aA (aB 0) (aA (cD (.int 1)) (aA (cD (.int 9)) aF)))))
  (aQ (jE 4 (op2 ixD (fD (aA (cD (.int 1)) (aA (cD (.int 2)) (aA (cD (.int 3)) (aA (cD (.int 5)) (aA (cD (.int 7)) (aA (cD (.int 0)) (aA (cD (.int 0)) (aA (cD (.int 0)) (aA (cD (.int 4)) aF)))))))))) (aB 3)))
  (aQ (bY 5 (aO jw (aA (aB 0) (aA (aB 2) aF))))
  (aQ (jX 6 (fD aF))
  (aQ (bY 7 (cD (.int 2)))
  (aQ (iH (cX dm (aA (aB 2) aF)) (gnm 8)
   (iH (cX dm (aA (aB 8) aF)) (gnm 9)
    (aQ (bY 7 (op2 aV (aB 7) (cD (.int 1))))
    (aQ (bY 10 (op2 ltD (aO aY (aA (aB 0) (aA (aB 7) (aA (cD (.int 8)) aF)))) (ik 4)))
    (aQ (ifS (tsb (op2 (inR false) (aB 3) (aZ (aA (cD (.int 5)) (aA (cD (.int 6)) aF)))))
     (bY 10 (orD (op2 (eqR false) (aB 8) (op2 aV (aB 9) (cD (.int 1)))) (iw (op2 (eqR false) (aB 3) (cD (.int 6))) (op2 (eqR false) (aZ (aA (aB 9) (aA (aB 8) aF))) (aZ (aA (cD (.int 0)) (aA (op2 qD (aB 2) (cD (.int 1))) aF)))))))
     Ou.nx)
    (aQ (ifS (tsb (op2 (eqR false) (aB 3) (cD (.int 7))))
     (bY 10 (op2 (eqR false) (aB 9) (cD (.int 0))))
     Ou.nx)
    (aQ (ifS (tsb (op2 (eqR false) (aB 3) (cD (.int 8))))
     (bY 10 (iw (aB 10) (op2 (eqR false) (op2 p8 (op2 aV (aB 9) (aB 8)) (cD (.int 2))) (cD (.int 1)))))
     Ou.nx)
    (ifS (tst (aB 10))
     (pq 6 (aZ (aA (opA (mmD λ i j=>if j<i then j else i) (aA (op2 ixD (aB 5) (aB 9)) (aA (op2 ixD (aB 5) (aB 8)) aF))) (aA (opA (mmD λ i j=>if j>i then j else i) (aA (op2 ixD (aB 5) (aB 9)) (aA (op2 ixD (aB 5) (aB 8)) aF))) aF))))
     Ou.nx))))))))
  (retS (aZ (aA (aP (aB 2)) (aA (opA dq (aA (opA gw (aA (jC 6) aF)) aF)) aF)))))))))))
def ju:List D->Rs D:=fK 11 lW
def dI:En->Ou:=
  (aQ (bY 4 (aO aY (aA (aB 0) (aA (aB 1) (aA (op2 aV (opA bz (aA (aB 2) aF)) (cD (.int 1))) aF)))))
  (aQ (bY 5 (op2 ixD (op2 aV (aB 2) (aZ (aA (aZ aF) aF))) (aB 4)))
  (aQ (ifS (tst (op1 (fU "tuple") (aB 5)))
   (jE 6 (aO iK (aA (aB 0) (aA (op2 aV (aB 1) (cD (.int 1))) (aA (aB 5) (aA (aB 3) aF))))))
   (jE 6 (op2 ixD (fD (aA (cD (.int 0)) (aA (aP (aB 3)) (aA (cD (.bl true)) (aA (cD .non) (aA (op2 aV (aP (aB 5)) (cD (.int 1))) (aA (aZ (aA (aP (aB 5)) aF)) aF))))))) (aO aY (aA (aB 0) (aA (op2 aV (aB 1) (cD (.int 1))) (aA (cD (.int 6)) aF)))))))
  (aQ (jX 7 (fD (aA (op2 aV (op2 aV (aP (bA (aB 2) bO (bK (aB 4)))) (aZ (aA (ik 6) aF))) (aP (bA (aB 2) (bK (op2 aV (aB 4) (cD (.int 1)))) bO))) (aA (op2 aV (aP (bA (aB 2) bO (bK (aB 4)))) (aP (bA (aB 2) (bK (op2 aV (aB 4) (cD (.int 1)))) bO))) (aA (op2 aV (aP (aB 2)) (aP (bA (aB 2) bO (bK (cD (.int 1)))))) aF)))))
  (aQ (jX 7 (op2 aV (nW 7) (fD (aA (aP (op1 uB (aB 2))) (aA (opA sX (aA (aP (aB 2)) aF)) (aA (aZ (aA (aP (aB 2)) aF)) (aA (cD .non) (aA (op2 aV (aP (aB 2)) (aZ (aA (aZ aF) aF))) aF))))))))
  (aQ (pq 7 (op2 aV (op2 aV (aP (bA (aB 2) bO (bK (aB 4)))) (aZ (aA (ik 6) aF))) (aP (bA (aB 2) (bK (aB 4)) bO))))
  (retS (op2 ixD (nW 7) (aO aY (aA (aB 0) (aA (op2 aV (aB 1) (cD (.int 4))) (aA (cD (.int 9)) aF))))))))))))
def cU:List D->Rs D:=fK 8 dI
def eU:En->Ou:=
  (aQ (jX 1 (fD aF))
  (aQ (jX 2 (lcD (cX dm (aA (op2 ixD (aB 0) (cD (.int 0))) aF)) [none] (gnm 0) bV (aZ (aA (aP (aB 0)) aF))))
  (aQ (bY 3 (cD (.int 0)))
  (aQ (tE (tsb (op2 ltD (aB 3) (opA bz (aA (jC 2) aF))))
   (aQ (jE 4 (aP (op2 ixD (jC 2) (aB 3))))
   (aQ (aAh 2 (lcD (bh (aO gM (aA (aB 0) (aA (op2 ixD (aB 4) (op1 gn (cD (.int 1)))) aF)))) [none,some 4] (gnm 0) (aEx (tsb (op2 gtD (aB 0) (op2 ixD (aB 1) (cD (.int 0))))) (tsb (op2 (inR true) (aB 0) (aB 1)))) (op2 aV (aP (aB 1)) (aZ (aA (aP (aB 0)) aF)))))
   (aQ (ifS (tst (aO gJ (aA (aB 0) (aA (ik 4) aF))))
    (pq 1 (ik 4))
    Ou.nx)
   (bY 3 (op2 aV (aB 3) (cD (.int 1))))))))
  (retS (nW 1))))))
def gU:List D->Rs D:=fK 5 eU
def eQ:En->Ou:=
  (aQ (ifS (orT (fC (tst (op1 (fU "tuple") (aB 1)))) (orT (tsb (op2 (eqR true) (opA bz (aA (aB 1) aF)) (cD (.int 2)))) (fC (tst (opA (jt λ bs=>bs.all id) (aA (lcD (bh (aB 1)) [none] (gnm 0) bV (op1 (fU "tuple") (aB 0))) aF))))))
   (retS (cD (.bl false)))
   Ou.nx)
  (aQ (ifS (orT (fC (tst (opA (jt λ bs=>bs.all id) (aA (lcD (bh (op2 ixD (aB 1) (cD (.int 0)))) [none,some 0] (gnm 0) bV (aO nA (aA (aB 1) (aA (aB 0) aF)))) aF)))) (fC (tst (opA (jt λ bs=>bs.all id) (aA (lcD (bh (op2 ixD (aB 1) (cD (.int 1)))) [none,some 0] (gnm 0) bV (aO gJ (aA (aB 1) (aA (aB 0) aF)))) aF)))))
   (retS (cD (.bl false)))
   Ou.nx)
  (retS (iw (aO gK (aA (op2 ixD (aB 1) (cD (.int 0))) aF)) (iw (aO gK (aA (op2 ixD (aB 1) (cD (.int 1))) aF)) (aO iM (aA (op2 aV (op2 ixD (aB 1) (cD (.int 0))) (op2 ixD (aB 1) (cD (.int 1)))) (aA (op2 ixD (aB 0) (cD (.int 0))) aF))))))))
def gQ:List D->Rs D:=fK 2 eQ
def cF:En->Ou:=
  (aQ (ifS (fC (tst (op1 (fU "tuple") (aB 1))))
   (retS (cD (.bl false)))
   Ou.nx)
  (aQ (iH (bh (aB 1)) (gnm 2)
   (ifS (fC (tst (aO oZ (aA (aB 0) (aA (aB 2) aF)))))
    (retS (cD (.bl false)))
    Ou.nx))
  (retS (aO dh (aA (aB 1) aF)))))
def cV:List D->Rs D:=fK 3 cF
def gG:En->Ou:=
  (retS (iw (aO cN (aA (aB 0) (aA (aB 1) aF))) (iw (op2 (eqR false) (op2 ixD (aB 1) (cD (.int 0))) (opA (iB List.min?) (aA (aB 1) aF))) (op2 (inR false) (op2 ixD (aB 1) (cD (.int 0))) (op2 ixD (aB 0) (op2 ixD (aB 1) (op1 gn (cD (.int 1)))))))))
def ie:List D->Rs D:=fK 2 gG
def fj:En->Ou:=
  (retS (iw (aO cN (aA (aB 0) (aA (aB 1) aF))) (op2 (eqR false) (aB 1) (aO iJ (aA (aB 1) aF)))))
def cJ:List D->Rs D:=fK 2 fj
def fX:En->Ou:=
  (aQ (bY 4 (aO aY (aA (aB 0) (aA (aB 1) (aA (opA bz (aA (aB 2) aF)) aF)))))
  (aQ (jE 5 (aO cU (aA (aB 0) (aA (op2 aV (aB 1) (cD (.int 1))) (aA (op2 ixD (aB 2) (aB 4)) (aA (aB 3) aF))))))
  (aQ (jE 6 (fD (aA (op2 aV (op2 aV (aP (bA (aB 2) bO (bK (aB 4)))) (aZ (aA (ik 5) aF))) (aP (bA (aB 2) (bK (op2 aV (aB 4) (cD (.int 1)))) bO))) (aA (aP (op1 uB (aB 2))) (aA (aP (bA (aB 2) bO (bK (op1 gn (cD (.int 1)))))) (aA (op2 aV (aP (aB 2)) (aZ (aA (aZ aF) aF))) (aA (opA sX (aA (aP (aB 2)) aF)) (aA (cD .non) aF))))))))
  (retS (op2 ixD (ik 6) (op2 ixD (fD (aA (cD (.int 0)) (aA (cD (.int 0)) (aA (cD (.int 0)) (aA (cD (.int 1)) (aA (cD (.int 2)) (aA (cD (.int 3)) (aA (cD (.int 4)) (aA (cD (.int 5)) aF))))))))) (aO aY (aA (aB 0) (aA (op2 aV (aB 1) (cD (.int 6))) (aA (cD (.int 8)) aF))))))))))
def fu:List D->Rs D:=fK 7 fX
def dH:En->Ou:=
  (aQ (jE 2 (op2 aV (lcD (bh (aO gU (aA (aB 1) aF))) [none] (gnm 0) bV (aZ (aA (aP (aB 0)) (aA (cD (.int 1)) aF)))) (lcD (bh (aO eG (aA (aB 1) aF))) [none] (gnm 0) (tsb (op2 gtD (opA bz (aA (aB 0) aF)) (cD (.int 1)))) (aZ (aA (aP (aB 0)) (aA (cD (.int 0)) aF))))))
  (aQ (jE 3 (lrD (op2 ixD (aB 1) (cD (.int 0)))))
  (aQ (aGX 4 2)
  (aQ (iH (cX aD6 (aA (ik 2) aF)) (lL 2 (cH (gnm 5) (cH (lL 2 (cH (gnm 6) (cH (gnm 7) mU))) mU)))
   (ifS (aEx (tsb (op2 (eqR false) (lcD (bh (aB 6)) [none,some 3] (gnm 0) (tsb (op2 (inR true) (aB 0) (aB 1))) (aP (aB 0))) (fD aF))) (tsb (op2 (eqR false) (aO aY (aA (aB 0) (aA (op2 aV (cD (.int 30)) (op2 p8 (aB 5) (cD (.int 60)))) (aA (cD (.int 4)) aF)))) (cD (.int 0)))))
    (aQ (oV 4 (aB 7) (aP (aB 6)))
    (jE 3 (lcD (bh (aB 3)) [none,some 6] (gnm 0) (tsb (op2 (inR true) (aB 0) (aB 1))) (aP (aB 0)))))
    Ou.nx))
  (retS (aZ (aA (opA dq (aA (opA lw (aA (op2 aV (op2 ixD (jC 4) (cD (.int 0))) (lcD (bh (aB 3)) [none] (gnm 0) bV (aZ (aA (aP (aB 0)) aF)))) aF)) aF)) (aA (opA dq (aA (opA lw (aA (op2 ixD (jC 4) (cD (.int 1))) aF)) aF)) aF))))))))
def dM:List D->Rs D:=fK 8 dH
def jq:En->Ou:=
  (retS (iw (aO cV (aA (aB 0) (aA (aB 1) aF))) (opA (jt λ bs=>bs.all id) (aA (lcD (bh (aB 1)) [none,none] (lL 2 (cH (gnm 0) (cH (gnm 1) mU))) bV (op2 ltD (aB 0) (aB 1))) aF))))
def pP:List D->Rs D:=fK 2 jq
def lY:En->Ou:=
  (retS (iw (aO ie (aA (aB 0) (aA (aB 1) aF))) (op2 ltD (op2 ixD (aB 1) (cD (.int 1))) (op2 ixD (aB 1) (op1 gn (cD (.int 1)))))))
def gZ:List D->Rs D:=fK 2 lY
def oO:En->Ou:=
  (aQ (ifS (orT (fC (tst (op1 (fU "tuple") (aB 0)))) (tsb (op2 (eqR true) (opA bz (aA (aB 0) aF)) (cD (.int 2)))))
   (retS (cD (.bl false)))
   Ou.nx)
  (retS (iw (aO rQ (aA (op2 ixD (aB 0) (cD (.int 0))) aF)) (aO pP (aA (op2 ixD (aB 0) (cD (.int 0))) (aA (op2 ixD (aB 0) (cD (.int 1))) aF))))))
def vY:List D->Rs D:=fK 1 oO
def oR:En->Ou:=
  (aQ (ifS (fC (tst (op1 (fU "tuple") (aB 1))))
   (retS (cD (.bl false)))
   Ou.nx)
  (aQ (iH (bh (aB 1)) (gnm 3)
   (ifS (fC (tst (tB [("goes_written",cJ),("is_wide",gZ)] 2 (aA (aB 0) (aA (aB 3) aF)))))
    (retS (cD (.bl false)))
    Ou.nx))
  (retS (aO dh (aA (aB 1) aF)))))
def nD:List D->Rs D:=fK 4 oR
def jR:En->Ou:=
  (ifS (fC (tst (aO vY (aA (aB 0) aF))))
   (aBq "NoWeb" (aA (cD (.str "this is no web")) aF))
   Ou.nx)
def jV:List D->Rs D:=fK 1 jR
def jP:En->Ou:=
  (aQ (aD8 (aO jV (aA (aB 0) aF)))
  (aQ (ifS (orT (fC (tst (op1 (fU "tuple") (aB 1)))) (tsb (op2 (eqR true) (opA bz (aA (aB 1) aF)) (cD (.int 2)))))
   (retS (cD (.bl false)))
   Ou.nx)
  (aQ (aDj (aB 1) (lL 2 (cH (gnm 2) (cH (gnm 3) mU))))
  (aQ (bY 4 (aO jy (aA (aB 0) aF)))
  (retS (iw (aO nD (aA (aB 4) (aA (aB 2) (aA (cD (.fn "goes_written")) aF)))) (iw (aO nD (aA (aB 4) (aA (aB 3) (aA (cD (.fn "is_wide")) aF)))) (aO jU (aA (op2 ixD (aB 0) (cD (.int 0))) (aA (op2 aV (aB 2) (aB 3)) aF))))))))))
def di:List D->Rs D:=fK 5 jP
def aAR:En->Ou:=
  (aQ (iH (cX dm (aA (opA (mmD λ i j=>if j>i then j else i) (aA (cD (.int 1)) (aA (opA (mmD λ i j=>if j<i then j else i) (aA (opA bz (aA (aB 0) aF)) (aA (cD (.int 8)) aF))) aF))) aF)) (gnm 1)
   (aQ (bY 2 (aO fH (aA (aB 0) (aA (aB 1) aF))))
   (aQ (bY 3 (aO ju (aA (aB 2) (aA (cD (.int 6)) aF))))
   (aQ (bY 4 (aO dM (aA (aB 2) (aA (aB 3) aF))))
   (aQ (bY 5 (aZ (aA (opA dq (aA (lcD (cX dm (aA (op2 ixD (aB 3) (cD (.int 0))) aF)) [none] (gnm 0) bV (aZ (aA (aP (aB 0)) aF))) aF)) (aA (aZ aF) aF))))
   (aQ (jX 6 (fD (aA (aP (aB 4)) (aA (aP (aB 5)) (aA (aO lq (aA (aB 2) aF)) (aA (aZ (aA (aZ aF) (aA (aZ aF) aF))) aF))))))
   (aQ (bY 7 (trD (op2 ixD (aB 3) (cD (.int 0)))))
   (aQ (jX 6 (op2 aV (nW 6) (fD (aA (aZ (aA (aZ aF) (aA (aZ (aA (aP (aB 7)) aF)) aF))) (aA (aZ (aA (aZ aF) (aA (aZ (aA (aP (bA (aB 7) bO (bK (cD (.int 3))))) (aA (aP (bA (aB 7) (bK (cD (.int 3))) bO)) aF))) aF))) aF)))))
   (aQ (jX 6 (op2 aV (nW 6) (lcD (cX dm (aA (cD (.int 4)) aF)) [none,some 2,some 4,some 3] (gnm 0) bV (aO fu (aA (aB 1) (aA (op2 aV (cD (.int 70)) (op2 nG (cD (.int 8)) (aB 0))) (aA (aB 2) (aA (op2 ixD (aB 3) (cD (.int 0))) aF))))))))
   (aQ (pq 6 (aZ (aA (opA dq (aA (lcD (bh (op2 ixD (aB 4) (cD (.int 0)))) [none] (gnm 0) bV (aP (op1 uB (aB 0)))) aF)) (aA (aP (op2 ixD (aB 4) (cD (.int 1)))) aF))))
   (aQ (pq 6 (aZ (aA (aP (op2 ixD (aB 4) (cD (.int 0)))) (aA (opA dq (aA (lcD (bh (op2 ixD (aB 4) (cD (.int 1)))) [none] (gnm 0) bV (op2 aV (aP (bA (aB 0) bO (bK (cD (.int 1))))) (aP (op1 aCq (aB 0))))) aF)) aF))))
   (aQ (pq 6 (aZ (aA (aP (op2 ixD (aB 4) (cD (.int 0)))) (aA (opA dq (aA (lcD (bh (op2 ixD (aB 4) (cD (.int 1)))) [none] (gnm 0) bV (op2 aV (aP (bA (aB 0) (bK (cD (.int 1))) bO)) (aP (bA (aB 0) bO (bK (cD (.int 1))))))) aF)) aF))))
   (aKs 6 (iH (bh (aB 6)) (gnm 8)
    (iH (cX dm (aA (cD (.int 2)) aF)) (gnm 9)
     (aQ (bY 10 (aO di (aA (aB 3) (aA (aB 8) aF))))
     (ifS (orT (fC (tst (op1 (fU "bool") (aB 10)))) (tsb (op2 (eqR true) (aB 10) (aO gQ (aA (aB 3) (aA (aB 8) aF))))))
      (retS (cD (.bl false)))
      Ou.nx)))))))))))))))))
  (aQ (bY 11 (aZ (aA (cD (.int 60)) (aA (opA dq (aA (lcD (cX dm (aA (cD (.int 59)) aF)) [none] (gnm 0) bV (aZ (aA (aP (aB 0)) (aA (op2 aV (aP (aB 0)) (cD (.int 1))) aF)))) aF)) aF))))
  (retS (iw (op2 (isD false) (aO di (aA (aB 11) (aA (aZ (aA (aZ (aA (trD (cD (.int 60))) aF)) (aA (aZ aF) aF))) aF))) (cD (.bl true))) (op2 (isD false) (aO di (aA (aB 11) (aA (aZ (aA (aZ aF) (aA (aZ (aA (trD (cD (.int 60))) aF)) aF))) aF))) (cD (.bl false)))))))
def aJO:List D->Rs D:=fK 12 aAR
theorem aBU(hb:0<b)(hb2:b<1073741824):∀(ds:List D) (x:Int) (s:Slot),(∀d∈ds,∃n:Int,d= .int n)->
  ∃y s',forL (gnm 4) (bY 3 (op2 zz (aB 3) (aB 2))) ds [.sh (.int c),.sh (.int k),.sh (.int b),.sh (.int x),s,.no]= .nx [.sh (.int c),.sh (.int k),.sh (.int b),.sh (.int y),s',.no]
 |[],x,s,_=>⟨x,s,rfl⟩
 |d::ds,x,s,h=>by
  have ih:=aBU hb hb2 (c:=c) (k:=k) ds (x / b) (.sh d) λ e he=>h e (List.mem_cons_of_mem _ he)
  rw[lV];simp[aBI hb hb2];exact ih
theorem aCM(hk0:0<=k)(hk1:k<2^40)(hb:0<b)(hb2:b<1073741824):∃r:Int,aY [.int c,.int k,.int b]= .ok (.int r)/\0<=r/\r<b:=by
 have hp:aHk (.int 10) (.int 18)= .ok (.int 1000000000000000000):=rfl;by_cases hc:(1000000000000000000:Int)<=c
 ·have hr:=gB (j:=k) (by lia) (by lia)
  obtain⟨y,s',e⟩:=aBU hb hb2 (c:=c) (k:=k) (dB 0 k) c .no λ d hd=>let⟨n,e,_⟩:=iC.mp hd;⟨n,e⟩
  refine⟨y%b,?_,Int.emod_nonneg _ (by lia),Int.emod_lt_of_pos _ hb⟩;simp[aY,jM,bF,hp,hc,hr,e,mL hb]
 ·have s1:∀z:Int,0<=z%2147483647/\z%2147483647<2147483647:=λ z=>⟨Int.emod_nonneg _ (by decide),Int.emod_lt_of_pos _ (by decide)⟩
  have s2:∀z:Int,0<=z%2147483629/\z%2147483629<2147483629:=λ z=>⟨Int.emod_nonneg _ (by decide),Int.emod_lt_of_pos _ (by decide)⟩
  have m1:∀z,nG (.int 1009) (.int z)= .ok (.int (1009*z)):=λ z=>aBv (by decide) (by decide)
  have m2:∀z,nG (.int z) (.int 69621)= .ok (.int (z*69621)):=λ z=>aIF (by decide) (by decide)
  have m3:∀z,nG (.int 40503) (.int z)= .ok (.int (40503*z)):=λ z=>aBv (by decide) (by decide)
  have m4:∀z,nG (.int z) (.int 48271)= .ok (.int (z*48271)):=λ z=>aIF (by decide) (by decide)
  have m5:∀z:Int,nG (.int (z%2147483647)) (.int (z%2147483647))= .ok (.int (z%2147483647*(z%2147483647))):=λ z=>aBv (by have:=s1 z;lia) (by have:=s1 z;lia)
  have d1:∀z,p8 (.int z) (.int 1000000007)= .ok (.int (z%1000000007)):=λ z=>mL (by decide)
  have d2:∀z,p8 (.int z) (.int 2147483647)= .ok (.int (z%2147483647)):=λ z=>mL (by decide)
  have d3:∀z,p8 (.int z) (.int 2147483629)= .ok (.int (z%2147483629)):=λ z=>mL (by decide)
  have d4:∀z,zz (.int z) (.int 32)= .ok (.int (z / 32)):=λ z=>aBI (by decide) (by decide)
  have d5:∀z,p8 (.int z) (.int b)= .ok (.int (z%b)):=λ z=>mL hb
  simp[aY,jM,bF,hp,hc,m1,m2,m3,m4,m5,d1,d2,d3,d4,d5,-Int.emod_emod_of_dvd];exact⟨Int.emod_nonneg _ (by lia),Int.emod_lt_of_pos _ hb⟩
theorem jA(hk0:0<=k)(hk1:k<2^40)(hb:0<b)(hb2:b<1073741824):∃r:Nat,aY [.int c,.int k,.int b]= .ok (.int r)/\(r:Int)<b:=by
 obtain⟨r,e,h0,h1⟩:=aCM (c:=c) hk0 hk1 hb hb2;exact⟨r.toNat,by rw[Int.toNat_of_nonneg h0];exact e,by lia⟩
theorem aLB(h:0<=k):∃c:Int,fH [.scr ns,.int k]= .ok (.int c):=by
 by_cases hk:k<ns.length
 ·obtain⟨d,e,hm,_⟩:=wY (l:=ns.map .int) (i:=k) h (by simpa using hk)
  obtain⟨c,_,rfl⟩:=List.mem_map.mp hm;exact⟨c,by simp[fH,fG,bF,hk,e]⟩
 ·exact⟨0,by simp[fH,fG,bF,hk]⟩
mutual
def pln:D->Bool
 | .tup l=>eY l
 | .lst l=>eY l
 | .set _=>false
 | .scr _=>false
 | .fn _=>false
 |_=>true
def eY:List D->Bool
 |[]=>true
 |d::r=>pln d&&eY r
end
theorem gC(h:pln d=true):knd d=true:=by cases d<;>first|rfl|(simp[pln]at h)
theorem fM:∀{l:List D} {d:D},eY l=true->d∈l->pln d=true
 |x::r,d,h,hm=>by
  simp only[eY,Bool.and_eq_true]at h;rcases List.mem_cons.mp hm with rfl|hm
  ·exact h.1
  ·exact fM h.2 hm
theorem nO:∀{l:List D},(∀d∈l,pln d=true)->eY l=true
 |[],_=>rfl
 |x::r,h=>by
  simp only[eY,Bool.and_eq_true];exact⟨h x (List.mem_cons_self ..),nO λ d hd=>h d (List.mem_cons_of_mem _ hd)⟩
def yh:D->Bool
 | .int _=>true
 |_=>false
def aF5:D->Bool
 | .int i=>decide (0<=i)&&decide (i<=60)
 |_=>false
def bu(m:Int):D->Bool
 | .int i=>decide (0<=i)&&decide (i<m)
 |_=>false
theorem xJ(h:knd d=true):nC [d]= .ok (.bl (yh d)):=by
 simp[nC,jm,bF,aFf h,zb h];cases d<;>rfl
theorem aEk(h:knd d=true):rQ [d]= .ok (.bl (aF5 d)):=by
 simp[rQ,lg,bF,xJ h];cases d<;>simp[yh,aF5]
 rename_i i;by_cases h0:0<=i<;>simp[h0]
theorem qb(h:knd d=true):dW [.int m,d]= .ok (.bl (bu m d)):=by
 simp[dW,jo,bF,xJ h];cases d<;>simp[yh,bu]
 rename_i i;by_cases h0:0<=i<;>simp[h0]
def mK(m:Int):D->Bool
 | .tup [.int a,.int b]=>decide (0<=a)&&decide (a<m)&&decide (0<=b)&&decide (b<m)&& !(a==b)
 |_=>false
theorem rE(h:bu m d=true):∃i:Int,d= .int i/\0<=i/\i<m:=by
 cases d with
 |int i=>simp[bu]at h;exact⟨i,rfl,h.1,h.2⟩
 |_=>simp[bu]at h
theorem aHA(h:eE d=true):∃l,d= .tup l:=by cases d<;>first|exact⟨_,rfl⟩|(cases h)
theorem aLn(h:l.length=2):∃x y,l=[x,y]:=by
 match l,h with
 |[x,y],_=>exact⟨x,y,rfl⟩
theorem aHt(h:eE d=false):mK m d=false:=by cases d<;>first|rfl|(cases h)
theorem aGL(h:l.length≠2):mK m (.tup l)=false:=by
 match l,h with
 |[],_=>rfl
 |[x],_=>cases x<;>rfl
 |[x,y],h=>exact absurd rfl h
 |x::y::z::r,_=>cases x<;>first|rfl|(cases y<;>rfl)
theorem aKG(h:bu m x=false):mK m (.tup [x,y])=false:=by
 cases x with
 |int i=>
  cases y with
  |int j=>
   show((((decide (0<=i)&&decide (i<m))&&decide (0<=j))&&decide (j<m))&& !(i==j))=false
   rw[show(decide (0<=i)&&decide (i<m))=false from h];rfl
  |_=>rfl
 |_=>rfl
theorem aKF(h:bu m y=false):mK m (.tup [.int i,y])=false:=by
 cases y with
 |int j=>
  show((((decide (0<=i)&&decide (i<m))&&decide (0<=j))&&decide (j<m))&& !(i==j))=false
  rw[Bool.and_assoc (decide (0<=i)&&decide (i<m)),show(decide (0<=j)&&decide (j<m))=false from h,Bool.and_false];rfl
 |_=>rfl
theorem aHs(h1:bu m (.int i)=true)(h2:bu m (.int j)=true):mK m (.tup [.int i,.int j])= !(i==j):=by
 show((((decide (0<=i)&&decide (i<m))&&decide (0<=j))&&decide (j<m))&& !(i==j))= !(i==j)
 rw[Bool.and_assoc (decide (0<=i)&&decide (i<m)),show(decide (0<=j)&&decide (j<m))=true from h2,show(decide (0<=i)&&decide (i<m))=true from h1];rfl
def ipE:En->Ou:=ifS (orT (fC (tst (op1 (fU "tuple") (aB 1)))) (tsb (op2 (eqR true) (opA bz (aA (aB 1) aF)) (cD (.int 2))))) (retS (cD (.bl false))) Ou.nx
theorem aDX:lZ=aQ ipE (retS (iw (aO dW (aA (aB 0) (aA (op2 ixD (aB 1) (cD (.int 0))) aF))) (iw (aO dW (aA (aB 0) (aA (op2 ixD (aB 1) (cD (.int 1))) aF))) (op2 (eqR true) (op2 ixD (aB 1) (cD (.int 0))) (op2 ixD (aB 1) (cD (.int 1))))))):=rfl
theorem aNR(hk:knd d=true)(h:eE d=false):ipE [s,.sh d]= .rt (.bl false):=by simp[ipE,fQ hk,h]
theorem aKd(h:l.length≠2):ipE [s,.sh (.tup l)]= .rt (.bl false):=by
 have:¬((l.length:Int)=2):=by omega
 simp[ipE,this]
theorem aKc:ipE [s,.sh (.tup [x,y])]= .nx [s,.sh (.tup [x,y])]:=by simp[ipE]
theorem aEj(h:pln d=true):oZ [.int m,d]= .ok (.bl (mK m d)):=by
 have st:bF 2 [.int m,d]=[.sh (.int m),.sh d]:=rfl;simp only[oZ,aDX,bG,st];cases ht:eE d with
 |false=>rw[aM,aNR (gC h) ht,aHt ht];rfl
 |true=>
  obtain⟨l,rfl⟩:=aHA ht;by_cases hl:l.length=2
  ·obtain⟨x,y,rfl⟩:=aLn hl
   simp only[pln,eY,Bool.and_eq_true]at h;have hx:=qb (m:=m) (gC h.1);have hy:=qb (m:=m) (gC h.2.1);have ex:aO dW (aA (aB 0) (aA (op2 ixD (aB 1) (cD (.int 0))) aF)) [.sh (.int m),.sh (.tup [x,y])]= .ok (.bl (bu m x)):=by simp[hx]
   have ey:aO dW (aA (aB 0) (aA (op2 ixD (aB 1) (cD (.int 1))) aF)) [.sh (.int m),.sh (.tup [x,y])]= .ok (.bl (bu m y)):=by simp[hy]
   rw[aM,aKc,ak,dg,iZ,ex,aH,jc,iZ,ey,aH,jc];cases c1:bu m x with
   |false=>rw[aKG c1];rfl
   |true=>
    obtain⟨i,rfl,_,_⟩:=rE c1;cases c2:bu m y with
    |false=>rw[aKF c2];rfl
    |true=>
     obtain⟨j,rfl,_,_⟩:=rE c2;rw[aHs c1 c2];rfl
  ·rw[aM,aKd hl,aGL hl];rfl
def pD(p:Int×Int):D:=.tup [.int p.1,.int p.2]
def ltP(p q:Int×Int):Bool:=HT.lexLt [p.1,p.2] [q.1,q.2]
def aBn:List (Int×Int)->Bool
 |[]=>true
 |[_]=>true
 |p::q::r=>ltP p q&&aBn (q::r)
theorem aND(p q:Int×Int):ltD (pD p) (pD q)= .ok (.bl (ltP p q)):=aCA [p.1,p.2] [q.1,q.2]
theorem lU:∀(ds:List D) (ok:Nat->Bool) (I:En->Prop) (ρ:En),I ρ->(∀(i:Nat) d ρ,ds[i]? =some d->I ρ->okE (a d ρ) u= .rt r/\ok i=false\/∃ρ',okE (a d ρ) u= .nx ρ'/\I ρ'/\ok i=true)->
  (forL a u ds ρ= .rt r/\∃i,i<ds.length/\ok i=false)\/(∃ρ',forL a u ds ρ= .nx ρ'/\I ρ'/\∀i,i<ds.length->ok i=true)
 |[],ok,I,ρ,h,_=>.inr ⟨ρ,rfl,h,λ i hi=>absurd hi (Nat.not_lt_zero _)⟩
 |d::ds,ok,I,ρ,h,hs=>by
  rw[lV];rcases hs 0 d ρ rfl h with ⟨e,o⟩|⟨ρ',e,h',o⟩
  ·left
   refine⟨?_,0,by simp,o⟩;cases ea:a d ρ with
   |ok ρ1=>rw[ea]at e;simp at e ⊢;rw[e];rfl
   |ex c=>rw[ea]at e;cases e
   |st=>rw[ea]at e;cases e
  ·have ih:=lU ds (λ i=>ok (i+1)) I ρ' h' λ i d2 ρ2 e2 h2=>hs (i+1) d2 ρ2 (by simpa using e2) h2
   have e3:okE (a d ρ) (λ ρ1=>(u ρ1).tn (forL a u ds))=forL a u ds ρ':=by
    cases ea:a d ρ with
    |ok ρ1=>rw[ea]at e;simp at e ⊢;rw[e];rfl
    |ex c=>rw[ea]at e;cases e
    |st=>rw[ea]at e;cases e
   rw[e3];rcases ih with ⟨e4,i,hi,o4⟩|⟨ρ4,e4,h4,o4⟩
   ·exact .inl ⟨e4,i+1,by simpa using hi,o4⟩
   ·refine .inr ⟨ρ4,e4,h4,λ i hi=>?_⟩
    cases i with
    |zero=>exact o
    |succ i=>exact o4 i (by simpa using hi)
theorem oG{i:Nat}(h:(dB lo hi)[i]? =some d):d= .int (lo+i)/\lo+i<hi:=by
 unfold dB at h;rw[List.getElem?_map]at h;by_cases hi2:i<(hi-lo).toNat
 ·rw[List.getElem?_range hi2]at h
  cases h;exact⟨rfl,by omega⟩
 ·rw[List.getElem?_eq_none (by simpa using hi2)]at h
  cases h
theorem iy:(dB lo hi).length=(hi-lo).toNat:=by unfold dB;simp
section
variable{α:Type}{f:α->D}{lt:α->α->Bool}
def mJ(lt:α->α->Bool):List α->Bool
 |[]=>true
 |[_]=>true
 |p::q::r=>lt p q&&mJ lt (q::r)
theorem qT:∀{ps:List α},mJ lt ps=true↔∀(i:Nat) (p q:α),ps[i]? =some p->ps[i+1]? =some q->lt p q=true
 |[]=>by simp[mJ]
 |[x]=>by
  simp only[mJ,true_iff];intro i p q _ h2;simp at h2
 |x::y::r=>by
  have ih:=qT (ps:=y::r);unfold mJ;rw[Bool.and_eq_true,ih];constructor
  ·rintro⟨h1,h2⟩ i p q e1 e2
   cases i with
   |zero=>simp at e1 e2;subst e1 e2;exact h1
   |succ i=>exact h2 i p q (by simpa using e1) (by simpa using e2)
  ·intro h
   exact⟨h 0 x y rfl rfl,λ i p q e1 e2=>h (i+1) p q (by simpa using e1) (by simpa using e2)⟩
theorem q9(hlt:∀a b,ltD (f a) (f b)= .ok (.bl (lt a b)))(hl:ps.length<=100000):dh [.tup (ps.map f)]= .ok (.bl (mJ lt ps)):=by
 have hr:=aBm (i:=1) (j:=(ps.length:Int)) (by decide) (by decide) (by omega) (by omega);have hlen:(dB 1 (ps.length:Int)).length=ps.length-1:=by rw[iy];omega
 have L:=lU (a:=gnm 1) (u:=ifS (fC (tsb (op2 ltD (op2 ixD (aB 0) (op2 qD (aB 1) (cD (.int 1)))) (op2 ixD (aB 0) (aB 1))))) (retS (cD (.bl false))) Ou.nx) (r:=.bl false)
  (dB 1 (ps.length:Int)) (λ i=>match ps[i]?,ps[i+1]? with|some p,some q=>lt p q|_,_=>true) (λ ρ=>∃s,ρ=[.sh (.tup (ps.map f)),s]) [.sh (.tup (ps.map f)),.no] ⟨_,rfl⟩ (by
   rintro i d ρ hd ⟨s,rfl⟩;obtain⟨rfl,h2⟩:=oG hd;have e1:ps[i]? =some ps[i]:=List.getElem?_eq_getElem (by omega);have e2:ps[i+1]? =some ps[i+1]:=List.getElem?_eq_getElem (by omega);have a1:atD (ps.map f) (1+(i:Int)-1)= .ok (f ps[i]):=by
    rw[show(1+(i:Int)-1)=(i:Int)by omega];exact jB (by rw[List.getElem?_map,e1];rfl)
   have a2:atD (ps.map f) (1+(i:Int))= .ok (f ps[i+1]):=by
    rw[show(1+(i:Int))=((i+1:Nat):Int)by omega];exact jB (by rw[List.getElem?_map,e2];rfl)
   simp only[e1,e2];cases c:lt ps[i] ps[i+1]with
   |true=>right;exact⟨_,by simp[a1,a2,hlt,c];rfl,⟨_,rfl⟩,rfl⟩
   |false=>left;exact⟨by simp[a1,a2,hlt,c],rfl⟩)
 have st:bF 2 [.tup (ps.map f)]=[.sh (.tup (ps.map f)),.no]:=rfl;rcases L with ⟨e,i,hi,o⟩|⟨ρ',e,⟨s,rfl⟩,o⟩
 ·have:mJ lt ps=false:=by
   cases c:mJ lt ps with
   |false=>rfl
   |true=>
    rw[hlen]at hi;have z:=qT.mp c i ps[i] ps[i+1] (List.getElem?_eq_getElem (by omega)) (List.getElem?_eq_getElem (by omega));rw[List.getElem?_eq_getElem (by omega),List.getElem?_eq_getElem (by omega)]at o;simp only at o;rw[z]at o;cases o
  rw[this];simp only[dh,iI,bG,st];simp[hr,e]
 ·have:mJ lt ps=true:=qT.mpr λ i p q e1 e2=>by
   have h2:=(List.getElem?_eq_some_iff.mp e2).1
   have:=o i (by rw[hlen];omega)
   rw[e1,e2]at this;exact this
  rw[this];simp only[dh,iI,bG,st];simp[hr,e]
end
theorem aEN:∀ps:List (Int×Int),aBn ps=mJ ltP ps
 |[]=>rfl
 |[_]=>rfl
 |p::q::r=>by unfold aBn mJ;rw[aEN (q::r)]
theorem aCI(hl:ps.length<=100000):dh [.tup (ps.map pD)]= .ok (.bl (aBn ps)):=by
 rw[aEN];exact q9 aND hl
def ltI(a b:Int):Bool:=decide (a<b)
theorem is_rising_I(hl:ps.length<=100000):dh [.tup (ps.map .int)]= .ok (.bl (mJ ltI ps)):=q9 (λ a b=>by rw[aK4];rfl) hl
theorem aJi:aBn ps=true↔∀(i:Nat) (p q:Int×Int),ps[i]? =some p->ps[i+1]? =some q->ltP p q=true:=by rw[aEN];exact qT
def aJs:D->Int×Int
 | .tup [.int a,.int b]=>(a,b)
 |_=>(0,0)
theorem aEX(h:mK m d=true):∃a b:Int,d= .tup [.int a,.int b]/\0<=a/\a<m/\0<=b/\b<m/\a≠b:=by
 unfold mK at h;split at h
 ·rename_i a b
  simp at h;exact⟨a,b,rfl,h.1.1.1.1,h.1.1.1.2,h.1.1.2,h.1.2,h.2⟩
 ·cases h
theorem aL6:∀{ts:List D},ts.all (mK m)=true->(ts.map aJs).map pD=ts
 |[],_=>rfl
 |t::ts,h=>by
  rw[List.all_cons,Bool.and_eq_true]at h;obtain⟨a,b,rfl,_⟩:=aEX h.1;simp only[List.map_cons];rw[aL6 h.2];rfl
def rpB(m:Int):D->Bool
 | .tup ts=>ts.all (mK m)&&aBn (ts.map aJs)
 |_=>false
def aMC:D->Bool
 | .tup l=>decide (l.length<=100000)
 |_=>true
theorem sS(h:pln d=true)(hs:aMC d=true):cV [.int m,d]= .ok (.bl (rpB m d)):=by
 cases d with
 |tup ts=>
  have hp:eY ts=true:=by simpa[pln]using h
  have hl:ts.length<=100000:=by simpa[aMC]using hs
  have L:=lU (a:=gnm 2) (u:=ifS (fC (tst (aO oZ (aA (aB 0) (aA (aB 2) aF))))) (retS (cD (.bl false))) Ou.nx) (r:=.bl false)
   ts (λ i=>match ts[i]? with|some t=>mK m t|none=>true) (λ ρ=>∃s,ρ=[.sh (.int m),.sh (.tup ts),s]) [.sh (.int m),.sh (.tup ts),.no] ⟨_,rfl⟩ (by
    rintro i d ρ hd ⟨s,rfl⟩;have e:=aEj (m:=m) (fM hp (List.mem_of_getElem? hd));simp only[hd];cases c:mK m d with
    |true=>right;exact⟨_,by simp[e,c];rfl,⟨_,rfl⟩,rfl⟩
    |false=>left;exact⟨by simp[e,c],rfl⟩)
  have st:bF 3 [.int m,.tup ts]=[.sh (.int m),.sh (.tup ts),.no]:=rfl;rcases L with ⟨e,i,hi,o⟩|⟨ρ',e,⟨s,rfl⟩,o⟩
  ·have:ts.all (mK m)=false:=by
    rw[List.all_eq_false];rw[List.getElem?_eq_getElem hi]at o;exact⟨ts[i],List.getElem_mem hi,by simpa using o⟩
   simp only[cV,cF,bG,st];simp[e,rpB,this]
  ·have:ts.all (mK m)=true:=by
    rw[List.all_eq_true];intro t ht;obtain⟨i,hi,rfl⟩:=List.getElem_of_mem ht
    have:=o i hi
    rw[List.getElem?_eq_getElem hi]at this;exact this
   have er:=aCI (ps:=ts.map aJs) (by rw[List.length_map];exact hl);rw[aL6 this]at er;simp only[cV,cF,bG,st];simp[e,rpB,this,er]
 |_=>simp[cV,cF,bF,fQ (gC h),eE,rpB]
theorem j8:∀(ds:List D) (P:Nat->En->Prop) (ρ:En),P 0 ρ->(∀(i:Nat) d ρ,ds[i]? =some d->P i ρ->∃ρ',okE (a d ρ) u= .nx ρ'/\P (i+1) ρ')->∃ρ',forL a u ds ρ= .nx ρ'/\P ds.length ρ'
 |[],P,ρ,h,_=>⟨ρ,rfl,h⟩
 |d::ds,P,ρ,h,hs=>by
  obtain⟨ρ1,e,h1⟩:=hs 0 d ρ rfl h;obtain⟨ρ2,e2,h2⟩:=j8 (a:=a) (u:=u) ds (λ i=>P (i+1)) ρ1 h1 λ i d2 ρ2 e2 h2=>hs (i+1) d2 ρ2 (by simpa using e2) h2
  refine⟨ρ2,?_,by simpa using h2⟩;rw[lV];cases ea:a d ρ with
  |ok ρ0=>rw[ea]at e;simp at e ⊢;rw[e];exact e2
  |ex c=>rw[ea]at e;cases e
  |st=>rw[ea]at e;cases e
theorem zm(l:List α)(i:Int)(y:α):(iz l i y).Perm (y::l):=by
 unfold iz;generalize (if i<0 then(i+(l.length:Int)).toNat else min i.toNat l.length)=k
 have:(l.take k++y::l.drop k).Perm (y::(l.take k++l.drop k)):=List.perm_middle
 rwa [List.take_append_drop]at this
theorem aG5(f:α->β)(l:List α)(i:Int)(y:α):iz (l.map f) i (f y)=(iz l i y).map f:=by
 unfold iz;rw[List.length_map,List.map_append,List.map_cons,List.map_take,List.map_drop]
structure aNj(n:Nat)(os:List Int):Prop where
 len:os.length=n
 nd:os.Nodup
 lo:∀x∈os,0<=x/\x<n
theorem aDT{n:Nat}(h1:n<=60):∃os,jw [.int c,.int n]= .ok (.lst (os.map .int))/\aNj n os:=by
 have hr:=gB (j:=(n:Int)) (by lia) (by lia);have hlen:(dB 0 (n:Int)).length=n:=by rw[iy];lia
 obtain⟨ρ',e,s,os,rfl,ho⟩:=j8 (a:=gnm 3) (u:=aI0 2 (aO aY (aA (aB 0) (aA (op2 aV (cD (.int 100)) (aB 3)) (aA (op2 aV (aB 3) (cD (.int 1))) aF)))) (aP (aB 3))) (dB 0 (n:Int))
  (λ i ρ=>∃s os,ρ=[.sh (.int c),.sh (.int n),.ow (.lst (os.map .int)),s]/\aNj i os) [.sh (.int c),.sh (.int n),.ow (.lst []),.no] ⟨.no,[],rfl,rfl,by simp,λ x hx=>by simp at hx⟩ (by
   rintro i d ρ hd ⟨s,os,rfl,ho⟩;obtain⟨rfl,h2⟩:=oG hd;obtain⟨r,er,r0,r1⟩:=aCM (c:=c) (k:=100+(i:Int)) (b:=(i:Int)+1) (by lia) (by lia) (by lia) (by lia);have hz: -9223372036854775808<=r/\r<9223372036854775808/\os.length<16777216:=⟨by lia,by lia,by rw[ho.len];lia⟩;refine⟨[.sh (.int c),.sh (.int n),.ow (.lst ((iz os r (0+(i:Int))).map .int)),.sh (.int (0+(i:Int)))],?_,_,_,rfl,?_,?_,λ x hx=>?_⟩
   ·rw[<-aG5]
    simp only[pJ,kj,aI0];simp[er,hz]
   ·rw[aBD,ho.len]
   ·refine(zm os r _).nodup_iff.mpr (List.nodup_cons.mpr ⟨λ hm=>?_,ho.nd⟩)
    have:=ho.lo _ hm
    lia
   ·rcases List.mem_cons.mp ((zm os r _).mem_iff.mp hx)with q|q
    ·lia
    ·have:=ho.lo x q
     lia)
 rw[hlen]at ho;refine⟨os,?_,ho⟩;simp[jw,jh,bF,hr,e]
def aEz:List (Int×Int):=(List.range 8).flatMap λ(a:Nat)=>((List.range 8).filter λ b=>b !=a).map λ(b:Nat)=>((a:Int),(b:Int))
theorem aDn(h0:0<=p.1)(h1:p.1<8)(h2:0<=p.2)(h3:p.2<8)(h4:p.1≠p.2):p∈aEz:=by
 unfold aEz;rw[List.mem_flatMap];refine⟨p.1.toNat,by simp;lia,?_⟩;rw[List.mem_map];refine⟨p.2.toNat,?_,?_⟩
 ·rw[List.mem_filter]
  refine⟨by simp;lia,?_⟩
  have:p.2.toNat≠p.1.toNat:=by lia
  simpa using this
 ·have e1:((p.1.toNat:Nat):Int)=p.1:=Int.toNat_of_nonneg h0
  have e2:((p.2.toNat:Nat):Int)=p.2:=Int.toNat_of_nonneg h2;rw[e1,e2]
def pl(p:Int×Int):List Int:=[p.1,p.2]
def hp(p:Int×Int):Int:=hsh (pl p)
def aFj:List Int:=[(-1950498447580522560),7204814214171964562,(-4734289103435588629),1773351652666409796,(-3119722376306286570),(-1010439003188656273),(-5903513032161352639),(-5164621852614943976),(-3550055125485641917),(-1440771752368011620),(-6333845781340707986),173794974761290439,(-4719279054211405927),(-2609995681093775630),4685526799349444076,6794810172467074373,8409376899596376432,3516302870623680066,(-8422800446983873125),(-6313517073866242828),7240152970870612422,2248468952609198383,8756109708711196808,3863035679738500442,1079245023883434373,7586885779985432798,(-4352217537622120393),4803095124130366729,(-6348126469135965181),159514286966033244,(-9131917124991031250),(-2624276368889032825),(-1009709641759730766),1099573731357899531,(-3793500297614796835),(-3054609118068388172),3453031638033610253,(-5838399773923454241),669240982178544184,(-4223833046794152182),(-7007623702649218251),(-499982946547219826),(-5491666964808633865),8062003079928221385,(-3877100237679331806),2630540518422666619,(-6660890893534397875),(-153250137432399450),1461316589696902609,4358481687155754187,(-7580621630451799004),5973048414285056246,8082331787402686543,3189257758429990177,(-8749845559177563014),(-2242204803075564589)]
set_option maxRecDepth 1000000 in
theorem aDo:aEz.map hp=aFj:=by decide+kernel
set_option maxRecDepth 1000000 in
theorem aEn:aFj.Nodup:=by decide+kernel
theorem aB2:(aEz.map hp).Nodup/\aEz.length=56:=⟨by rw[aDo];exact aEn,by rw[<-List.length_map (f:=hp),aDo];rfl⟩
theorem aBB:∀{L:List α},(L.map f).Nodup->∀x∈L,∀y∈L,f x=f y->x=y
 |a::L,h,x,hx,y,hy,e=>by
  rw[List.map_cons,List.nodup_cons]at h;rcases List.mem_cons.mp hx with q|q
  ·rcases List.mem_cons.mp hy with z|z
   ·rw[q,z]
   ·subst q
    exact absurd (List.mem_map.mpr ⟨y,z,e.symm⟩) h.1
  ·rcases List.mem_cons.mp hy with z|z
   ·subst z
    exact absurd (List.mem_map.mpr ⟨x,q,e⟩) h.1
   ·exact aBB h.2 x q y z e
theorem rG:∀{l:List α},l.Nodup->(∀x∈l,∀y∈l,f x=f y->x=y)->(l.map f).Nodup
 |[],_,_=>by simp
 |a::l,h,hi=>by
  rw[List.nodup_cons]at h;rw[List.map_cons,List.nodup_cons];refine⟨λ hm=>?_,rG h.2 λ x hx y hy e=>hi x (List.mem_cons_of_mem _ hx) y (List.mem_cons_of_mem _ hy) e⟩;obtain⟨x,hx,e⟩:=List.mem_map.mp hm
  have:=hi x (List.mem_cons_of_mem _ hx) a List.mem_cons_self e
  subst this;exact h.1 hx
structure Ow(n:Int)(ps:List (Int×Int)):Prop where
 n0:0<=n
 n1:n<=60
 len:ps.length<=3600
 pr:∀p∈ps,0<=p.1/\p.1<n/\0<=p.2/\p.2<n/\p.1≠p.2
 ris:aBn ps=true
def owD(n:Int)(ps:List (Int×Int)):D:=.tup [.int n,.tup (ps.map pD)]
theorem aJZ(p:Int×Int):tupI (pl p)=pD p:=rfl
theorem aMW(h:pl p=pl q):p=q:=by
 unfold pl at h;injection h with h1 h2
 injection h2 with h2 _
 exact Prod.ext h1 h2
theorem aA5(nd:ps.Nodup):∃qs:List (Int×Int),lA (ps.map pl)=qs.map pl/\qs.Perm ps/\aBn qs=true:=by
 obtain⟨qs,q1,q2⟩:=pC (f:=pl) (lu (ps.map pl)) rfl;refine⟨qs,q2,q1,aJi.mpr λ i p q e1 e2=>?_⟩;have hr:=qG (ps.map pl);rw[q2]at hr;have hnd:qs.Nodup:=q1.nodup_iff.mpr nd;have h1:=(List.getElem?_eq_some_iff.mp e1).1;have h2:=(List.getElem?_eq_some_iff.mp e2).1;have f1:(qs.map pl)[i]'(by simpa using h1)=pl p:=by
  rw[List.getElem_map,(List.getElem?_eq_some_iff.mp e1).2]
 have f2:(qs.map pl)[i+1]'(by simpa using h2)=pl q:=by
  rw[List.getElem_map,(List.getElem?_eq_some_iff.mp e2).2]
 have z:=List.pairwise_iff_getElem.mp hr i (i+1) (by simpa using h1) (by simpa using h2) (by lia);rw[f1,f2]at z;have hne:p≠q:=λ e=>by
  subst e
  have:=(List.getElem?_inj h1 hnd).mp (e1.trans e2.symm)
  lia
 show HT.lexLt (pl p) (pl q)=true;cases c:HT.lexLt (pl p) (pl q)with
 |true=>rfl
 |false=>exact absurd (aMW (zV _ _ c z)) hne
theorem aFv(ps:List (Int×Int)):nY (ps.map pD)=some (ps.map pl):=by
 have:=tG (nss:=ps.map pl) λ ns h=>by
  obtain⟨p,_,rfl⟩:=List.mem_map.mp h;simp[pl]
 rw[List.map_map]at this;exact this
theorem aNW(ps:List (Int×Int)):(ps.map pl).map hsh=ps.map hp:=by
 induction ps with
 |nil=>rfl
 |cons p ps ih=>simp only[List.map_cons,ih,hp]
theorem aEB(h1:nY l=some nss)(h2:nss.length<64)(h3:(nss.map hsh).Nodup):gw [.lst l]= .ok (.lst ((lA nss).map tupI)):=by
 unfold gw;dsimp only;rw[h1];dsimp only;rw[if_pos ⟨h2,h3⟩]
theorem yu(nd:ps.Nodup)(h8:∀p∈ps,0<=p.1/\p.1<8/\0<=p.2/\p.2<8/\p.1≠p.2):∃qs:List (Int×Int),gw [.lst (ps.map pD)]= .ok (.lst (qs.map pD))/\qs.Perm ps/\aBn qs=true:=by
 obtain⟨qs,q1,q2,q3⟩:=aA5 nd;have hin:∀p∈ps,p∈aEz:=λ p hp=>by
  obtain⟨a,b,c,d,e⟩:=h8 p hp;exact aDn a b c d e
 have hlen:ps.length<=56:=by
  have:=sub_len nd hin
  rw[aB2.2]at this;exact this
 have hn:((ps.map pl).map hsh).Nodup:=by
  rw[aNW];exact rG nd λ x hx y hy e=>aBB aB2.1 x (hin x hx) y (hin y hy) e
 refine⟨qs,?_,q2,q3⟩;rw[aEB (aFv ps) (by rw[List.length_map];lia) hn,q1,List.map_map];exact congrArg (λ l=>Rs.ok (D.lst l)) (List.map_congr_left λ p _=>aJZ p)
theorem aHw{os:List Int}(h:k<os.length):atD (os.map D.int) (k:Int)= .ok (.int (os.getD k 0)):=jB (by rw[List.getElem?_map,List.getElem?_eq_getElem h];simp[h])
theorem aLG(hn:n<=60){ip:List (Nat×Nat)}(nd:ip.Nodup)(h:∀q∈ip,q.1<n/\q.2<n):ip.length<=3600:=by
 have:=sub_len (l':=(List.range 60).flatMap λ a=>(List.range 60).map λ b=>(a,b)) nd λ q hq=>by
  rw[List.mem_flatMap]
  have:=h q hq
  exact⟨q.1,by simp;lia,List.mem_map.mpr ⟨q.2,by simp;lia,rfl⟩⟩
 refine Nat.le_trans this ?_;rw[List.length_flatMap];simp only[List.length_map,List.length_range];decide
theorem Ow.rp(h:Ow n ps):rpB n (.tup (ps.map pD))=true:=by
 have e:(ps.map pD).map aJs=ps:=by rw[List.map_map];exact(List.map_congr_left λ p _=>rfl).trans (List.map_id ps)
 unfold rpB;dsimp only;rw[e,h.ris,Bool.and_true,List.all_eq_true];intro d hd;obtain⟨p,hp,rfl⟩:=List.mem_map.mp hd;obtain⟨a,b,c,d,e⟩:=h.pr p hp;simp[pD,mK,a,b,c,d,e]
theorem aFV:∀ps:List (Int×Int),eY (ps.map pD)=true
 |[]=>rfl
 |p::ps=>by simp only[List.map_cons,eY,aFV ps,Bool.and_true];rfl
theorem mz:∀ns:List Int,jd (ns.map .int)=0/\cP (ns.map .int)=true
 |[]=>⟨rfl,rfl⟩
 |n::ns=>by
  obtain⟨h1,h2⟩:=mz ns;simp[jd,sO,cP,bx,h1,h2]
theorem aBV:∀ps:List (Int×Int),jd (ps.map pD)<=1/\cP (ps.map pD)=true
 |[]=>⟨by simp[jd],rfl⟩
 |p::ps=>by
  obtain⟨h1,h2⟩:=aBV ps;simp[jd,sO,cP,bx,h2,pD,h1]
theorem yZ(neg:Bool)(y:Int)(ns:List Int):inR neg (.int y) (.lst (ns.map .int))= .ok (.bl (if neg then !decide (y∈ns)else decide (y∈ns))):=by
 obtain⟨h1,h2⟩:=mz ns;have e:inD (.int y) (ns.map .int)=decide (y∈ns):=by
  unfold inD;rw[Bool.eq_iff_iff];simp[List.any_eq_true,eqD]
 unfold inR;dsimp only;rw[h1,h2,e];rfl
theorem zp(neg:Bool)(q:Int×Int)(ps:List (Int×Int)):inR neg (pD q) (.tup (ps.map pD))= .ok (.bl (if neg then !decide (q∈ps)else decide (q∈ps))):=by
 obtain⟨h1,h2⟩:=aBV ps;have e:inD (pD q) (ps.map pD)=decide (q∈ps):=by
  unfold inD;rw[Bool.eq_iff_iff];simp only[List.any_map,List.any_eq_true,Function.comp,decide_eq_true_eq];constructor
  ·rintro⟨p,hp,h⟩
   simp[pD,eqD,pL]at h
   have:p=q:=Prod.ext h.1 h.2
   exact this▸hp
  ·intro h
   exact⟨q,h,by simp[pD,eqD,pL]⟩
 unfold inR;dsimp only;have h3:decide (jd (ps.map pD)<=60)=true:=by simp;lia
 have h4:bx (pD q)=true:=rfl;rw[h2,e,h3,h4];rfl
theorem lF:∀(ds:List D),(∀d∈ds,∃ρ1,fg d ρ= .ok ρ1/\fe ρ1= .ok (g d))->lcL ρ fg bV fe ds= .ok (ds.map g)
 |[],_=>rfl
 |d::ds,h=>by
  obtain⟨ρ1,e1,e2⟩:=h d List.mem_cons_self;have ih:=lF ds λ e he=>h e (List.mem_cons_of_mem _ he)
  unfold lcL;rw[e1,aH,aJU,aH,if_pos rfl,e2,aH,ih,aH];rfl
theorem aCD(h:knd d=true):jT [d]= .ok (.bl (yh d)):=by
 simp[jT,jO,bF,aFf h,zb h];cases d<;>rfl
theorem aCT(f:α->Bool)(l:List α):boolsOf (l.map λ x=>D.bl (f x))=some (l.map f):=by
 have:=xW (l.map f)
 rwa [List.map_map]at this
theorem oX(f:α->Bool)(l:List α):jt (λ bs=>bs.all id) [.lst (l.map λ x=>D.bl (f x))]= .ok (.bl (l.all f)):=by
 unfold jt;dsimp only;rw[aCT];dsimp only;rw[List.all_map];rfl
theorem lG:∀(l:List α),(∀x∈l,∃ρ1,fg (f x) ρ= .ok ρ1/\ft ρ1= .ok (t x)/\fe ρ1= .ok (g x))->lcL ρ fg ft fe (l.map f)= .ok ((l.filter t).map g)
 |[],_=>rfl
 |x::l,h=>by
  obtain⟨ρ1,e1,e2,e3⟩:=h x List.mem_cons_self;have ih:=lG l λ y hy=>h y (List.mem_cons_of_mem _ hy)
  rw[List.map_cons];unfold lcL;rw[e1,aH,e2,aH,e3,aH,ih,aH,List.filter_cons];cases t x<;>rfl
theorem aLb{ρ:En}:∀(ps:List (Int×Int)),lcL [.no,.no] (lL 2 (cH (gnm 0) (cH (gnm 1) mU))) bV (op2 ltD (aB 0) (aB 1)) (ps.map pD)= .ok (ps.map λ p=>.bl (decide (p.1<p.2)))
 |[]=>rfl
 |p::ps=>by
  unfold lcL;simp[pD,aLb (ρ:=ρ) ps]
theorem aDk{n:Int}(h:Ow n ps)(low:∀p∈ps,p.1<p.2):pP [.int n,.tup (ps.map pD)]= .ok (.bl true):=by
 have hl:=h.len;have e:=sS (m:=n) (d:=.tup (ps.map pD)) (by simpa[pln]using aFV ps) (by simp[aMC];lia);rw[h.rp]at e;have el:=aLb (ρ:=[]) ps;have ei:lcD (bh (aB 1)) [none,none] (lL 2 (cH (gnm 0) (cH (gnm 1) mU))) bV (op2 ltD (aB 0) (aB 1)) [.sh (.int n),.sh (.tup (ps.map pD))]= .ok (.lst (ps.map λ p=>.bl (decide (p.1<p.2)))):=by
  have hi:bh (aB 1) (shE [.sh (.int n),.sh (.tup (ps.map pD))])= .ok (ps.map pD):=by simp[shE,rR]
  unfold lcD;rw[hi,aH,if_pos (by rw[szl,List.length_map];lia)]
  show(match lcL [.no,.no] _ bV _ (ps.map pD)with| .ok l=>Rs.ok (D.lst l)|_=>Rs.st)=_
  rw[el]
 have ha:opA (jt λ bs=>bs.all id) (aA (lcD (bh (aB 1)) [none,none] (lL 2 (cH (gnm 0) (cH (gnm 1) mU))) bV (op2 ltD (aB 0) (aB 1))) aF) [.sh (.int n),.sh (.tup (ps.map pD))]= .ok (.bl true):=by
  rw[fO,aX,ei,aH,bQ,aH,aH,oX,bC];rw[List.all_eq_true.mpr λ p hp=>decide_eq_true (low p hp)]
 have st:bF 2 [.int n,.tup (ps.map pD)]=[.sh (.int n),.sh (.tup (ps.map pD))]:=rfl;have ec:aO cV (aA (aB 0) (aA (aB 1) aF)) [.sh (.int n),.sh (.tup (ps.map pD))]= .ok (.bl true):=by rw[eF];exact e
 simp only[pP,jq,bG,st];rw[dg,iZ,ec,ha];rfl
theorem aG2(h:Ow n ps)(low:∀p∈ps,p.1<p.2):vY [owD n ps]= .ok (.bl true):=by
 have e1:=aEk (d:=.int n) rfl;have e2:=aDk h low;have e3:aF5 (.int n)=true:=by simp[aF5,h.n0,h.n1]
 rw[e3]at e1;simp[vY,oO,owD,bF,e1,e2]
def wA:En->Ou:=ifS (tsb (op2 (inR false) (aB 3) (aZ (aA (cD (.int 5)) (aA (cD (.int 6)) aF)))))
     (bY 10 (orD (op2 (eqR false) (aB 8) (op2 aV (aB 9) (cD (.int 1)))) (iw (op2 (eqR false) (aB 3) (cD (.int 6))) (op2 (eqR false) (aZ (aA (aB 9) (aA (aB 8) aF))) (aZ (aA (cD (.int 0)) (aA (op2 qD (aB 2) (cD (.int 1))) aF)))))))
     Ou.nx
def wB:En->Ou:=ifS (tsb (op2 (eqR false) (aB 3) (cD (.int 7))))
     (bY 10 (op2 (eqR false) (aB 9) (cD (.int 0))))
     Ou.nx
def wC:En->Ou:=ifS (tsb (op2 (eqR false) (aB 3) (cD (.int 8))))
     (bY 10 (iw (aB 10) (op2 (eqR false) (op2 p8 (op2 aV (aB 9) (aB 8)) (cD (.int 2))) (cD (.int 1)))))
     Ou.nx
def wD:En->Ou:=ifS (tst (aB 10))
     (pq 6 (aZ (aA (opA (mmD λ i j=>if j<i then j else i) (aA (op2 ixD (aB 5) (aB 9)) (aA (op2 ixD (aB 5) (aB 8)) aF))) (aA (opA (mmD λ i j=>if j>i then j else i) (aA (op2 ixD (aB 5) (aB 9)) (aA (op2 ixD (aB 5) (aB 8)) aF))) aF))))
     Ou.nx
def wIn:En->Ou:=aQ (bY 7 (op2 aV (aB 7) (cD (.int 1)))) (aQ (bY 10 (op2 ltD (aO aY (aA (aB 0) (aA (aB 7) (aA (cD (.int 8)) aF)))) (ik 4))) (aQ wA (aQ wB (aQ wC wD))))
def aJX:En->Ou:=iH (cX dm (aA (aB 8) aF)) (gnm 9) wIn
theorem aDS:lW=aQ (bY 2 (aO aY (aA (aB 0) (aA (cD (.int 0)) (aA (op2 aV (aB 1) (cD (.int 1))) aF)))))
  (aQ (bY 3 (aO aY (aA (aB 0) (aA (cD (.int 1)) (aA (cD (.int 9)) aF)))))
  (aQ (jE 4 (op2 ixD (fD (aA (cD (.int 1)) (aA (cD (.int 2)) (aA (cD (.int 3)) (aA (cD (.int 5)) (aA (cD (.int 7)) (aA (cD (.int 0)) (aA (cD (.int 0)) (aA (cD (.int 0)) (aA (cD (.int 4)) aF)))))))))) (aB 3)))
  (aQ (bY 5 (aO jw (aA (aB 0) (aA (aB 2) aF))))
  (aQ (jX 6 (fD aF))
  (aQ (bY 7 (cD (.int 2)))
  (aQ (iH (cX dm (aA (aB 2) aF)) (gnm 8) aJX)
  (retS (aZ (aA (aP (aB 2)) (aA (opA dq (aA (opA gw (aA (jC 6) aF)) aF)) aF)))))))))):=rfl
def mn(a b:Int):Int:=if b<a then b else a
def mx(a b:Int):Int:=if b>a then b else a
theorem aKU(h1:0<=a)(h2:a<n)(h3:0<=b)(h4:b<n)(ne:a≠b):0<=mn a b/\mn a b<mx a b/\mx a b<n:=by
 by_cases h:b<a
 ·rw[mn,mx,if_pos h,if_neg (by lia)]
  exact⟨h3,h,h2⟩
 ·rw[mn,mx,if_neg h,if_pos (by lia)]
  exact⟨h1,by lia,h4⟩
theorem aBw(a b:Int):(mn a b=a/\mx a b=b)\/(mn a b=b/\mx a b=a):=by
 by_cases h:b<a
 ·rw[mn,mx,if_pos h,if_neg (by lia)]
  exact .inr ⟨rfl,rfl⟩
 ·rw[mn,mx,if_neg h]
  by_cases h2:b>a
  ·rw[if_pos h2];exact .inl ⟨rfl,rfl⟩
  ·rw[if_neg h2];exact .inl ⟨rfl,by lia⟩
theorem aKV(e1:mn a b=mn c d)(e2:mx a b=mx c d):(a=c/\b=d)\/(a=d/\b=c):=by
 rcases aBw a b with ⟨p,q⟩|⟨p,q⟩<;>rcases aBw c d with ⟨r,s⟩|⟨r,s⟩<;>rw[p,r]at e1<;>rw[q,s]at e2
 ·exact .inl ⟨e1,e2⟩
 ·exact .inr ⟨e1,e2⟩
 ·exact .inr ⟨e2,e1⟩
 ·exact .inl ⟨e2,e1⟩
def ti(os:List Int)(q:Nat×Nat):Int×Int:=(mn (os.getD q.1 0) (os.getD q.2 0),mx (os.getD q.1 0) (os.getD q.2 0))
abbrev weE(c most:Int)(n kd:Nat)(t:Int)(os:List Int)(ip:List (Nat×Nat))(sp:Int)(s8 s9 s10:Slot):En:=
 [.sh (.int c),.sh (.int most),.sh (.int n),.sh (.int kd),.nw (.int t),.sh (.lst (os.map .int)),.ow (.lst ((ip.map (ti os)).map pD)),.sh (.int sp),s8,s9,s10]
theorem aPG:inR false (.int k) (.tup [.int 5,.int 6])= .ok (.bl (inD (.int k) [.int 5,.int 6])):=rfl
theorem aN2:eqR false (.tup [.int a,.int b]) (.tup [.int c,.int d])= .ok (.bl (eqD (.tup [.int a,.int b]) (.tup [.int c,.int d]))):=rfl
section
variable{c most t sp:Int}{n kd i j:Nat}{os:List Int}{ip:List (Nat×Nat)}{b:Bool}
theorem aNq:∃b',wA (weE c most n kd t os ip sp (.sh (.int j)) (.sh (.int i)) (.sh (.bl b)))= .nx (weE c most n kd t os ip sp (.sh (.int j)) (.sh (.int i)) (.sh (.bl b'))):=by
 unfold wA;rw[j6];have hc:tsb (op2 (inR false) (aB 3) (aZ (aA (cD (.int 5)) (aA (cD (.int 6)) aF)))) (weE c most n kd t os ip sp (.sh (.int j)) (.sh (.int i)) (.sh (.bl b)))= .ok (inD (.int kd) [.int 5,.int 6]):=by simp[aPG]
 rw[hc,cI];cases inD (.int kd) [.int 5,.int 6]with
 |false=>exact⟨b,rfl⟩
 |true=>
  rw[if_pos rfl];by_cases k1:(j:Int)=(i:Int)+1
  ·exact⟨true,by simp[k1]⟩
  ·by_cases k2:(kd:Int)=6
   ·exact⟨_,by simp[k1,k2,aN2];rfl⟩
   ·exact⟨false,by simp[k1,k2]⟩
theorem aNp:∃b',wB (weE c most n kd t os ip sp (.sh (.int j)) (.sh (.int i)) (.sh (.bl b)))= .nx (weE c most n kd t os ip sp (.sh (.int j)) (.sh (.int i)) (.sh (.bl b'))):=by
 unfold wB;by_cases k2:(kd:Int)=7
 ·exact⟨_,by simp[k2];rfl⟩
 ·exact⟨b,by simp[k2]⟩
theorem aNo:∃b',wC (weE c most n kd t os ip sp (.sh (.int j)) (.sh (.int i)) (.sh (.bl b)))= .nx (weE c most n kd t os ip sp (.sh (.int j)) (.sh (.int i)) (.sh (.bl b'))):=by
 unfold wC;have hm:p8 (.int ((i:Int)+j)) (.int 2)= .ok (.int (((i:Int)+j)%2)):=mL (by decide);by_cases k2:(kd:Int)=8
 ·cases b with
  |true=>exact⟨_,by simp[k2,hm];rfl⟩
  |false=>exact⟨false,by simp[k2]⟩
 ·exact⟨b,by simp[k2]⟩
theorem aNn(hz:ip.length<16777216)(hi:i<os.length)(hj:j<os.length):∃ip',wD (weE c most n kd t os ip sp (.sh (.int j)) (.sh (.int i)) (.sh (.bl b)))= .nx (weE c most n kd t os ip' sp (.sh (.int j)) (.sh (.int i)) (.sh (.bl b)))/\(ip'=ip\/ip'=ip++[(i,j)]):=by
 unfold wD;cases b with
 |false=>exact⟨ip,by simp,.inl rfl⟩
 |true=>
  refine⟨ip++[(i,j)],?_,.inr rfl⟩;have e1:=aHw hi;have e2:=aHw hj;simp[pq,e1,e2,hz,ti,pD,mn,mx]
end
structure Tip(n j i:Nat)(ip:List (Nat×Nat)):Prop where
 nd:ip.Nodup
 ok:∀q∈ip,q.1<q.2/\q.2<n/\(q.2<j\/(q.2=j/\q.1<i))
theorem aGv{n kd j:Nat}{os:List Int}(hn:n<=60)(hj:j<n)(ho:aNj n os){sp:Int}(h0:0<=sp)(h1:sp<=2+60*j)(hip:Tip n j 0 ip):
  ∃ip' sp' s9' s10',forL (gnm 9) wIn (dB 0 (j:Int)) (weE c most n kd t os ip sp (.sh (.int j)) s9 s10)= .nx (weE c most n kd t os ip' sp' (.sh (.int j)) s9' s10')/\0<=sp'/\sp'<=2+60*(j+1)/\Tip n (j+1) 0 ip':=by
 have hlen:(dB 0 (j:Int)).length=j:=by rw[iy];lia
 obtain⟨ρ',e,ip',sp',s9',s10',rfl,q0,q1,q2⟩:=j8 (a:=gnm 9) (u:=wIn) (dB 0 (j:Int))
  (λ i ρ=>∃ip sp s9 s10,ρ=weE c most n kd t os ip sp (.sh (.int j)) s9 s10/\0<=sp/\sp<=2+60*j+i/\Tip n j i ip) (weE c most n kd t os ip sp (.sh (.int j)) s9 s10) ⟨ip,sp,s9,s10,rfl,h0,by lia,hip⟩ (by
   rintro i d ρ hd ⟨ip,sp,s9,s10,rfl,p0,p1,p2⟩;obtain⟨rfl,hlt⟩:=oG hd;have hij:i<j:=by lia
   obtain⟨h,eh,hh0,hh1⟩:=aCM (c:=c) (k:=sp+1) (b:=8) (by lia) (by lia) (by decide) (by decide);have hzl:=aLG hn p2.nd λ q hq=>by have:=p2.ok q hq;exact⟨by lia,by lia⟩
   have hi':i<os.length:=by rw[ho.len];lia
   have hj':j<os.length:=by rw[ho.len];lia
   obtain⟨b1,e1⟩:=aNq (c:=c) (most:=most) (n:=n) (kd:=kd) (t:=t) (os:=os) (ip:=ip) (sp:=sp+1) (i:=i) (j:=j) (b:=decide (h<t));obtain⟨b2,e2⟩:=aNp (c:=c) (most:=most) (n:=n) (kd:=kd) (t:=t) (os:=os) (ip:=ip) (sp:=sp+1) (i:=i) (j:=j) (b:=b1);obtain⟨b3,e3⟩:=aNo (c:=c) (most:=most) (n:=n) (kd:=kd) (t:=t) (os:=os) (ip:=ip) (sp:=sp+1) (i:=i) (j:=j) (b:=b2);obtain⟨ip2,e4,c2⟩:=aNn (c:=c) (most:=most) (n:=n) (kd:=kd) (t:=t) (os:=os) (ip:=ip) (sp:=sp+1) (i:=i) (j:=j) (b:=b3) (by lia) hi' hj';refine⟨_,?_,ip2,sp+1,.sh (.int i),.sh (.bl b3),rfl,by lia,by lia,?_⟩
   ·have s7:bY 7 (op2 aV (aB 7) (cD (.int 1))) (weE c most n kd t os ip sp (.sh (.int j)) (.sh (.int i)) s10)= .nx (weE c most n kd t os ip (sp+1) (.sh (.int j)) (.sh (.int i)) s10):=by first|rfl|simp
    have s11:bY 10 (op2 ltD (aO aY (aA (aB 0) (aA (aB 7) (aA (cD (.int 8)) aF)))) (ik 4)) (weE c most n kd t os ip (sp+1) (.sh (.int j)) (.sh (.int i)) s10)= .nx (weE c most n kd t os ip (sp+1) (.sh (.int j)) (.sh (.int i)) (.sh (.bl (decide (h<t))))):=by simp[eh]
    rw[Int.zero_add];show wIn (weE c most n kd t os ip sp (.sh (.int j)) (.sh (.int i)) s10)=_;unfold wIn;rw[aM,s7,ak,aM,s11,ak,aM,e1,ak,aM,e2,ak,aM,e3,ak,e4]
   ·have hold:∀q∈ip,q.1<q.2/\q.2<n/\(q.2<j\/(q.2=j/\q.1<i+1)):=λ q hq=>by
     obtain⟨a1,a2,a3⟩:=p2.ok q hq;exact⟨a1,a2,by lia⟩
    have n1:(i,j)∉ip:=λ hm=>by
     obtain⟨_,_,a4⟩:=p2.ok _ hm;simp only at a4;lia
    rcases c2 with rfl|rfl
    ·exact⟨p2.nd,hold⟩
    ·refine⟨List.nodup_append.mpr ⟨p2.nd,by simp,λ x hx y hy z=>?_⟩,λ q hq=>?_⟩
     ·rw[List.mem_singleton]at hy;subst hy;subst z;exact n1 hx
     ·rcases List.mem_append.mp hq with z|z
      ·exact hold q z
      ·rw[List.mem_singleton.mp z]
       exact⟨hij,hj,.inr ⟨rfl,by simp⟩⟩)
 rw[hlen]at q1 q2;refine⟨ip',sp',s9',s10',e,q0,by lia,q2.nd,λ q hq=>?_⟩;obtain⟨a1,a2,a3⟩:=q2.ok q hq;exact⟨a1,a2,.inl (by lia)⟩
theorem aFw{kd:Nat}(h:kd<9):∃t:Int,atD ([1,2,3,5,7,0,0,0,4].map D.int) (kd:Int)= .ok (.int t):=by
 have:=aHw (os:=[1,2,3,5,7,0,0,0,4]) (k:=kd) (by simpa using h)
 exact⟨_,this⟩
def aO4:List (Int×Int):=aEz.filter λ p=>decide (p.1<p.2)
theorem aIM:aO4.length=28:=by decide+kernel
theorem aEe{most:Nat}(h1:most<=8):∃n ps,ju [.int c,.int most]= .ok (owD n ps)/\Ow n ps/\(∀p∈ps,p.1<p.2)/\ps.length<=28/\n<=most:=by
 obtain⟨n,en,hn⟩:=jA (c:=c) (k:=0) (b:=(most:Int)+1) (by decide) (by decide) (by lia) (by lia);obtain⟨kd,ek,hk⟩:=jA (c:=c) (k:=1) (b:=9) (by decide) (by decide) (by decide) (by decide);have hn8:n<=8:=by lia
 obtain⟨t,et⟩:=aFw (kd:=kd) (by lia);obtain⟨os,eo,ho⟩:=aDT (c:=c) (n:=n) (by lia);have hr1:=gB (j:=(n:Int)) (by lia) (by lia);have hlen:(dB 0 (n:Int)).length=n:=by rw[iy];lia
 obtain⟨ρ',e,ip,sp,s8,s9,s10,rfl,_,_,hip⟩:=j8 (a:=gnm 8) (u:=aJX) (dB 0 (n:Int))
  (λ j ρ=>∃ip sp s8 s9 s10,ρ=weE c most n kd t os ip sp s8 s9 s10/\0<=sp/\sp<=2+60*j/\Tip n j 0 ip) (weE c most n kd t os [] 2 .no .no .no) ⟨[],2,.no,.no,.no,rfl,by lia,by lia,by simp,λ q hq=>by simp at hq⟩ (by
   rintro j d ρ hd ⟨ip,sp,s8,s9,s10,rfl,p0,p1,p2⟩;obtain⟨rfl,hlt⟩:=oG hd;have hr2:=gB (j:=(j:Int)) (by lia) (by lia);obtain⟨ip',sp',s9',s10',e,q0,q1,q2⟩:=aGv (c:=c) (most:=most) (t:=t) (n:=n) (kd:=kd) (j:=j) (os:=os) (by lia) (by lia) ho (s9:=s9) (s10:=s10) p0 p1 p2;refine⟨_,?_,ip',sp',.sh (.int j),s9',s10',rfl,q0,by lia,q2⟩;rw[Int.zero_add,pJ,kj,show(weE c most n kd t os ip sp s8 s9 s10).set 8 (.sh (.int j))=weE c most n kd t os ip sp (.sh (.int j)) s9 s10 from rfl];unfold aJX;have hi:(cX dm (aA (aB 8) aF)) (weE c most n kd t os ip sp (.sh (.int j)) s9 s10)= .ok (dB 0 (j:Int)):=by simp[hr2]
   rw[j7,hi,cI,e])
 rw[hlen]at hip;have gi:∀k l,k<n->l<n->os.getD k 0=os.getD l 0->k=l:=λ k l hk hl z=>by
  have k1:k<os.length:=by rw[ho.len];exact hk
  have k2:l<os.length:=by rw[ho.len];exact hl
  have:os[k]? =os[l]?:=by
   rw[List.getElem?_eq_getElem k1,List.getElem?_eq_getElem k2];simpa[k1,k2]using z
  exact(List.getElem?_inj k1 ho.nd).mp this
 have g:∀k,k<n->0<=os.getD k 0/\os.getD k 0<n:=λ k hk=>by
  have:k<os.length:=by rw[ho.len];exact hk
  exact ho.lo _ (by simp[this])
 have hin:∀p∈ip.map (ti os),0<=p.1/\p.1<p.2/\p.2<n:=λ p hp=>by
  obtain⟨q,hq,rfl⟩:=List.mem_map.mp hp;obtain⟨a1,a2,_⟩:=hip.ok q hq;have l1:=g q.1 (by lia);have l2:=g q.2 a2;have ne:os.getD q.1 0≠os.getD q.2 0:=λ z=>by have:=gi _ _ (by lia) a2 z;lia
  exact aKU l1.1 l1.2 l2.1 l2.2 ne
 have hnd:(ip.map (ti os)).Nodup:=rG hip.nd λ x hx y hy e=>by
  obtain⟨x1,x2,_⟩:=hip.ok x hx;obtain⟨y1,y2,_⟩:=hip.ok y hy;have e1:mn (os.getD x.1 0) (os.getD x.2 0)=mn (os.getD y.1 0) (os.getD y.2 0):=congrArg Prod.fst e;have e2:mx (os.getD x.1 0) (os.getD x.2 0)=mx (os.getD y.1 0) (os.getD y.2 0):=congrArg Prod.snd e;have key:=aKV e1 e2;rcases key with ⟨k1,k2⟩|⟨k1,k2⟩
  ·exact Prod.ext (gi _ _ (by lia) (by lia) k1) (gi _ _ x2 y2 k2)
  ·have:=gi _ _ (by lia) y2 k1
   have:=gi _ _ x2 (by lia) k2
   lia
 obtain⟨qs,s1,s2,s3⟩:=yu hnd λ p hp=>by
  obtain⟨a,b,c'⟩:=hin p hp;exact⟨a,by lia,by lia,by lia,by lia⟩
 have hl2:qs.length<=28:=by
  rw[s2.length_eq]
  have:=sub_len (l':=aO4) hnd λ p hp=>by
   obtain⟨a,b,c'⟩:=hin p hp;exact List.mem_filter.mpr ⟨aDn a (by lia) (by lia) (by lia) (by lia),decide_eq_true b⟩
  rwa [aIM]at this
 refine⟨n,qs,?_,⟨by lia,by lia,by lia,λ p hp=>by
  have:=hin p (s2.mem_iff.mp hp)
  exact⟨this.1,by lia,by lia,this.2.2,by lia⟩,s3⟩,λ p hp=>(hin p (s2.mem_iff.mp hp)).2.1,hl2,by lia⟩
 have st:bF 11 [.int c,.int most]=[.sh (.int c),.sh (.int most),.no,.no,.no,.no,.no,.no,.no,.no,.no]:=rfl;have et':atD [D.int 1,D.int 2,D.int 3,D.int 5,D.int 7,D.int 0,D.int 0,D.int 0,D.int 4] (kd:Int)= .ok (.int t):=et;have a1:bY 2 (aO aY (aA (aB 0) (aA (cD (.int 0)) (aA (op2 aV (aB 1) (cD (.int 1))) aF)))) [.sh (.int c),.sh (.int most),.no,.no,.no,.no,.no,.no,.no,.no,.no]= .nx [.sh (.int c),.sh (.int most),.sh (.int n),.no,.no,.no,.no,.no,.no,.no,.no]:=by simp[en]
 have a2:bY 3 (aO aY (aA (aB 0) (aA (cD (.int 1)) (aA (cD (.int 9)) aF)))) [.sh (.int c),.sh (.int most),.sh (.int n),.no,.no,.no,.no,.no,.no,.no,.no]= .nx [.sh (.int c),.sh (.int most),.sh (.int n),.sh (.int kd),.no,.no,.no,.no,.no,.no,.no]:=by simp[ek]
 have a3:jE 4 (op2 ixD (fD (aA (cD (.int 1)) (aA (cD (.int 2)) (aA (cD (.int 3)) (aA (cD (.int 5)) (aA (cD (.int 7)) (aA (cD (.int 0)) (aA (cD (.int 0)) (aA (cD (.int 0)) (aA (cD (.int 4)) aF)))))))))) (aB 3)) [.sh (.int c),.sh (.int most),.sh (.int n),.sh (.int kd),.no,.no,.no,.no,.no,.no,.no]= .nx [.sh (.int c),.sh (.int most),.sh (.int n),.sh (.int kd),.nw (.int t),.no,.no,.no,.no,.no,.no]:=by simp[et']
 have a4:bY 5 (aO jw (aA (aB 0) (aA (aB 2) aF))) [.sh (.int c),.sh (.int most),.sh (.int n),.sh (.int kd),.nw (.int t),.no,.no,.no,.no,.no,.no]= .nx [.sh (.int c),.sh (.int most),.sh (.int n),.sh (.int kd),.nw (.int t),.sh (.lst (os.map .int)),.no,.no,.no,.no,.no]:=by simp[eo]
 have a5:jX 6 (fD aF) [.sh (.int c),.sh (.int most),.sh (.int n),.sh (.int kd),.nw (.int t),.sh (.lst (os.map .int)),.no,.no,.no,.no,.no]= .nx [.sh (.int c),.sh (.int most),.sh (.int n),.sh (.int kd),.nw (.int t),.sh (.lst (os.map .int)),.ow (.lst []),.no,.no,.no,.no]:=by first|rfl|simp
 have a6:bY 7 (cD (.int 2)) [.sh (.int c),.sh (.int most),.sh (.int n),.sh (.int kd),.nw (.int t),.sh (.lst (os.map .int)),.ow (.lst []),.no,.no,.no,.no]= .nx (weE c most n kd t os [] 2 .no .no .no):=by first|rfl|simp
 have a7:iH (cX dm (aA (aB 2) aF)) (gnm 8) aJX (weE c most n kd t os [] 2 .no .no .no)= .nx (weE c most n kd t os ip sp s8 s9 s10):=by
  have hi:(cX dm (aA (aB 2) aF)) (weE c most n kd t os [] 2 .no .no .no)= .ok (dB 0 (n:Int)):=by simp[hr1]
  rw[j7,hi,cI];exact e
 have a8:opA gw (aA (jC 6) aF) (weE c most n kd t os ip sp s8 s9 s10)= .ok (.lst (qs.map pD)):=by
  have hv:(aA (jC 6) aF) (weE c most n kd t os ip sp s8 s9 s10)= .ok [.lst ((ip.map (ti os)).map pD)]:=by first|rfl|simp
  rw[fO,hv,aH,s1,bC]
 have a9:retS (aZ (aA (aP (aB 2)) (aA (opA dq (aA (opA gw (aA (jC 6) aF)) aF)) aF))) (weE c most n kd t os ip sp s8 s9 s10)= .rt (owD n qs):=by
  have ha:aA (opA gw (aA (jC 6) aF)) aF (weE c most n kd t os ip sp s8 s9 s10)= .ok [.lst (qs.map pD)]:=by rw[aX,a8,aH,bQ,aH]
  have hb:opA dq (aA (opA gw (aA (jC 6) aF)) aF) (weE c most n kd t os ip sp s8 s9 s10)= .ok (.tup (qs.map pD)):=by rw[fO,ha,aH,je,bC]
  have hc:aP (aB 2) (weE c most n kd t os ip sp s8 s9 s10)= .ok (.int n):=by first|rfl|simp
  rw[dg,nJ,aX,hc,aH,aX,hb,aH,bQ,aH,aH,aH,if_pos (by simp),cI];rfl
 simp only[ju,aDS,bG,st];rw[aM,a1,ak,aM,a2,ak,aM,a3,ak,aM,a4,ak,aM,a5,ak,aM,a6,ak,aM,a7,ak,a9]
def intOf:D->Int
 | .int i=>i
 |_=>0
def lrE:En->Rs D:=op2 ltD (op2 ixD (aB 1) (op2 qD (aB 0) (cD (.int 1)))) (op2 ixD (aB 1) (aB 0))
theorem za:iW=retS (opA (jt λ bs=>bs.all id) (aA (lcD (cX uc (aA (cD (.int 1)) (aA (opA bz (aA (aB 0) aF)) aF))) [none,some 0] (gnm 0) bV lrE) aF)):=rfl
theorem aCE(z:α){ps:List α}(hlt:∀a b,ltD (f a) (f b)= .ok (.bl (lt a b)))(hl:ps.length<=100000):gK [.tup (ps.map f)]= .ok (.bl (mJ lt ps)):=by
 have st:bF 1 [.tup (ps.map f)]=[.sh (.tup (ps.map f))]:=rfl;have hr:=aBm (i:=1) (j:=(ps.length:Int)) (by decide) (by decide) (by omega) (by omega);have hc:lcD (cX uc (aA (cD (.int 1)) (aA (opA bz (aA (aB 0) aF)) aF))) [none,some 0] (gnm 0) bV lrE [.sh (.tup (ps.map f))]= .ok (.lst ((dB 1 (ps.length:Int)).map λ k=>.bl (lt (ps.getD ((intOf k).toNat-1) z) (ps.getD (intOf k).toNat z)))):=by
  have hi:cX uc (aA (cD (.int 1)) (aA (opA bz (aA (aB 0) aF)) aF)) (shE [.sh (.tup (ps.map f))])= .ok (dB 1 (ps.length:Int)):=by simp[shE,rR,hr]
  have hm:=lF (ρ:=stE [none,some 0] (shE [.sh (.tup (ps.map f))])) (fg:=gnm 0) (fe:=lrE) (g:=λ k=>.bl (lt (ps.getD ((intOf k).toNat-1) z) (ps.getD (intOf k).toNat z))) (dB 1 (ps.length:Int)) λ d hd=>⟨_,rfl,by
   obtain⟨k,rfl,k0,k1⟩:=iC.mp hd;show lrE [.sh (.int k),.sh (.tup (ps.map f))]= .ok (.bl (lt (ps.getD (k.toNat-1) z) (ps.getD k.toNat z)));have l1:k.toNat-1<ps.length:=by omega
   have l2:k.toNat<ps.length:=by omega
   have e1:atD (ps.map f) (k-1)= .ok (f (ps.getD (k.toNat-1) z)):=by
    rw[show k-1=((k.toNat-1:Nat):Int)by omega];exact jB (by rw[List.getElem?_map,List.getElem?_eq_getElem l1,List.getD_eq_getElem?_getD,List.getElem?_eq_getElem l1];rfl)
   have e2:atD (ps.map f) k= .ok (f (ps.getD k.toNat z)):=by
    have:=jB (l:=ps.map f) (k:=k.toNat) (d:=f (ps.getD k.toNat z)) (by rw[List.getElem?_map,List.getElem?_eq_getElem l2,List.getD_eq_getElem?_getD,List.getElem?_eq_getElem l2];rfl)
    rwa [Int.toNat_of_nonneg (by omega)]at this
   unfold lrE;have v1:op2 ixD (aB 1) (op2 qD (aB 0) (cD (.int 1))) [.sh (.int k),.sh (.tup (ps.map f))]= .ok (f (ps.getD (k.toNat-1) z)):=by
    rw[b8,jz];show okD (atD (ps.map f) (k-1))=_;rw[e1];rfl
   have v2:op2 ixD (aB 1) (aB 0) [.sh (.int k),.sh (.tup (ps.map f))]= .ok (f (ps.getD k.toNat z)):=by
    rw[b8,jz,jz];show okD (atD (ps.map f) k)=_;rw[e2];rfl
   rw[b8,v1,aH,v2,aH,hlt,bC]⟩
  unfold lcD;rw[hi,aH,if_pos (by rw[iy,szl];omega),hm]
 have ha:opA (jt λ bs=>bs.all id) (aA (lcD (cX uc (aA (cD (.int 1)) (aA (opA bz (aA (aB 0) aF)) aF))) [none,some 0] (gnm 0) bV lrE) aF) [.sh (.tup (ps.map f))]= .ok (.bl (mJ lt ps)):=by
  rw[fO,aX,hc,aH,bQ,aH,aH,oX,bC];refine congrArg (λ b=>Rs.ok (D.bl b)) ?_;rw[Bool.eq_iff_iff,qT,List.all_eq_true];constructor
  ·intro h i p q e1 e2
   have k2:=(List.getElem?_eq_some_iff.mp e2).1
   have:=h (.int ((i+1:Nat):Int)) (iC.mpr ⟨_,rfl,by omega,by omega⟩)
   have z1:lt (ps.getD (((i+1:Nat):Int).toNat-1) z) (ps.getD ((i+1:Nat):Int).toNat z)=true:=this;rw[Int.toNat_natCast,Nat.add_sub_cancel,List.getD_eq_getElem?_getD,List.getD_eq_getElem?_getD,e1,e2]at z1;exact z1
  ·intro h d hd
   obtain⟨k,rfl,k0,k1⟩:=iC.mp hd;have l1:k.toNat-1<ps.length:=by omega
   have l2:k.toNat-1+1<ps.length:=by omega
   show lt (ps.getD (k.toNat-1) z) (ps.getD k.toNat z)=true;have l3:k.toNat<ps.length:=by omega
   have:=h (k.toNat-1) ps[k.toNat-1] ps[k.toNat] (List.getElem?_eq_getElem l1) (by rw[show k.toNat-1+1=k.toNat by omega];exact List.getElem?_eq_getElem l3)
   rw[List.getD_eq_getElem?_getD,List.getD_eq_getElem?_getD,List.getElem?_eq_getElem l1,List.getElem?_eq_getElem l3];exact this
 simp only[gK,za,bG,st];rw[dg,ha,cI]
theorem iD(h1:fi (shE ρ)= .ok ds)(h2:ds.length<16777216)(h3:lcL (stE js (shE ρ)) fg ft fe ds= .ok out):lcD fi js fg ft fe ρ= .ok (.lst out):=by
 unfold lcD;rw[h1,aH,if_pos (by rw[szl];exact h2),h3]
theorem uH{α:Type}{f g:α->D}(l:List α)(h:∀x∈l,∃ρ1,fg (f x) ρ= .ok ρ1/\fe ρ1= .ok (g x)):lcL ρ fg bV fe (l.map f)= .ok (l.map g):=by
 have:=lG (ρ:=ρ) (fg:=fg) (ft:=bV) (fe:=fe) (f:=f) (g:=g) (t:=λ _=>true) l λ x hx=>by
  obtain⟨ρ1,h1,h2⟩:=h x hx;exact⟨ρ1,h1,rfl,h2⟩
 rwa [List.filter_eq_self.mpr λ _ _=>rfl]at this
theorem aEy{α:Type}{f:α->Bool}{l:List α}(h:fe ρ= .ok (.lst (l.map λ x=>.bl (f x)))):opA (jt λ bs=>bs.all id) (aA fe aF) ρ= .ok (.bl (l.all f)):=by
 rw[fO,aX,h,aH,bQ,aH,aH,oX,bC]
theorem zq(neg:Bool)(y:Int)(ns:List Int):inR neg (.int y) (.tup (ns.map .int))= .ok (.bl (if neg then !decide (y∈ns)else decide (y∈ns))):=yZ neg y ns
theorem aCw:∀{ts:List D},ts.all (bu n)=true->(ts.map intOf).map D.int=ts
 |[],_=>rfl
 |t::ts,h=>by
  rw[List.all_cons,Bool.and_eq_true]at h;obtain⟨a,rfl,_⟩:=rE h.1;rw[List.map_cons,List.map_cons,aCw h.2];rfl
def eX(ll:List (List D))(p:Int×Int):List (List D):=ll.set p.1.toNat (ll.getD p.1.toNat []++[.int p.2])
theorem wU:∀(ps:List (Int×Int)) (ll:List (List D)),(ps.foldl eX ll).length=ll.length
 |[],_=>rfl
 |p::ps,ll=>by rw[List.foldl_cons,wU ps];unfold eX;rw[List.length_set]
def z9(ps:List (Int×Int))(i:Int):List Int:=(ps.filter λ p=>p.1==i).map (·.2)
theorem aBH:∀(ps:List (Int×Int)) (ll:List (List D)) (i:Nat),(∀p∈ps,0<=p.1/\p.1<ll.length)->i<ll.length->(ps.foldl eX ll).getD i []=ll.getD i []++(z9 ps i).map .int
 |[],ll,i,_,_=>by simp[z9]
 |p::ps,ll,i,h,hi=>by
  obtain⟨h0,h1⟩:=h p List.mem_cons_self;rw[List.foldl_cons,aBH ps (eX ll p) i (λ q hq=>by unfold eX;rw[List.length_set];exact h q (List.mem_cons_of_mem _ hq)) (by unfold eX;rw[List.length_set];exact hi)];unfold eX z9;by_cases c:p.1=i
  ·have hk:p.1.toNat=i:=by lia
   rw[hk,List.filter_cons_of_pos (by simpa using c)];simp[hi]
  ·have hk:p.1.toNat≠i:=by lia
   rw[List.filter_cons_of_neg (by simpa using c)];simp[List.getElem?_set_ne hk]
theorem aKY:b∈z9 ps a↔(a,b)∈ps:=by
 unfold z9;simp only[List.mem_map,List.mem_filter];constructor
 ·rintro⟨p,⟨h1,h2⟩,rfl⟩
  have:p.1=a:=by simpa using h2
  rw[<-this];exact h1
 ·intro h
  exact⟨(a,b),⟨h,by simp⟩,rfl⟩
def dbl(ps:List (Int×Int)):List (Int×Int):=ps.flatMap λ p=>[p,(p.2,p.1)]
theorem aBy:(a,b)∈dbl ps↔(a,b)∈ps\/(b,a)∈ps:=by
 unfold dbl;simp only[List.mem_flatMap,List.mem_cons,List.not_mem_nil,or_false];constructor
 ·rintro⟨p,hp,h|h⟩
  ·rw[h];exact .inl hp
  ·cases h;exact .inr hp
 ·rintro(h|h)
  ·exact⟨_,h,.inl rfl⟩
  ·exact⟨_,h,.inr rfl⟩
theorem aJA(p:Int×Int)(ps:List (Int×Int)):dbl (p::ps)=p::(p.2,p.1)::dbl ps:=rfl
theorem aFq(hi:ρ[i]? =some (.o2 ll))(hf:f ρ= .ok (.int a))(hg:g ρ= .ok (.int b))(h0:0<=a)(h1:a<ll.length)(hz:(ll.getD a.toNat []).length<16777216):
  oV i f g ρ= .nx (ρ.set i (.o2 (eX ll (a,b)))):=by
 have hk:a.toNat<ll.length:=by lia
 have ha:at2 ll (.int a)=some (a.toNat,ll.getD a.toNat []):=by
  have hx:ixN ll.length a=some a.toNat:=by
   unfold ixN;rw[if_pos (by lia),if_pos (by lia)]
  simp only[at2,hx,Option.bind_some];rw[List.getElem?_eq_getElem hk];simp[hk]
 unfold oV;rw[hi];dsimp only;rw[hf,cI,ha];dsimp only;rw[hg,cI,if_pos (by rw[sizeLine_eq];exact hz)];rfl
theorem yo(ll:List (List D))(p:Int×Int):(eX ll p).length=ll.length:=by unfold eX;rw[List.length_set]
theorem aFG(h:∀l∈ll,l.length<=m):∀l∈eX ll p,l.length<=m+1:=by
 intro l hl;unfold eX at hl;rcases List.mem_or_eq_of_mem_set hl with z|z
 ·exact Nat.le_succ_of_le (h l z)
 ·subst z
  rw[List.length_append,List.length_singleton]
  have:(ll.getD p.1.toNat []).length<=m:=by
   by_cases hk:p.1.toNat<ll.length
   ·exact h _ (by simp[hk])
   ·simp[List.getElem?_eq_none (Nat.le_of_not_lt hk)]
  lia
theorem aFl{ll:List (List D)}(h:∀l∈ll,l.length<=m)(k:Nat):(ll.getD k []).length<=m:=by
 by_cases hk:k<ll.length
 ·exact h _ (by simp[hk])
 ·simp[List.getElem?_eq_none (Nat.le_of_not_lt hk)]
def atB:En->Ou:=aQ (oV 3 (aB 4) (aP (aB 5))) (oV 3 (aB 5) (aP (aB 4)))
theorem aAn{w s1 s2:Slot}:∀(ps:List (Int×Int)) (ll:List (List D)) (s4 s5:Slot),(∀p∈ps,0<=p.1/\p.1<ll.length/\0<=p.2/\p.2<ll.length)->(∀l∈ll,l.length+2*ps.length<=10000)->
  ∃s4' s5',forL (lL 2 (cH (gnm 4) (cH (gnm 5) mU))) atB (ps.map pD) [w,s1,s2,.o2 ll,s4,s5]= .nx [w,s1,s2,.o2 ((dbl ps).foldl eX ll),s4',s5']
 |[],ll,s4,s5,_,_=>⟨s4,s5,rfl⟩
 |p::ps,ll,s4,s5,h,hl=>by
  obtain⟨a0,a1,b0,b1⟩:=h p List.mem_cons_self;have hb0:∀l∈ll,l.length<=10000-2*(ps.length+1):=λ l hm=>by
   have:=hl l hm
   rw[List.length_cons]at this;lia
  have hb1:=aFG (p:=p) hb0;have hb2:=aFG (p:=(p.2,p.1)) hb1;by_cases hne:ll=[]
  ·subst hne
   simp at a1;lia
  have hbig:2*(ps.length+1)<=10000:=by
   obtain⟨l,hm⟩:=List.exists_mem_of_ne_nil ll hne
   have:=hl l hm
   rw[List.length_cons]at this;lia
  obtain⟨s4',s5',e⟩:=aAn (w:=w) (s1:=s1) (s2:=s2) ps (eX (eX ll p) (p.2,p.1)) (.sh (.int p.1)) (.sh (.int p.2)) (λ q hq=>by rw[yo,yo];exact h q (List.mem_cons_of_mem _ hq)) (λ l hm=>by have:=hb2 l hm;lia);refine⟨s4',s5',?_⟩;rw[List.map_cons,lV,aJA,List.foldl_cons,List.foldl_cons];have hg:okE (lL 2 (cH (gnm 4) (cH (gnm 5) mU)) (pD p) [w,s1,s2,.o2 ll,s4,s5]) (λ ρ1=>(atB ρ1).tn (forL (lL 2 (cH (gnm 4) (cH (gnm 5) mU))) atB (ps.map pD)))=
    (atB [w,s1,s2,.o2 ll,.sh (.int p.1),.sh (.int p.2)]).tn (forL (lL 2 (cH (gnm 4) (cH (gnm 5) mU))) atB (ps.map pD)):=by
   simp[pD]
  have c1:oV 3 (aB 4) (aP (aB 5)) [w,s1,s2,.o2 ll,.sh (.int p.1),.sh (.int p.2)]= .nx [w,s1,s2,.o2 (eX ll p),.sh (.int p.1),.sh (.int p.2)]:=
   aFq (a:=p.1) (b:=p.2) rfl (by simp) (by simp) a0 a1 (by have:=aFl hb0 p.1.toNat;lia)
  have c2:oV 3 (aB 5) (aP (aB 4)) [w,s1,s2,.o2 (eX ll p),.sh (.int p.1),.sh (.int p.2)]= .nx [w,s1,s2,.o2 (eX (eX ll p) (p.2,p.1)),.sh (.int p.1),.sh (.int p.2)]:=
   aFq (a:=p.2) (b:=p.1) rfl (by simp) (by simp) b0 (by rw[yo];exact b1) (by have:=aFl hb1 p.2.toNat;lia)
  have hc:atB [w,s1,s2,.o2 ll,.sh (.int p.1),.sh (.int p.2)]= .nx [w,s1,s2,.o2 (eX (eX ll p) (p.2,p.1)),.sh (.int p.1),.sh (.int p.2)]:=by
   unfold atB;rw[aM,c1,ak,c2]
  rw[hg,hc,aHB];exact e
structure aJM(n:Int)(es:List (Int×Int))(ll:List (List D)):Prop where
 len:ll.length=n.toNat
 item:∀i:Int,0<=i->i<n->∃ws:List Int,atD (ll.map .lst) i= .ok (.lst (ws.map .int))/\∀b,b∈ws↔(i,b)∈es
theorem aDl(h:Ow n ps):∃ll,jy [owD n ps]= .ok (.lst (ll.map .lst))/\aJM n (dbl ps) ll:=by
 have hn0:=h.n0;have hn1:=h.n1;have hr:=gB (j:=n) (by lia) (by lia);have hlen:(dB 0 n).length=n.toNat:=by rw[iy];lia
 have hps:=h.len;have hin:∀p∈ps,0<=p.1/\p.1<(List.replicate n.toNat ([]:List D)).length/\0<=p.2/\p.2<(List.replicate n.toNat ([]:List D)).length:=λ p hp=>by
  obtain⟨a,b,c,d,_⟩:=h.pr p hp;rw[List.length_replicate];lia
 have hin2:∀p∈dbl ps,0<=p.1/\p.1<(List.replicate n.toNat ([]:List D)).length:=λ p hp=>by
  rcases aBy.mp (show(p.1,p.2)∈dbl ps from hp)with z|z
  ·have:=hin _ z;exact⟨this.1,this.2.1⟩
  ·have:=hin _ z;exact⟨this.2.2.1,this.2.2.2⟩
 obtain⟨s4,s5,e⟩:=aAn (w:=.sh (owD n ps)) (s1:=.sh (.int n)) (s2:=.sh (.tup (ps.map pD))) ps (List.replicate n.toNat []) .no .no hin (λ l hl=>by
  rw[(List.mem_replicate.mp hl).2];simp;lia)
 refine⟨(dbl ps).foldl eX (List.replicate n.toNat []),?_,by rw[wU,List.length_replicate],λ i h0 h1=>⟨z9 (dbl ps) i,?_,λ b=>aKY⟩⟩
 ·have hz:n.toNat<16777216:=by lia
  have a0:aDj (aB 0) (lL 2 (cH (gnm 1) (cH (gnm 2) mU))) [.sh (owD n ps),.no,.no,.no,.no,.no]= .nx [.sh (owD n ps),.sh (.int n),.sh (.tup (ps.map pD)),.no,.no,.no]:=by
   simp[owD]
  have a1:llS 3 (cX dm (aA (aB 1) aF)) [none] (gnm 0) [.sh (owD n ps),.sh (.int n),.sh (.tup (ps.map pD)),.no,.no,.no]= .nx [.sh (owD n ps),.sh (.int n),.sh (.tup (ps.map pD)),.o2 (List.replicate n.toNat []),.no,.no]:=by
   unfold llS;simp[shE,rR,hr,hlen,hz]
  have a2:iH (bh (aB 2)) (lL 2 (cH (gnm 4) (cH (gnm 5) mU))) atB [.sh (owD n ps),.sh (.int n),.sh (.tup (ps.map pD)),.o2 (List.replicate n.toNat []),.no,.no]= .nx [.sh (owD n ps),.sh (.int n),.sh (.tup (ps.map pD)),.o2 ((dbl ps).foldl eX (List.replicate n.toNat [])),s4,s5]:=by
   have hi:bh (aB 2) [.sh (owD n ps),.sh (.int n),.sh (.tup (ps.map pD)),.o2 (List.replicate n.toNat []),.no,.no]= .ok (ps.map pD):=by simp
   rw[j7,hi,cI];exact e
  have a3:retS (nW 3) [.sh (owD n ps),.sh (.int n),.sh (.tup (ps.map pD)),.o2 ((dbl ps).foldl eX (List.replicate n.toNat [])),s4,s5]= .rt (.lst (((dbl ps).foldl eX (List.replicate n.toNat [])).map .lst)):=by simp
  have st:bF 6 [owD n ps]=[.sh (owD n ps),.no,.no,.no,.no,.no]:=rfl;have df:jr=aQ (aDj (aB 0) (lL 2 (cH (gnm 1) (cH (gnm 2) mU)))) (aQ (llS 3 (cX dm (aA (aB 1) aF)) [none] (gnm 0)) (aQ (iH (bh (aB 2)) (lL 2 (cH (gnm 4) (cH (gnm 5) mU))) atB) (retS (nW 3)))):=rfl;simp only[jy,df,bG,st];rw[aM,a0,ak,aM,a1,ak,aM,a2,ak,a3]
 ·have hk:i.toNat<(List.replicate n.toNat ([]:List D)).length:=by rw[List.length_replicate];lia
  have hg:=aBH (dbl ps) (List.replicate n.toNat []) i.toNat hin2 hk;have hk2:i.toNat<((dbl ps).foldl eX (List.replicate n.toNat [])).length:=by rw[wU];exact hk
  have hi:((i.toNat:Nat):Int)=i:=Int.toNat_of_nonneg h0;rw[hi]at hg;rw[<-hi];refine jB ?_;rw[hi,List.getElem?_map,List.getElem?_eq_getElem hk2]
  have:((dbl ps).foldl eX (List.replicate n.toNat []))[i.toNat]=(z9 (dbl ps) i).map .int:=by
   have e1:((dbl ps).foldl eX (List.replicate n.toNat [])).getD i.toNat []=((dbl ps).foldl eX (List.replicate n.toNat []))[i.toNat]:=by simp[hk2]
   rw[<-e1,hg];have e2:(List.replicate n.toNat ([]:List D)).getD i.toNat []=[]:=by
    rw[List.getD_eq_getElem?_getD,List.getElem?_replicate];split<;>rfl
   rw[e2,List.nil_append]
  rw[this];rfl
def gH(ps:List (Int×Int)):List Int->Bool
 |a::b::r=>decide ((a,b)∈ps)&&gH ps (b::r)
 |_=>true
theorem oW:∀{ws:List Int},gH ps ws=true↔∀(i:Nat) (a b:Int),ws[i]? =some a->ws[i+1]? =some b->(a,b)∈ps
 |[]=>by simp[gH]
 |[x]=>by
  simp only[gH,true_iff];intro i p q _ h2;simp at h2
 |x::y::r=>by
  have ih:=oW (ps:=ps) (ws:=y::r);unfold gH;rw[Bool.and_eq_true,ih,decide_eq_true_eq];constructor
  ·rintro⟨h1,h2⟩ i p q e1 e2
   cases i with
   |zero=>simp at e1 e2;subst e1 e2;exact h1
   |succ i=>exact h2 i p q (by simpa using e1) (by simpa using e2)
  ·intro h
   exact⟨h 0 x y rfl rfl,λ i p q e1 e2=>h (i+1) p q (by simpa using e1) (by simpa using e2)⟩
def lD(n:Int)(ps:List (Int×Int)):D->Bool
 | .tup ts=>!ts.isEmpty&&ts.all (bu n)&&decide ((ddI (ts.map intOf)).length=ts.length)&&gH ps (ts.map intOf)
 |_=>false
theorem gD:∀{ts:List D},ts.all (bu n)=true->(ts.map intOf).map D.int=ts/\∀x∈ts.map intOf,0<=x/\x<n
 |[],_=>⟨rfl,λ x hx=>by simp at hx⟩
 |t::ts,h=>by
  rw[List.all_cons,Bool.and_eq_true]at h;obtain⟨i,rfl,h0,h1⟩:=rE h.1;obtain⟨e,q⟩:=gD h.2;refine⟨by simp only[List.map_cons];rw[e];rfl,λ x hx=>?_⟩;rw[List.map_cons]at hx;rcases List.mem_cons.mp hx with z|z
  ·subst z;exact⟨h0,h1⟩
  ·exact q x z
@[simp] theorem zA(h:ns.length<4000):qI [.tup (ns.map .int)]= .ok (.set (ddI ns)):=by
 unfold qI;dsimp only;rw[iG];dsimp only;rw[if_pos h]
@[simp] theorem lenX_set:uG [.set l]= .ok (.int l.length):=aU rfl
theorem xX{ws:List Int}(e:ws.map D.int=ts){k:Nat}(h:ws[k]? =some w):atD ts (k:Int)= .ok (.int w):=by
 subst e;exact jB (by rw[List.getElem?_map,h];rfl)
def uV:D->Bool
 | .tup l=>decide (l.length<4000)
 |_=>true
def aEr:En->Ou:=ifS (fC (tst (aO dW (aA (opA bz (aA (aB 0) aF)) (aA (aB 2) aF))))) (retS (cD (.bl false))) Ou.nx
def aEq:En->Ou:=ifS (tsb (op2 (inR true) (op2 ixD (aB 1) (aB 3)) (op2 ixD (aB 0) (op2 ixD (aB 1) (op2 qD (aB 3) (cD (.int 1))))))) (retS (cD (.bl false))) Ou.nx
theorem fV:iY=aQ (ifS (orT (fC (tst (op1 (fU "tuple") (aB 1)))) (tsb (op2 (eqR false) (opA bz (aA (aB 1) aF)) (cD (.int 0))))) (retS (cD (.bl false))) Ou.nx)
  (aQ (iH (bh (aB 1)) (gnm 2) aEr)
  (aQ (ifS (tsb (op2 (eqR true) (opA uG (aA (opA qI (aA (aB 1) aF)) aF)) (opA bz (aA (aB 1) aF)))) (retS (cD (.bl false))) Ou.nx)
  (aQ (iH (cX uc (aA (cD (.int 1)) (aA (opA bz (aA (aB 1) aF)) aF))) (gnm 3) aEq)
  (retS (cD (.bl true)))))):=rfl
theorem sr{ps:List (Int×Int)}(hn:0<=n)(N:aJM n ps ll)(hp:pln d=true)(hs:uV d=true):cN [.lst (ll.map .lst),d]= .ok (.bl (lD n ps d)):=by
 cases d with
 |tup ts=>
  have hp':eY ts=true:=by simpa[pln]using hp
  have hl:ts.length<4000:=by simpa[uV]using hs
  have st:bF 4 [.lst (ll.map .lst),.tup ts]=[.sh (.lst (ll.map .lst)),.sh (.tup ts),.no,.no]:=rfl;have hll:((ll.map D.lst).length:Int)=n:=by rw[List.length_map,N.len];lia
  cases ts with
  |nil=>
   simp only[cN,fV,bG,st];simp[lD]
  |cons t0 tr=>
   generalize hts:t0::tr=ts at*;have hne:ts≠[]:=by rw[<-hts];simp
   have b1:ifS (orT (fC (tst (op1 (fU "tuple") (aB 1)))) (tsb (op2 (eqR false) (opA bz (aA (aB 1) aF)) (cD (.int 0))))) (retS (cD (.bl false))) Ou.nx [.sh (.lst (ll.map .lst)),.sh (.tup ts),.no,.no]= .nx [.sh (.lst (ll.map .lst)),.sh (.tup ts),.no,.no]:=by
    simp[hne]
   have L:=lU (a:=gnm 2) (u:=aEr) (r:=.bl false) ts (λ i=>match ts[i]? with|some t=>bu n t|none=>true) (λ ρ=>∃s,ρ=[.sh (.lst (ll.map .lst)),.sh (.tup ts),s,.no]) [.sh (.lst (ll.map .lst)),.sh (.tup ts),.no,.no] ⟨_,rfl⟩ (by
    rintro i d ρ hd ⟨s,rfl⟩;have e:=qb (m:=n) (gC (fM hp' (List.mem_of_getElem? hd)));simp only[hd];have hc:(fC (tst (aO dW (aA (opA bz (aA (aB 0) aF)) (aA (aB 2) aF))))) [.sh (.lst (ll.map .lst)),.sh (.tup ts),.sh d,.no]= .ok (!bu n d):=by
     have hv:aA (opA bz (aA (aB 0) aF)) (aA (aB 2) aF) [.sh (.lst (ll.map .lst)),.sh (.tup ts),.sh d,.no]= .ok [.int n,d]:=by
      rw[<-hll];simp
     rw[lC,nZ,eF,hv,aH,e,aH,aB4,aH]
    have hg:okE (gnm 2 d [.sh (.lst (ll.map .lst)),.sh (.tup ts),s,.no]) aEr=aEr [.sh (.lst (ll.map .lst)),.sh (.tup ts),.sh d,.no]:=by rw[pJ,kj];rfl
    rw[hg];unfold aEr;rw[j6,hc,cI];cases c:bu n d with
    |true=>right;exact⟨_,rfl,⟨_,rfl⟩,rfl⟩
    |false=>left;exact⟨by simp,rfl⟩)
   have hfor:∀o,forL (gnm 2) aEr ts [.sh (.lst (ll.map .lst)),.sh (.tup ts),.no,.no]=o->iH (bh (aB 1)) (gnm 2) aEr [.sh (.lst (ll.map .lst)),.sh (.tup ts),.no,.no]=o:=λ o h=>by
    have hi:bh (aB 1) [.sh (.lst (ll.map .lst)),.sh (.tup ts),.no,.no]= .ok ts:=by simp
    rw[j7,hi,cI,h]
   rcases L with ⟨e,i,hi,o⟩|⟨ρ',e,⟨s,rfl⟩,o⟩
   ·have:ts.all (bu n)=false:=by
     rw[List.all_eq_false];rw[List.getElem?_eq_getElem hi]at o;exact⟨ts[i],List.getElem_mem hi,by simpa using o⟩
    simp only[cN,fV,bG,st];rw[aM,b1,ak,aM,hfor _ e];simp[lD,this]
   ·have hall:ts.all (bu n)=true:=by
     rw[List.all_eq_true];intro t ht;obtain⟨i,hi,rfl⟩:=List.getElem_of_mem ht
     have:=o i hi
     rw[List.getElem?_eq_getElem hi]at this;exact this
    obtain⟨ei,hin⟩:=gD hall;have hwl:(ts.map intOf).length=ts.length:=List.length_map _;have hset:qI [.tup ts]= .ok (.set (ddI (ts.map intOf))):=by
     have:=zA (ns:=ts.map intOf) (by lia)
     rwa [ei]at this
    by_cases hdd:(ddI (ts.map intOf)).length=ts.length
    ·have b3:ifS (tsb (op2 (eqR true) (opA uG (aA (opA qI (aA (aB 1) aF)) aF)) (opA bz (aA (aB 1) aF)))) (retS (cD (.bl false))) Ou.nx [.sh (.lst (ll.map .lst)),.sh (.tup ts),s,.no]= .nx [.sh (.lst (ll.map .lst)),.sh (.tup ts),s,.no]:=by
      simp[hset,hdd]
     have hr:=aBm (i:=1) (j:=(ts.length:Int)) (by decide) (by decide) (by lia) (by lia);have hlen:(dB 1 (ts.length:Int)).length=ts.length-1:=by rw[iy];lia
     have L2:=lU (a:=gnm 3) (u:=aEq) (r:=.bl false) (dB 1 (ts.length:Int)) (λ i=>match (ts.map intOf)[i]?,(ts.map intOf)[i+1]? with|some a,some b=>decide ((a,b)∈ps)|_,_=>true)
      (λ ρ=>∃s',ρ=[.sh (.lst (ll.map .lst)),.sh (.tup ts),s,s']) [.sh (.lst (ll.map .lst)),.sh (.tup ts),s,.no] ⟨_,rfl⟩ (by
       rintro i d ρ hd ⟨s',rfl⟩;obtain⟨rfl,h2⟩:=oG hd;have k1:i<(ts.map intOf).length:=by lia
       have k2:i+1<(ts.map intOf).length:=by lia
       have e1:(ts.map intOf)[i]? =some (ts.map intOf)[i]:=List.getElem?_eq_getElem k1;have e2:(ts.map intOf)[i+1]? =some (ts.map intOf)[i+1]:=List.getElem?_eq_getElem k2;have a1:atD ts (1+(i:Int)-1)= .ok (.int (ts.map intOf)[i]):=by
        rw[show(1+(i:Int)-1)=(i:Int)by lia];exact xX ei e1
       have a2:atD ts (1+(i:Int))= .ok (.int (ts.map intOf)[i+1]):=by
        rw[show(1+(i:Int))=((i+1:Nat):Int)by lia];exact xX ei e2
       have m1:=hin _ (List.getElem_mem k1);obtain⟨wa,a3,a4⟩:=N.item _ m1.1 m1.2;have hc:(tsb (op2 (inR true) (op2 ixD (aB 1) (aB 3)) (op2 ixD (aB 0) (op2 ixD (aB 1) (op2 qD (aB 3) (cD (.int 1))))))) [.sh (.lst (ll.map .lst)),.sh (.tup ts),s,.sh (.int (1+(i:Int)))]= .ok (!decide (((ts.map intOf)[i],(ts.map intOf)[i+1])∈ps)):=by
        simp[a1,a2,a3,yZ,a4,-List.getElem_map]
       have hg:okE (gnm 3 (.int (1+(i:Int))) [.sh (.lst (ll.map .lst)),.sh (.tup ts),s,s']) aEq=aEq [.sh (.lst (ll.map .lst)),.sh (.tup ts),s,.sh (.int (1+(i:Int)))]:=by rw[pJ,kj];rfl
       rw[hg];unfold aEq;rw[j6,hc,cI];simp only[e1,e2];cases c:decide (((ts.map intOf)[i],(ts.map intOf)[i+1])∈ps)with
       |true=>right;exact⟨_,rfl,⟨_,rfl⟩,rfl⟩
       |false=>left;exact⟨by simp,rfl⟩)
     have hfor2:∀o,forL (gnm 3) aEq (dB 1 (ts.length:Int)) [.sh (.lst (ll.map .lst)),.sh (.tup ts),s,.no]=o->iH (cX uc (aA (cD (.int 1)) (aA (opA bz (aA (aB 1) aF)) aF))) (gnm 3) aEq [.sh (.lst (ll.map .lst)),.sh (.tup ts),s,.no]=o:=λ o h=>by
      have hi:cX uc (aA (cD (.int 1)) (aA (opA bz (aA (aB 1) aF)) aF)) [.sh (.lst (ll.map .lst)),.sh (.tup ts),s,.no]= .ok (dB 1 (ts.length:Int)):=by simp[hr]
      rw[j7,hi,cI,h]
     rcases L2 with ⟨e2,i,hi,o2⟩|⟨ρ',e2,⟨s',rfl⟩,o2⟩
     ·have:gH ps (ts.map intOf)=false:=by
       cases c:gH ps (ts.map intOf)with
       |false=>rfl
       |true=>
        rw[hlen]at hi;have k1:i<(ts.map intOf).length:=by lia
        have k2:i+1<(ts.map intOf).length:=by lia
        have z:=oW.mp c i _ _ (List.getElem?_eq_getElem k1) (List.getElem?_eq_getElem k2);rw[List.getElem?_eq_getElem k1,List.getElem?_eq_getElem k2]at o2;simp only at o2;rw[decide_eq_true z]at o2;cases o2
      simp only[cN,fV,bG,st];rw[aM,b1,ak,aM,hfor _ e,ak,aM,b3,ak,aM,hfor2 _ e2];simp[lD,this]
     ·have:gH ps (ts.map intOf)=true:=oW.mpr λ i a b e1 e2'=>by
       have h2:=(List.getElem?_eq_some_iff.mp e2').1
       have:=o2 i (by rw[hlen];lia)
       rw[e1,e2']at this;simpa using this
      simp only[cN,fV,bG,st];rw[aM,b1,ak,aM,hfor _ e,ak,aM,b3,ak,aM,hfor2 _ e2,ak];simp[lD,this,hall,hdd,hne]
    ·have b3:ifS (tsb (op2 (eqR true) (opA uG (aA (opA qI (aA (aB 1) aF)) aF)) (opA bz (aA (aB 1) aF)))) (retS (cD (.bl false))) Ou.nx [.sh (.lst (ll.map .lst)),.sh (.tup ts),s,.no]= .rt (.bl false):=by
      have:¬((ddI (ts.map intOf)).length:Int)=(ts.length:Int):=by lia
      simp[hset,this]
     simp only[cN,fV,bG,st];rw[aM,b1,ak,aM,hfor _ e,ak,aM,b3];simp[lD,hdd]
 |_=>
  simp only[cN,fV,bG];simp[bF,fQ (gC hp),eE,lD]
def oH(n:Int)(ps:List (Int×Int)):D->Bool
 | .tup ts=>lD n ps (.tup ts)&&decide (1<ts.length)&&decide ((ts.map intOf).min?=(ts.map intOf).head?)&&decide (((ts.map intOf).getLastD 0,(ts.map intOf).headD 0)∈ps)
 |_=>false
theorem vR(e:ws.map D.int=ts)(hne:ws≠[]):atD ts (-1)= .ok (.int (ws.getLastD 0)):=by
 subst e;have hl:0<ws.length:=List.length_pos_iff.mpr hne;have hx:ixN (ws.map D.int).length (-1)=some (ws.length-1):=by
  unfold ixN;rw[List.length_map,if_neg (by lia),if_pos (by lia)];congr 1;lia
 have hg:(ws.map D.int)[ws.length-1]? =some (.int (ws.getLastD 0)):=by
  rw[List.getElem?_map]
  have:ws[ws.length-1]? =some (ws.getLastD 0):=by
   rw[List.getLastD_eq_getLast?,List.getLast?_eq_getElem?];cases c:ws[ws.length-1]? with
   |none=>exact absurd (List.getElem?_eq_none_iff.mp c) (by lia)
   |some x=>rfl
  rw[this];rfl
 unfold atD atI;rw[hx];simp only[Option.bind_some,hg]
theorem aDH{ws:List Int}(h:ws≠[]):∃m,ws.min?=some m:=by
 cases c:ws.min? with
 |none=>rw[List.min?_eq_none_iff]at c;exact absurd c h
 |some m=>exact⟨m,rfl⟩
theorem aBA{ws:List Int}(e:ws.map D.int=ts)(h:ws.min?=some m):iB List.min? [.tup ts]= .ok (.int m):=by
 subst e;unfold iB;dsimp only;rw[iG];dsimp only;rw[h]
theorem rH(h:lD n ps (.tup ts)=true):(ts.map intOf).map D.int=ts/\(∀x∈ts.map intOf,0<=x/\x<n)/\ts.map intOf≠[]:=by
 unfold lD at h;simp only[Bool.and_eq_true,Bool.not_eq_true']at h;obtain⟨e,hin⟩:=gD h.1.1.2;refine⟨e,hin,λ z=>?_⟩
 have:ts=[]:=by simpa using z
 rw[this]at h;simp at h
theorem aAf{n:Int}(hn:0<=n)(hno:∀a,(a,a)∉ps)(N:aJM n ps ll)(hp:pln d=true)(hs:uV d=true):ie [.lst (ll.map .lst),d]= .ok (.bl (oH n ps d)):=by
 have eg:=sr hn N hp hs;have st:bF 2 [.lst (ll.map .lst),d]=[.sh (.lst (ll.map .lst)),.sh d]:=rfl;have ec:aO cN (aA (aB 0) (aA (aB 1) aF)) [.sh (.lst (ll.map .lst)),.sh d]= .ok (.bl (lD n ps d)):=by simp[eg]
 cases hb:lD n ps d with
 |false=>
  have:oH n ps d=false:=by cases d<;>simp[oH,hb]
  rw[this];simp only[ie,gG,bG,st];rw[dg,iZ,ec,hb];simp
 |true=>
  cases d with
  |tup ts=>
   obtain⟨ei,hin,hne⟩:=rH hb;obtain⟨m,hm⟩:=aDH hne;have e0:atD ts 0= .ok (.int ((ts.map intOf).headD 0)):=by
    have:=xX ei (k:=0) (w:=(ts.map intOf).headD 0) (by
     cases c:ts.map intOf with
     |nil=>exact absurd c hne
     |cons a b=>rfl)
    exact this
   have el:=vR ei hne;have hlast:(ts.map intOf).getLastD 0∈ts.map intOf:=by
    cases c:ts.map intOf with
    |nil=>exact absurd c hne
    |cons a b=>rw[List.getLastD_cons];exact List.getLastD_mem_cons ..
   obtain⟨wa,en,ew⟩:=N.item _ (hin _ hlast).1 (hin _ hlast).2;have hh:(ts.map intOf).head?=some ((ts.map intOf).headD 0):=by
    cases c:ts.map intOf with
    |nil=>exact absurd c hne
    |cons a b=>rfl
   have hmin:decide ((ts.map intOf).min?=(ts.map intOf).head?)=((ts.map intOf).headD 0==m):=by
    rw[hm,hh,Bool.eq_iff_iff,decide_eq_true_eq,beq_iff_eq];exact⟨λ h=>(Option.some.inj h).symm,λ h=>by rw[h]⟩
   have hone:(decide (((ts.map intOf).getLastD 0,(ts.map intOf).headD 0)∈ps))=(decide (1<ts.length)&&decide (((ts.map intOf).getLastD 0,(ts.map intOf).headD 0)∈ps)):=by
    by_cases hl:1<ts.length
    ·simp[hl]
    ·rw[decide_eq_false hl,Bool.false_and,decide_eq_false_iff_not]
     intro hm;have hl1:(ts.map intOf).length=1:=by
      have:0<(ts.map intOf).length:=List.length_pos_iff.mpr hne
      rw[List.length_map]at this ⊢;lia
     match c:ts.map intOf,hl1 with
     |[a],_=>rw[c]at hm;exact hno a hm
   have er:oH n ps (.tup ts)=(((ts.map intOf).headD 0==m)&&decide (((ts.map intOf).getLastD 0,(ts.map intOf).headD 0)∈ps)):=by
    unfold oH;dsimp only;rw[hb,hmin,Bool.true_and]
    conv=>rhs;rw[hone]
    cases ((ts.map intOf).headD 0==m)<;>cases decide (1<ts.length)<;>simp
   rw[er];simp only[ie,gG,bG,st];rw[dg,iZ,ec,hb];have v1:op2 (eqR false) (op2 ixD (aB 1) (cD (.int 0))) (opA (iB List.min?) (aA (aB 1) aF)) [.sh (.lst (ll.map .lst)),.sh (.tup ts)]= .ok (.bl ((ts.map intOf).headD 0==m)):=by
    simp[e0,aBA ei hm]
   have v2:op2 (inR false) (op2 ixD (aB 1) (cD (.int 0))) (op2 ixD (aB 0) (op2 ixD (aB 1) (op1 gn (cD (.int 1))))) [.sh (.lst (ll.map .lst)),.sh (.tup ts)]= .ok (.bl (decide (((ts.map intOf).getLastD 0,(ts.map intOf).headD 0)∈ps))):=by
    simp only[b8,aEZ,jz,vO,aH,zT,bC,lH,yV,List.getElem?_cons_succ,List.getElem?_cons_zero];rw[e0,bC,aH,el,bC,aH,yV,en,bC,aH,yZ,bC];simp only[ew];rfl
   rw[aH,jc,if_pos rfl,iZ,v1,aH,jc,v2];cases ((ts.map intOf).headD 0==m)<;>simp
  |_=>simp[lD]at hb
def dX(n:Int)(es:List (Int×Int)):D->Bool
 | .tup ts=>oH n es (.tup ts)&&decide ((ts.map intOf).getD 1 0<(ts.map intOf).getLastD 0)
 |_=>false
theorem zJ(h:oH n es (.tup ts)=true):lD n es (.tup ts)=true/\1<ts.length:=by
 unfold oH at h;simp only[Bool.and_eq_true,decide_eq_true_eq]at h;exact⟨h.1.1.1,h.1.1.2⟩
theorem aJH{ws:List Int}(e:ws.map D.int=ts)(h:1<ws.length):atD ts 1= .ok (.int (ws.getD 1 0)):=by
 have:=xX e (k:=1) (w:=ws.getD 1 0) (by rw[List.getD_eq_getElem?_getD,List.getElem?_eq_getElem h];rfl)
 exact this
theorem aEi{es:List (Int×Int)}(hn:0<=n)(hno:∀a,(a,a)∉es)(N:aJM n es ll)(hp:pln d=true)(hs:uV d=true):gZ [.lst (ll.map .lst),d]= .ok (.bl (dX n es d)):=by
 have eg:=aAf hn hno N hp hs;have st:bF 2 [.lst (ll.map .lst),d]=[.sh (.lst (ll.map .lst)),.sh d]:=rfl;have ec:aO ie (aA (aB 0) (aA (aB 1) aF)) [.sh (.lst (ll.map .lst)),.sh d]= .ok (.bl (oH n es d)):=by simp[eg]
 simp only[gZ,lY,bG,st];rw[dg,iZ,ec];cases hb:oH n es d with
 |false=>
  have:dX n es d=false:=by cases d<;>simp[dX,hb]
  rw[this];simp
 |true=>
  cases d with
  |tup ts=>
   obtain⟨hl,h1⟩:=zJ hb;obtain⟨ei,hin,hne⟩:=rH hl;have e1:=aJH ei (by rw[List.length_map];exact h1);have el:=vR ei hne;have v:op2 ltD (op2 ixD (aB 1) (cD (.int 1))) (op2 ixD (aB 1) (op1 gn (cD (.int 1)))) [.sh (.lst (ll.map .lst)),.sh (.tup ts)]= .ok (.bl (decide ((ts.map intOf).getD 1 0<(ts.map intOf).getLastD 0))):=by
    simp only[b8,aEZ,jz,vO,aH,zT,bC,lH,List.getElem?_cons_succ,List.getElem?_cons_zero];rw[e1,bC,aH,el,bC,aH];simp
   have er:dX n es (.tup ts)=decide ((ts.map intOf).getD 1 0<(ts.map intOf).getLastD 0):=by
    unfold dX;dsimp only;rw[hb,Bool.true_and]
   rw[er,aH,jc,if_pos rfl,v];simp
  |_=>simp[oH]at hb
theorem aAW:∀{ws:List Int},ws≠[]->gH es (ws++[x])=(gH es ws&&decide ((ws.getLastD 0,x)∈es))
 |[],h=>absurd rfl h
 |[a],_=>by simp[gH]
 |a::b::r,_=>by
  have ih:=aAW (es:=es) (x:=x) (ws:=b::r) (by simp);have e:(a::b::r).getLastD 0=(b::r).getLastD 0:=by simp[List.getLastD_cons]
  rw[e]
  show(decide ((a,b)∈es)&&gH es ((b::r)++[x]))=((decide ((a,b)∈es)&&gH es (b::r))&&_)
  rw[ih,Bool.and_assoc]
theorem aGa(l:List D):cutD l none (some 1)=l.take 1:=by
 unfold cutD HT.sIx;simp
theorem aFo(low:∀p∈ps,p.1<p.2):(a,b)∈dbl ps↔(mn a b,mx a b)∈ps:=by
 rw[aBy];constructor
 ·rintro(h|h)
  ·have:=low _ h
   dsimp only at this;rw[mn,mx,if_neg (by lia),if_pos (by lia)];exact h
  ·have:=low _ h
   dsimp only at this;rw[mn,mx,if_pos (by lia),if_neg (by lia)];exact h
 ·intro h
  rcases aBw a b with ⟨p,q⟩|⟨p,q⟩<;>rw[p,q]at h
  ·exact .inl h
  ·exact .inr h
theorem aN7(low:∀p∈ps,p.1<p.2)(a:Int):(a,a)∉dbl ps:=λ h=>by
 rcases aBy.mp h with z|z<;>exact absurd (low _ z) (Int.lt_irrefl _)
theorem aD9(h:(ddI ws).length=ws.length):ws.Nodup:=by
 rw[List.nodup_iff_count];intro a;apply Classical.byContradiction;intro hc;have hc:1<ws.count a:=Nat.lt_of_not_le hc;have h1:(ddI ws).length<=(ws.erase a).length:=sub_len (rP ws) λ x hx=>by
  have hm:=(aF4 ws x).mp hx;by_cases e:x=a
  ·subst e
   rw[<-List.count_pos_iff,List.count_erase_self];lia
  ·exact(List.mem_erase_of_ne e).mpr hm
 have hm:a∈ws:=List.count_pos_iff.mp (by lia);rw[List.length_erase_of_mem hm]at h1
 have:0<ws.length:=List.length_pos_of_mem hm
 lia
def zW:En->Rs D:=iw (aO jT (aA (aB 0) aF)) (chD leD ltD (cD (.int 0)) (aB 0) (op2 ixD (aB 1) (cD (.int 0))))
def aIJ:En->Rs D:=op2 (inR false) (aZ (aA (opA (mmD λ i j=>if j<i then j else i) (aA (op2 ixD (aB 1) (aB 0)) (aA (op2 ixD (aB 1) (op2 aV (aB 0) (cD (.int 1)))) aF))) (aA (opA (mmD λ i j=>if j>i then j else i) (aA (op2 ixD (aB 1) (aB 0)) (aA (op2 ixD (aB 1) (op2 aV (aB 0) (cD (.int 1)))) aF))) aF))) (op2 ixD (aB 2) (cD (.int 1)))
def aGU:En->Ou:=ifS (orT (fC (tst (op1 (fU "tuple") (aB 1)))) (tsb (op2 ltD (opA bz (aA (aB 1) aF)) (cD (.int 3))))) (retS (cD (.bl false))) Ou.nx
def aGT:En->Ou:=ifS (orT (fC (tst (opA (jt λ bs=>bs.all id) (aA (lcD (bh (aB 1)) [none,some 0] (gnm 0) bV zW) aF)))) (tsb (op2 ltD (opA uG (aA (opA qI (aA (aB 1) aF)) aF)) (opA bz (aA (aB 1) aF))))) (retS (cD (.bl false))) Ou.nx
def aNB:En->Ou:=ifS (orT (tsb (op2 (eqR true) (opA (iB List.min?) (aA (aB 1) aF)) (op2 ixD (aB 1) (cD (.int 0))))) (tsb (op2 gtD (op2 ixD (aB 1) (cD (.int 1))) (op2 ixD (aB 1) (op1 gn (cD (.int 1))))))) (retS (cD (.bl false))) Ou.nx
def aMy:En->Ou:=bY 2 (op2 aV (aB 1) (bA (aB 1) bO (bK (cD (.int 1)))))
def aNC:En->Rs D:=opA (jt λ bs=>bs.all id) (aA (lcD (cX dm (aA (opA bz (aA (aB 1) aF)) aF)) [none,some 2,some 0] (gnm 0) bV aIJ) aF)
theorem ur:jg=aQ aGU (aQ aGT (aQ aNB (aQ aMy (retS aNC)))):=rfl
theorem aF6(h:knd d=true):zW [.sh d,.sh (owD n ps)]= .ok (.bl (bu n d)):=by
 have:=aCD h
 unfold zW;simp[owD,this];cases d<;>simp[yh,bu]
 rename_i i;by_cases h0:0<=i<;>simp[h0]
theorem aK2(hp':eY ts=true)(hl:ts.length<4000):aGT [.sh (owD n ps),.sh (.tup ts),.no]=if (ts.all (bu n)&&decide ((ddI (ts.map intOf)).length=ts.length))=true then .nx [.sh (owD n ps),.sh (.tup ts),.no]else .rt (.bl false):=by
 have hc1:lcD (bh (aB 1)) [none,some 0] (gnm 0) bV zW [.sh (owD n ps),.sh (.tup ts),.no]= .ok (.lst (ts.map λ t=>.bl (bu n t))):=by
  have hi:bh (aB 1) (shE [.sh (owD n ps),.sh (.tup ts),.no])= .ok ts:=by simp[shE,rR]
  have hm:=lF (ρ:=stE [none,some 0] (shE [.sh (owD n ps),.sh (.tup ts),.no])) (fg:=gnm 0) (fe:=zW) (g:=λ t=>.bl (bu n t)) ts λ d hd=>⟨_,rfl,by
   show zW [.sh d,.sh (owD n ps)]=_;exact aF6 (gC (fM hp' hd))⟩
  unfold lcD;rw[hi,aH,if_pos (by rw[szl];lia),hm]
 have ha1:opA (jt λ bs=>bs.all id) (aA (lcD (bh (aB 1)) [none,some 0] (gnm 0) bV zW) aF) [.sh (owD n ps),.sh (.tup ts),.no]= .ok (.bl (ts.all (bu n))):=by
  rw[fO,aX,hc1,aH,bQ,aH,aH,oX,bC]
 unfold aGT;cases hall:ts.all (bu n)with
 |false=>
  rw[j6,qW,lC,nZ,ha1,hall];simp
 |true=>
  obtain⟨ei,hin⟩:=gD hall;have hwl:(ts.map intOf).length=ts.length:=List.length_map _;have hset:qI [.tup ts]= .ok (.set (ddI (ts.map intOf))):=by
   have:=zA (ns:=ts.map intOf) (by lia)
   rwa [ei]at this
  have hle:=aIz (ts.map intOf);have hlt:tsb (op2 ltD (opA uG (aA (opA qI (aA (aB 1) aF)) aF)) (opA bz (aA (aB 1) aF))) [.sh (owD n ps),.sh (.tup ts),.no]= .ok (decide (((ddI (ts.map intOf)).length:Int)<ts.length)):=by simp[hset]
  rw[j6,qW,lC,nZ,ha1,hall,hlt];by_cases hdd:(ddI (ts.map intOf)).length=ts.length
  ·simp[hdd]
  ·have:((ddI (ts.map intOf)).length:Int)<ts.length:=by lia
   simp[hdd,this]
theorem aK3(low:∀p∈ps,p.1<p.2)(ei:(ts.map intOf).map D.int=ts)(hne:ts.map intOf≠[])(hl:ts.length<4000):
  aNC [.sh (owD n ps),.sh (.tup ts),.sh (.tup (ts++ts.take 1))]= .ok (.bl (gH (dbl ps) (ts.map intOf)&&decide (((ts.map intOf).getLastD 0,(ts.map intOf).headD 0)∈dbl ps))):=by
 generalize hws:ts.map intOf=ws at*;have hwl:ws.length=ts.length:=by rw[<-hws,List.length_map]
 obtain⟨x,xs,rfl⟩:∃x xs,ws=x::xs:=by
  cases ws with
  |nil=>exact absurd rfl hne
  |cons x xs=>exact⟨x,xs,rfl⟩
 have et:ts++ts.take 1=(x::xs++[x]).map D.int:=by rw[<-ei];simp
 rw[et,<-aAW hne,show(x::xs).headD 0=x from rfl];have hr:=gB (j:=(ts.length:Int)) (by lia) (by lia);have hc2:lcD (cX dm (aA (opA bz (aA (aB 1) aF)) aF)) [none,some 2,some 0] (gnm 0) bV aIJ [.sh (owD n ps),.sh (.tup ts),.sh (.tup ((x::xs++[x]).map D.int))]= .ok (.lst ((dB 0 (ts.length:Int)).map λ k=>.bl (decide (((x::xs++[x]).getD (intOf k).toNat 0,(x::xs++[x]).getD ((intOf k).toNat+1) 0)∈dbl ps)))):=by
  have hi:cX dm (aA (opA bz (aA (aB 1) aF)) aF) (shE [.sh (owD n ps),.sh (.tup ts),.sh (.tup ((x::xs++[x]).map D.int))])= .ok (dB 0 (ts.length:Int)):=by simp[shE,rR,hr]
  have hm:=lF (ρ:=stE [none,some 2,some 0] (shE [.sh (owD n ps),.sh (.tup ts),.sh (.tup ((x::xs++[x]).map D.int))])) (fg:=gnm 0) (fe:=aIJ) (g:=λ k=>.bl (decide (((x::xs++[x]).getD (intOf k).toNat 0,(x::xs++[x]).getD ((intOf k).toNat+1) 0)∈dbl ps))) (dB 0 (ts.length:Int)) λ d hd=>⟨_,rfl,by
   obtain⟨k,rfl,k0,k1⟩:=iC.mp hd;show aIJ [.sh (.int k),.sh (.tup ((x::xs++[x]).map D.int)),.sh (owD n ps)]=_;have hrl:(x::xs++[x]).length=ts.length+1:=by rw[<-hwl];simp
   have l1:k.toNat<(x::xs++[x]).length:=by lia
   have l2:k.toNat+1<(x::xs++[x]).length:=by lia
   generalize x::xs++[x]=rs at*;have e1:atD (rs.map D.int) k= .ok (.int (rs.getD k.toNat 0)):=by
    have:=xX (ts:=rs.map D.int) (ws:=rs) rfl (k:=k.toNat) (w:=rs.getD k.toNat 0) (by rw[List.getD_eq_getElem?_getD,List.getElem?_eq_getElem l1];rfl)
    rwa [Int.toNat_of_nonneg k0]at this
   have e2:atD (rs.map D.int) (k+1)= .ok (.int (rs.getD (k.toNat+1) 0)):=by
    have:=xX (ts:=rs.map D.int) (ws:=rs) rfl (k:=k.toNat+1) (w:=rs.getD (k.toNat+1) 0) (by rw[List.getD_eq_getElem?_getD,List.getElem?_eq_getElem l2];rfl)
    rwa [show((k.toNat+1:Nat):Int)=k+1 by lia]at this
   have v1:op2 ixD (aB 1) (aB 0) [.sh (.int k),.sh (.tup (rs.map D.int)),.sh (owD n ps)]= .ok (.int (rs.getD k.toNat 0)):=by
    rw[b8,jz,jz];show okD (atD (rs.map D.int) k)=_;rw[e1];rfl
   have v2:op2 ixD (aB 1) (op2 aV (aB 0) (cD (.int 1))) [.sh (.int k),.sh (.tup (rs.map D.int)),.sh (owD n ps)]= .ok (.int (rs.getD (k.toNat+1) 0)):=by
    rw[b8,jz];show okD (atD (rs.map D.int) (k+1))=_;rw[e2];rfl
   have hv:op2 ixD (aB 2) (cD (.int 1)) [.sh (.int k),.sh (.tup (rs.map D.int)),.sh (owD n ps)]= .ok (.tup (ps.map pD)):=by simp[owD]
   have ht:aZ (aA (opA (mmD λ i j=>if j<i then j else i) (aA (op2 ixD (aB 1) (aB 0)) (aA (op2 ixD (aB 1) (op2 aV (aB 0) (cD (.int 1)))) aF))) (aA (opA (mmD λ i j=>if j>i then j else i) (aA (op2 ixD (aB 1) (aB 0)) (aA (op2 ixD (aB 1) (op2 aV (aB 0) (cD (.int 1)))) aF))) aF)) [.sh (.int k),.sh (.tup (rs.map D.int)),.sh (owD n ps)]= .ok (pD (mn (rs.getD k.toNat 0) (rs.getD (k.toNat+1) 0),mx (rs.getD k.toNat 0) (rs.getD (k.toNat+1) 0))):=by
    have w1:∀f:Int->Int->Int,opA (mmD f) (aA (op2 ixD (aB 1) (aB 0)) (aA (op2 ixD (aB 1) (op2 aV (aB 0) (cD (.int 1)))) aF)) [.sh (.int k),.sh (.tup (rs.map D.int)),.sh (owD n ps)]= .ok (.int (f (rs.getD k.toNat 0) (rs.getD (k.toNat+1) 0))):=λ f=>by
     rw[fO,aX,v1,aH,aX,v2,aH,bQ,aH,aH,aH,aKW,bC]
    rw[nJ,aX,w1,aH,aX,w1,aH,bQ,aH,aH,aH,if_pos (by simp)];rfl
   unfold aIJ;rw[b8,ht,aH,hv,aH,zp,bC];refine congrArg (λ b=>Rs.ok (D.bl b)) ?_;rw[if_neg Bool.false_ne_true,Bool.eq_iff_iff,decide_eq_true_eq,decide_eq_true_eq];exact(aFo low).symm⟩
  unfold lcD;rw[hi,aH,if_pos (by rw[iy,szl];lia),hm]
 unfold aNC;rw[fO,aX,hc2,aH,bQ,aH,aH,oX,bC];refine congrArg (λ b=>Rs.ok (D.bl b)) ?_;have hrl:(x::xs++[x]).length=ts.length+1:=by rw[<-hwl];simp
 generalize x::xs++[x]=rs at*;rw[Bool.eq_iff_iff,oW,List.all_eq_true];constructor
 ·intro h i a b e1 e2
  have k2:=(List.getElem?_eq_some_iff.mp e2).1
  have:=h (.int (i:Int)) (iC.mpr ⟨i,rfl,by lia,by lia⟩)
  have z:=of_decide_eq_true this;have f1:rs.getD (intOf (.int (i:Int))).toNat 0=a:=by
   show rs.getD ((i:Int).toNat) 0=a;rw[Int.toNat_natCast,List.getD_eq_getElem?_getD,e1];rfl
  have f2:rs.getD ((intOf (.int (i:Int))).toNat+1) 0=b:=by
   show rs.getD ((i:Int).toNat+1) 0=b;rw[Int.toNat_natCast,List.getD_eq_getElem?_getD,e2];rfl
  rw[f1,f2]at z;exact z
 ·intro h d hd
  obtain⟨k,rfl,k0,k1⟩:=iC.mp hd;have l1:k.toNat<rs.length:=by lia
  have l2:k.toNat+1<rs.length:=by lia
  show decide ((rs.getD k.toNat 0,rs.getD (k.toNat+1) 0)∈dbl ps)=true;refine decide_eq_true ?_;exact h k.toNat _ _ (by rw[List.getD_eq_getElem?_getD,List.getElem?_eq_getElem l1];rfl) (by rw[List.getD_eq_getElem?_getD,List.getElem?_eq_getElem l2];rfl)
theorem aMu{ws:List Int}(h:ws.Nodup)(hl:3<=ws.length):ws.getD 1 0≠ws.getLastD 0:=by
 intro e;have h1:1<ws.length:=by lia
 have h2:ws.length-1<ws.length:=by lia
 have e1:ws[1]? =some (ws.getD 1 0):=by rw[List.getD_eq_getElem?_getD,List.getElem?_eq_getElem h1];rfl
 have e2:ws[ws.length-1]? =some (ws.getLastD 0):=by
  rw[List.getLastD_eq_getLast?,List.getLast?_eq_getElem?];cases c:ws[ws.length-1]? with
  |none=>exact absurd (List.getElem?_eq_none_iff.mp c) (by lia)
  |some x=>rfl
 have:=(List.getElem?_inj h1 h).mp (e1.trans (by rw[e,<-e2]))
 lia
theorem aGu(h:ts.length<3):dX n es (.tup ts)=false:=by
 cases hb:dX n es (.tup ts)with
 |false=>rfl
 |true=>
  unfold dX at hb;simp only[Bool.and_eq_true,decide_eq_true_eq]at hb;obtain⟨_,h1⟩:=zJ hb.1;have hl:(ts.map intOf).length=2:=by rw[List.length_map];lia
  match c:ts.map intOf,hl with
  |[a,b],_=>
   rw[c]at hb;exact absurd hb.2 (Int.lt_irrefl _)
section
variable{n:Int}{ps:List (Int×Int)}{ts:List D}
theorem aK1(ei:(ts.map intOf).map D.int=ts)(hm:(ts.map intOf).min?=some m)(hl:3<=ts.length):
  aNB [.sh (owD n ps),.sh (.tup ts),.no]=if (decide ((ts.map intOf).min?=(ts.map intOf).head?)&& !decide ((ts.map intOf).getLastD 0<(ts.map intOf).getD 1 0))=true then .nx [.sh (owD n ps),.sh (.tup ts),.no]else .rt (.bl false):=by
 have hwl:(ts.map intOf).length=ts.length:=List.length_map _;have hne:ts.map intOf≠[]:=λ z=>by rw[z]at hwl;simp at hwl;lia
 have e0:atD ts 0= .ok (.int ((ts.map intOf).headD 0)):=by
  have:=xX ei (k:=0) (w:=(ts.map intOf).headD 0) (by
   cases c:ts.map intOf with
   |nil=>exact absurd c hne
   |cons a b=>rfl)
  exact this
 have e1:=aJH ei (by lia);have el:=vR ei hne;have hh:(ts.map intOf).head?=some ((ts.map intOf).headD 0):=by
  cases c:ts.map intOf with
  |nil=>exact absurd c hne
  |cons a b=>rfl
 have hmin:decide ((ts.map intOf).min?=(ts.map intOf).head?)=decide (m=(ts.map intOf).headD 0):=by
  rw[hm,hh,Bool.eq_iff_iff];simp
 have v1:tsb (op2 (eqR true) (opA (iB List.min?) (aA (aB 1) aF)) (op2 ixD (aB 1) (cD (.int 0)))) [.sh (owD n ps),.sh (.tup ts),.no]= .ok (!decide (m=(ts.map intOf).headD 0)):=by
  simp[e0,aBA ei hm];rw[Bool.eq_iff_iff];simp
 have v2:tsb (op2 gtD (op2 ixD (aB 1) (cD (.int 1))) (op2 ixD (aB 1) (op1 gn (cD (.int 1))))) [.sh (owD n ps),.sh (.tup ts),.no]= .ok (decide ((ts.map intOf).getLastD 0<(ts.map intOf).getD 1 0)):=by
  have w1:op2 ixD (aB 1) (cD (.int 1)) [.sh (owD n ps),.sh (.tup ts),.no]= .ok (.int ((ts.map intOf).getD 1 0)):=by
   simp only[b8,jz,vO,aH,lH,List.getElem?_cons_succ,List.getElem?_cons_zero];rw[e1,bC]
  have w2:op2 ixD (aB 1) (op1 gn (cD (.int 1))) [.sh (owD n ps),.sh (.tup ts),.no]= .ok (.int ((ts.map intOf).getLastD 0)):=by
   simp only[b8,aEZ,jz,vO,aH,zT,bC,lH,List.getElem?_cons_succ,List.getElem?_cons_zero];rw[el,bC]
  rw[o6,b8,w1,aH,w2,aH];simp
 unfold aNB;rw[j6,qW,v1,v2,hmin];cases decide (m=(ts.map intOf).headD 0)<;>cases decide ((ts.map intOf).getLastD 0<(ts.map intOf).getD 1 0)<;>simp
theorem xG{d:D}(low:∀p∈ps,p.1<p.2)(hp:pln d=true)(hs:uV d=true):gJ [owD n ps,d]= .ok (.bl (dX n (dbl ps) d)):=by
 cases d with
 |tup ts=>
  have hp':eY ts=true:=by simpa[pln]using hp
  have hl:ts.length<4000:=by simpa[uV]using hs
  have st:bF 3 [owD n ps,.tup ts]=[.sh (owD n ps),.sh (.tup ts),.no]:=rfl;simp only[gJ,ur,bG,st];by_cases h3:ts.length<3
  ·have b1:aGU [.sh (owD n ps),.sh (.tup ts),.no]= .rt (.bl false):=by
    unfold aGU;simp;lia
   rw[aGu h3,aM,b1];rfl
  ·have b1:aGU [.sh (owD n ps),.sh (.tup ts),.no]= .nx [.sh (owD n ps),.sh (.tup ts),.no]:=by
    unfold aGU;simp;lia
   rw[aM,b1,ak,aM,aK2 hp' hl];by_cases hc:(ts.all (bu n)&&decide ((ddI (ts.map intOf)).length=ts.length))=true
   ·rw[if_pos hc,ak]
    simp only[Bool.and_eq_true,decide_eq_true_eq]at hc;obtain⟨hall,hdd⟩:=hc;obtain⟨ei,hin⟩:=gD hall;have hwl:(ts.map intOf).length=ts.length:=List.length_map _;have hne:ts.map intOf≠[]:=λ z=>by rw[z]at hwl;simp at hwl;lia
    have hne':ts≠[]:=λ z=>by rw[z]at h3;simp at h3
    obtain⟨m,hm⟩:=aDH hne;have hnd:(ts.map intOf).Nodup:=aD9 (by rw[hdd,hwl]);have hlt:(!decide ((ts.map intOf).getLastD 0<(ts.map intOf).getD 1 0))=decide ((ts.map intOf).getD 1 0<(ts.map intOf).getLastD 0):=by
     have:=aMu hnd (by lia)
     rw[Bool.eq_iff_iff];simp only[Bool.not_eq_true',decide_eq_false_iff_not,decide_eq_true_eq];lia
    have er:dX n (dbl ps) (.tup ts)=((decide ((ts.map intOf).min?=(ts.map intOf).head?)&& !decide ((ts.map intOf).getLastD 0<(ts.map intOf).getD 1 0))&&(gH (dbl ps) (ts.map intOf)&&decide (((ts.map intOf).getLastD 0,(ts.map intOf).headD 0)∈dbl ps))):=by
     rw[hlt];unfold dX oH lD;dsimp only;rw[hall,decide_eq_true hdd,decide_eq_true (show 1<ts.length by lia)]
     have:ts.isEmpty=false:=by cases ts with|nil=>exact absurd rfl hne'|cons _ _=>rfl
     rw[this];generalize decide ((ts.map intOf).min?=(ts.map intOf).head?)=b1;generalize decide ((ts.map intOf).getD 1 0<(ts.map intOf).getLastD 0)=b2;generalize gH (dbl ps) (ts.map intOf)=b3;generalize decide (((ts.map intOf).getLastD 0,(ts.map intOf).headD 0)∈dbl ps)=b4;cases b1<;>cases b2<;>cases b3<;>cases b4<;>rfl
    rw[er,aM,aK1 ei hm (by lia)];cases hq:(decide ((ts.map intOf).min?=(ts.map intOf).head?)&& !decide ((ts.map intOf).getLastD 0<(ts.map intOf).getD 1 0))with
    |false=>rfl
    |true=>
     have b4:aMy [.sh (owD n ps),.sh (.tup ts),.no]= .nx [.sh (owD n ps),.sh (.tup ts),.sh (.tup (ts++ts.take 1))]:=by
      unfold aMy;have hz:ts.length+min 1 ts.length<=16777216:=by lia
      simp[aGa,hz]
     rw[if_pos rfl,ak,aM,b4,ak,dg,aK3 low ei hne hl,Bool.true_and];rfl
   ·rw[if_neg hc]
    have:dX n (dbl ps) (.tup ts)=false:=by
     unfold dX oH lD;dsimp only;cases h1:ts.all (bu n)with
     |false=>simp
     |true=>
      rw[h1,Bool.true_and]at hc
      have:decide ((ddI (ts.map intOf)).length=ts.length)=false:=by simpa using hc
      rw[this];simp
    rw[this];rfl
 |_=>
  have st:∀d,bF 3 [owD n ps,d]=[.sh (owD n ps),.sh d,.no]:=λ _=>rfl
  simp only[gJ,ur,bG,st,aM];unfold aGU;simp[fQ (gC hp),eE,dX]
end
def rowOf:D->List Int
 | .tup ts=>ts.map intOf
 |_=>[]
theorem aCr(h:rws.length<=100000):dh [.tup (rws.map tupI)]= .ok (.bl (mJ HT.lexLt rws)):=q9 (f:=tupI) (λ a b=>aCA a b) h
theorem pU(h:rws.length<=100000):gK [.tup (rws.map tupI)]= .ok (.bl (mJ HT.lexLt rws)):=aCE (f:=tupI) [] (λ a b=>aCA a b) h
def aA7:D->Bool
 | .tup l=>decide (l.length<4000)&&l.all uV
 |_=>true
def ug(n:Int)(l:List Int):Bool:=eqD (.lst ((sortI l).map .int)) (.lst (dB 0 n))
theorem aAt(h:l.length<64):lw [.lst (l.map .int)]= .ok (.lst ((sortI l).map .int)):=by
 cases l with
 |nil=>rfl
 |cons i r=>
  have e:nY ((i::r).map D.int)=none:=rfl;unfold lw;dsimp only;rw[e];dsimp only;rw[iG];dsimp only;rw[if_pos h]
theorem aF1:eqR false (.lst ((sortI l).map .int)) (.lst (dB 0 n))= .ok (.bl (ug n l)):=by
 obtain⟨h1,h2⟩:=mz (sortI l);have h3:cP (dB 0 n)=true:=by rw[gW];exact(mz _).2
 unfold eqR ug;simp[bx,sO,h1,h2,h3]
theorem aIK(hf:f ρ= .ok (.int n))(h0:0<=n)(h1:n<=60):lrD f ρ= .ok (.lst (dB 0 n)):=by
 unfold lrD;rw[hf,aH];unfold lrR;simp;lia
theorem aIA(rws:List (List Int)):nsL [.no,.no] (gnm 0) bV (inL (bh (aB 0)) (gnm 1) bV (aP (aB 1))) (rws.map tupI)= .ok (rws.flatten.map .int):=by
 induction rws with
 |nil=>rfl
 |cons ns rws ih=>
  have hi:inL (bh (aB 0)) (gnm 1) bV (aP (aB 1)) [.sh (tupI ns),.no]= .ok (ns.map .int):=by
   have hm:=lF (ρ:=[.sh (tupI ns),.no]) (fg:=gnm 1) (fe:=aP (aB 1)) (g:=id) (ns.map .int) λ d hd=>⟨_,rfl,by
    obtain⟨i,_,rfl⟩:=List.mem_map.mp hd;simp⟩
   rw[List.map_id]at hm;unfold inL;rw[if_pos (by rfl)]
   have:bh (aB 0) [.sh (tupI ns),.no]= .ok (ns.map .int):=by simp[tupI]
   rw[this,aH,hm]
  rw[List.map_cons,List.flatten_cons,List.map_append]
  show((gnm 0 (tupI ns) [.no,.no]).bd λ ρ1=>(bV ρ1).bd λ k=>if k=true then(inL (bh (aB 0)) (gnm 1) bV (aP (aB 1)) ρ1).bd λ ys=>(nsL [.no,.no] (gnm 0) bV (inL (bh (aB 0)) (gnm 1) bV (aP (aB 1))) (rws.map tupI)).bd λ zs=>.ok (ys++zs)else _)=_
  have hg:gnm 0 (tupI ns) [.no,.no]= .ok [.sh (tupI ns),.no]:=rfl;have hy:bV [.sh (tupI ns),.no]= .ok true:=rfl;rw[hg,aH,hy,aH,if_pos rfl,hi,aH,ih,aH]
theorem aCL{rws:List (List Int)}(h0:0<=n)(h1:n<=60)(hl:rws.flatten.length<64):jU [.int n,.tup (rws.map tupI)]= .ok (.bl (ug n rws.flatten)):=by
 have st:bF 2 [.int n,.tup (rws.map tupI)]=[.sh (.int n),.sh (.tup (rws.map tupI))]:=rfl;have hc:aIQ (bh (aB 1)) [none,none] (gnm 0) bV (inL (bh (aB 0)) (gnm 1) bV (aP (aB 1))) [.sh (.int n),.sh (.tup (rws.map tupI))]= .ok (.lst (rws.flatten.map .int)):=by
  have hi:bh (aB 1) (shE [.sh (.int n),.sh (.tup (rws.map tupI))])= .ok (rws.map tupI):=by simp[shE,rR]
  have hns:nsL (stE [none,none] (shE [.sh (.int n),.sh (.tup (rws.map tupI))])) (gnm 0) bV (inL (bh (aB 0)) (gnm 1) bV (aP (aB 1))) (rws.map tupI)= .ok (rws.flatten.map .int):=aIA rws;unfold aIQ;rw[hi,aH,hns];dsimp only;rw[if_pos (by rw[List.length_map,sizeLine_eq];lia)]
 have hr:lrD (aB 0) [.sh (.int n),.sh (.tup (rws.map tupI))]= .ok (.lst (dB 0 n)):=aIK (by simp) h0 h1;simp only[jU,jQ,bG,st];rw[dg,b8,fO,aX,hc,aH,bQ,aH,aH,aAt hl,bC,aH,hr,aH,aF1];rfl
theorem aDm{rws:List (List Int)}(h0:0<=n)(h1:n<=60)(hl:rws.flatten.length<64):iM [.tup (rws.map tupI),.int n]= .ok (.bl (ug n rws.flatten)):=by
 have st:bF 4 [.tup (rws.map tupI),.int n]=[.sh (.tup (rws.map tupI)),.sh (.int n),.no,.no]:=rfl;have L:∀(rs:List (List Int)) (acc:List Int) (s:Slot),acc.length+rs.flatten.length<64->∃s',forL (gnm 3) (aAg 2 (aP (aB 3))) (rs.map tupI) [.sh (.tup (rws.map tupI)),.sh (.int n),.ow (.lst (acc.map .int)),s]= .nx [.sh (.tup (rws.map tupI)),.sh (.int n),.ow (.lst ((acc++rs.flatten).map .int)),s']:=by
  intro rs;induction rs with
  |nil=>intro acc s _;exact⟨s,by rw[List.flatten_nil,List.append_nil];rfl⟩
  |cons ns rs ih=>
   intro acc s hz;rw[List.flatten_cons,List.length_append]at hz;obtain⟨s',e⟩:=ih (acc++ns) (.sh (tupI ns)) (by rw[List.length_append];lia);refine⟨s',?_⟩;rw[List.map_cons,lV,List.flatten_cons,<-List.append_assoc];have hg:okE (gnm 3 (tupI ns) [.sh (.tup (rws.map tupI)),.sh (.int n),.ow (.lst (acc.map .int)),s]) (λ ρ1=>(aAg 2 (aP (aB 3)) ρ1).tn (forL (gnm 3) (aAg 2 (aP (aB 3))) (rs.map tupI)))=
     (aAg 2 (aP (aB 3)) [.sh (.tup (rws.map tupI)),.sh (.int n),.ow (.lst (acc.map .int)),.sh (tupI ns)]).tn (forL (gnm 3) (aAg 2 (aP (aB 3))) (rs.map tupI)):=by
    rw[pJ,kj];rfl
   have hv:aP (aB 3) [.sh (.tup (rws.map tupI)),.sh (.int n),.ow (.lst (acc.map .int)),.sh (tupI ns)]= .ok (tupI ns):=by
    have:imm (tupI ns)=true:=by
     have:∀l:List Int,lJ (l.map .int)=true:=λ l=>by
      induction l with
      |nil=>rfl
      |cons a l ih=>simp[lJ,imm,ih]
     simp[tupI,imm,this]
    simp[kO,this]
   have hx:aAg 2 (aP (aB 3)) [.sh (.tup (rws.map tupI)),.sh (.int n),.ow (.lst (acc.map .int)),.sh (tupI ns)]= .nx [.sh (.tup (rws.map tupI)),.sh (.int n),.ow (.lst ((acc++ns).map .int)),.sh (tupI ns)]:=by
    unfold aAg;dsimp only[List.getElem?_cons_succ,List.getElem?_cons_zero];rw[hv,cI];unfold aN1 tupI;dsimp only;rw[if_pos (by rw[List.length_map,List.length_map,sizeLine_eq];lia),List.map_append];rfl
   rw[hg,hx,aHB];exact e
 obtain⟨s',e⟩:=L rws [] .no (by simpa using hl);have e0:jX 2 (fD aF) [.sh (.tup (rws.map tupI)),.sh (.int n),.no,.no]= .nx [.sh (.tup (rws.map tupI)),.sh (.int n),.ow (.lst (([]:List Int).map .int)),.no]:=by simp
 have hi:bh (aB 0) [.sh (.tup (rws.map tupI)),.sh (.int n),.ow (.lst (([]:List Int).map .int)),.no]= .ok (rws.map tupI):=by simp
 have hv:jC 2 [.sh (.tup (rws.map tupI)),.sh (.int n),.ow (.lst ((([]:List Int)++rws.flatten).map .int)),s']= .ok (.lst (rws.flatten.map .int)):=rfl;have hr:lrD (aB 1) [.sh (.tup (rws.map tupI)),.sh (.int n),.ow (.lst ((([]:List Int)++rws.flatten).map .int)),s']= .ok (.lst (dB 0 n)):=aIK (by simp) h0 h1;simp only[iM,fZ,bG,st];rw[aM,e0,ak,aM,j7,hi,cI,e,ak,dg,b8,fO,aX,hv,aH,bQ,aH,aH,aAt hl,bC,aH,hr,aH,aF1];rfl
theorem aBP:∀(a b:List Int),pL (a.map .int) (b.map .int)=decide (a=b)
 |[],[]=>rfl
 |[],y::b=>by simp[pL]
 |x::a,[]=>by simp[pL]
 |x::a,y::b=>by
  have:=aBP a b
  simp only[List.map_cons,pL,eqD,this,List.cons.injEq];by_cases h:x=y<;>simp[h]
theorem aIr(a b:List Int):eqR false (tupI a) (tupI b)= .ok (.bl (decide (a=b))):=by
 obtain⟨h1,h2⟩:=mz a;obtain⟨h3,h4⟩:=mz b;unfold eqR;simp[tupI,bx,sO,h1,h2,h3,h4,eqD,aBP]
theorem aF8:∀a:List Int,HT.lexLt a a=false
 |[]=>rfl
 |x::a=>by rw[HT.jL,if_pos rfl,aF8 a]
def wrB(ws:List Int):Bool:=!HT.lexLt ws.reverse ws
def gwB(n:Int)(es:List (Int×Int)):D->Bool
 | .tup ts=>lD n es (.tup ts)&&wrB (ts.map intOf)
 |_=>false
theorem aGY(ws:List Int):iJ [tupI ws]= .ok (tupI (if HT.lexLt ws.reverse ws=true then ws.reverse else ws)):=by
 have st:bF 1 [tupI ws]=[.sh (tupI ws)]:=rfl;have hm:xF [tupI ws,.tup (ws.map D.int).reverse]= .ok (tupI (if HT.lexLt ws.reverse ws=true then ws.reverse else ws)):=by
  rw[<-List.map_reverse];unfold xF tupI;dsimp only;rw[iG,iG];dsimp only;split<;>rfl
 simp only[iJ,fW,bG,st];rw[dg,fO];have hv:aA (aB 0) (aA (op1 uB (aB 0)) aF) [.sh (tupI ws)]= .ok [tupI ws,.tup (ws.map D.int).reverse]:=by simp[tupI]
 rw[hv,aH,hm];rfl
theorem yI{es:List (Int×Int)}(hn:0<=n)(N:aJM n es ll)(hp:pln d=true)(hs:uV d=true):cJ [.lst (ll.map .lst),d]= .ok (.bl (gwB n es d)):=by
 have e:=sr hn N hp hs;have st:bF 2 [.lst (ll.map .lst),d]=[.sh (.lst (ll.map .lst)),.sh d]:=rfl;have v:aO cN (aA (aB 0) (aA (aB 1) aF)) [.sh (.lst (ll.map .lst)),.sh d]= .ok (.bl (lD n es d)):=by simp[e]
 simp only[cJ,fj,bG,st];rw[dg,iZ,v,aH,jc];cases hb:lD n es d with
 |false=>
  have:gwB n es d=false:=by cases d<;>simp[gwB,hb]
  rw[this];simp
 |true=>
  cases d with
  |tup ts=>
   have ei:=(rH hb).1;have et:(D.tup ts)=tupI (ts.map intOf):=by unfold tupI;rw[ei]
   have er:gwB n es (.tup ts)=wrB (ts.map intOf):=by unfold gwB;dsimp only;rw[hb,Bool.true_and]
   rw[er,if_pos rfl,et];generalize ts.map intOf=ws;have l:=aGY ws;have v2:aO iJ (aA (aB 1) aF) [.sh (.lst (ll.map .lst)),.sh (tupI ws)]= .ok (tupI (if HT.lexLt ws.reverse ws=true then ws.reverse else ws)):=by simp[l]
   have v1:aB 1 [.sh (.lst (ll.map .lst)),.sh (tupI ws)]= .ok (tupI ws):=rfl;have hb:decide (ws=if HT.lexLt ws.reverse ws=true then ws.reverse else ws)=wrB ws:=by
    unfold wrB;cases h:HT.lexLt ws.reverse ws with
    |false=>simp
    |true=>
     rw[if_pos rfl];refine decide_eq_false λ z=>?_
     rw[<-z,aF8]at h;cases h
   rw[b8,v1,aH,v2,aH,aIr,bC,hb];rfl
  |_=>simp[lD]at hb
def goG(B:D->Bool):D->Bool
 | .tup rs=>rs.all B&&mJ HT.lexLt (rs.map rowOf)
 |_=>false
def agL:En->Ou:=ifS (fC (tst (tB [("goes_written",cJ),("is_wide",gZ)] 2 (aA (aB 0) (aA (aB 3) aF))))) (retS (cD (.bl false))) Ou.nx
theorem aAY:oR=aQ (ifS (fC (tst (op1 (fU "tuple") (aB 1)))) (retS (cD (.bl false))) Ou.nx) (aQ (iH (bh (aB 1)) (gnm 3) agL) (retS (aO dh (aA (aB 1) aF)))):=rfl
theorem aLD:tB [("goes_written",cJ),("is_wide",gZ)] 2 ga [a,b,.sh (.fn "goes_written"),c]=aO cJ ga [a,b,.sh (.fn "goes_written"),c]:=by
 unfold tB
 have:aB 2 [a,b,.sh (.fn "goes_written"),c]= .ok (.fn "goes_written"):=rfl
 rw[this];simp only[fnOf,List.lookup,beq_self_eq_true]
theorem aLE:tB [("goes_written",cJ),("is_wide",gZ)] 2 ga [a,b,.sh (.fn "is_wide"),c]=aO gZ ga [a,b,.sh (.fn "is_wide"),c]:=by
 unfold tB
 have:aB 2 [a,b,.sh (.fn "is_wide"),c]= .ok (.fn "is_wide"):=rfl
 have ne:(("is_wide":Str)=="goes_written")=false:=by decide+kernel
 rw[this];simp only[fnOf,List.lookup,beq_self_eq_true,ne]
theorem qQ{B:D->Bool}(hr:∀d,B d=true->tupI (rowOf d)=d){rs:List D}(h:rs.all B=true):(rs.map rowOf).map tupI=rs:=by
 rw[List.map_map]
 conv=>rhs;rw[<-List.map_id rs]
 refine List.map_congr_left λ d hd=>hr d (List.all_eq_true.mp h d hd)
abbrev agE(ll:List (List D))(d:D)(fn:Str)(s:Slot):En:=[.sh (.lst (ll.map .lst)),.sh d,.sh (.fn fn),s]
theorem aAX{ll:List (List D)}{B:D->Bool}{F:List D->Rs D}{fn:Str}(hv:∀ga a b c,tB [("goes_written",cJ),("is_wide",gZ)] 2 ga [a,b,.sh (.fn fn),c]=aO F ga [a,b,.sh (.fn fn),c])
  (hF:∀d,pln d=true->uV d=true->F [.lst (ll.map .lst),d]= .ok (.bl (B d)))(hr:∀d,B d=true->tupI (rowOf d)=d)(hp:pln d=true)(hs:aA7 d=true):nD [.lst (ll.map .lst),d,.fn fn]= .ok (.bl (goG B d)):=by
 cases d with
 |tup rs=>
  have hp':eY rs=true:=by simpa[pln]using hp
  simp only[aA7,Bool.and_eq_true,decide_eq_true_eq]at hs;obtain⟨hl,hs⟩:=hs;have st:bF 4 [.lst (ll.map .lst),.tup rs,.fn fn]=agE ll (.tup rs) fn .no:=rfl;have b1:ifS (fC (tst (op1 (fU "tuple") (aB 1)))) (retS (cD (.bl false))) Ou.nx (agE ll (.tup rs) fn .no)= .nx (agE ll (.tup rs) fn .no):=by simp
  have L:=lU (a:=gnm 3) (u:=agL) (r:=.bl false) rs (λ i=>match rs[i]? with|some t=>B t|none=>true) (λ ρ=>∃s,ρ=agE ll (.tup rs) fn s) (agE ll (.tup rs) fn .no) ⟨_,rfl⟩ (by
   rintro i d ρ hd ⟨s,rfl⟩;have hm:=List.mem_of_getElem? hd;have e:=hF d (fM hp' hm) (List.all_eq_true.mp hs d hm);simp only[hd];have hc:(fC (tst (tB [("goes_written",cJ),("is_wide",gZ)] 2 (aA (aB 0) (aA (aB 3) aF))))) (agE ll (.tup rs) fn (.sh d))= .ok (!B d):=by
    have hv':aA (aB 0) (aA (aB 3) aF) (agE ll (.tup rs) fn (.sh d))= .ok [.lst (ll.map .lst),d]:=by simp
    rw[lC,nZ,hv,eF,hv',aH,e,aH,aB4,aH]
   have hg:okE (gnm 3 d (agE ll (.tup rs) fn s)) agL=agL (agE ll (.tup rs) fn (.sh d)):=by rw[pJ,kj];rfl
   rw[hg];unfold agL;rw[j6,hc,cI];cases c:B d with
   |true=>right;exact⟨_,rfl,⟨_,rfl⟩,rfl⟩
   |false=>left;exact⟨by simp,rfl⟩)
  have hfor:∀o,forL (gnm 3) agL rs (agE ll (.tup rs) fn .no)=o->iH (bh (aB 1)) (gnm 3) agL (agE ll (.tup rs) fn .no)=o:=λ o h=>by
   have hi:bh (aB 1) (agE ll (.tup rs) fn .no)= .ok rs:=by simp
   rw[j7,hi,cI,h]
  simp only[nD,aAY,bG,st];rw[aM,b1,ak,aM];rcases L with ⟨e,i,hi,o⟩|⟨ρ',e,⟨s,rfl⟩,o⟩
  ·have:rs.all B=false:=by
    rw[List.all_eq_false];rw[List.getElem?_eq_getElem hi]at o;exact⟨rs[i],List.getElem_mem hi,by simpa using o⟩
   rw[hfor _ e];simp[goG,this]
  ·have hall:rs.all B=true:=by
    rw[List.all_eq_true];intro t ht;obtain⟨i,hi,rfl⟩:=List.getElem_of_mem ht
    have:=o i hi
    rw[List.getElem?_eq_getElem hi]at this;exact this
   have er:=aCr (rws:=rs.map rowOf) (by rw[List.length_map];lia);rw[qQ hr hall]at er;rw[hfor _ e,ak];simp[er,goG,hall]
 |_=>
  have st:∀d,bF 4 [.lst (ll.map .lst),d,.fn fn]=agE ll d fn .no:=λ _=>rfl
  simp only[nD,aAY,bG,st];simp[fQ (gC hp),eE,goG]
theorem aFb(h:lD n es (.tup ts)=true):tupI (rowOf (.tup ts))= .tup ts:=by
 show D.tup ((ts.map intOf).map .int)=D.tup ts;rw[(rH h).1]
theorem aEo(h:gwB n es d=true):tupI (rowOf d)=d:=by
 cases d with
 |tup ts=>
  unfold gwB at h;simp only[Bool.and_eq_true]at h;exact aFb h.1
 |_=>simp[gwB]at h
theorem yg(h:dX n es d=true):tupI (rowOf d)=d:=by
 cases d with
 |tup ts=>
  unfold dX at h;simp only[Bool.and_eq_true]at h;exact aFb (zJ h.1).1
 |_=>simp[dX]at h
structure Wb(n:Int)(ps:List (Int×Int)):Prop where
 ow:Ow n ps
 low:∀p∈ps,p.1<p.2
theorem aCO(h:Wb n ps):jV [owD n ps]= .ok .non:=by
 have:=aG2 h.ow h.low
 simp[jV,jR,bF,this]
def kW:D->List Int
 | .tup l=>(l.map rowOf).flatten
 |_=>[]
def rgB(n:Int)(ps:List (Int×Int)):D->Bool
 | .tup [w,r]=>(goG (gwB n (dbl ps)) w&&goG (dX n (dbl ps)) r)&&ug n (kW w++kW r)
 |_=>false
structure Fi2(d:D):Prop where
 pl:pln d=true
 sh:∀w r,d= .tup [w,r]->aA7 w=true/\aA7 r=true/\(kW w).length+(kW r).length<64
def irI:En->Ou:=ifS (orT (fC (tst (op1 (fU "tuple") (aB 1)))) (tsb (op2 (eqR true) (opA bz (aA (aB 1) aF)) (cD (.int 2))))) (retS (cD (.bl false))) Ou.nx
def irG(fn:Str)(i:Nat):En->Rs D:=aO nD (aA (aB 4) (aA (aB i) (aA (cD (.fn fn)) aF)))
def irO:En->Rs D:=aO jU (aA (op2 ixD (aB 0) (cD (.int 0))) (aA (op2 aV (aB 2) (aB 3)) aF))
theorem aAe:jP=aQ (aD8 (aO jV (aA (aB 0) aF))) (aQ irI (aQ (aDj (aB 1) (lL 2 (cH (gnm 2) (cH (gnm 3) mU)))) (aQ (bY 4 (aO jy (aA (aB 0) aF))) (retS (iw (irG "goes_written" 2) (iw (irG "is_wide" 3) irO)))))):=rfl
theorem wR(h:goG B d=true):∃rs,d= .tup rs/\rs.all B=true:=by
 cases d with
 |tup l=>exact⟨l,rfl,(Bool.and_eq_true_iff.mp h).1⟩
 |_=>cases h
theorem qH(h:aA7 (.tup l)=true):l.length<4000:=by
 simp only[aA7,Bool.and_eq_true,decide_eq_true_eq]at h;exact h.1
theorem aHz(h0:0<=n)(h1:n<=60)(hw:(w.map rowOf).map tupI=w)(hr:(r.map rowOf).map tupI=r)(hl:(kW (.tup w)).length+(kW (.tup r)).length<64):jU [.int n,.tup (w++r)]= .ok (.bl (ug n (kW (.tup w)++kW (.tup r)))):=by
 have e:=aCL (n:=n) (rws:=w.map rowOf++r.map rowOf) h0 h1 (by rw[List.flatten_append,List.length_append];exact hl);rw[List.map_append,hw,hr,List.flatten_append]at e;exact e
abbrev irE(n:Int)(ps:List (Int×Int))(d w r:D)(ll:List (List D)):En:=[.sh (owD n ps),.sh d,.sh w,.sh r,.sh (.lst (ll.map .lst))]
theorem pI{n:Int}(W:Wb n ps)(F:Fi2 d):di [owD n ps,d]= .ok (.bl (rgB n ps d)):=by
 have ck:=aCO W;have st:bF 5 [owD n ps,d]=[.sh (owD n ps),.sh d,.no,.no,.no]:=rfl;have b0:aD8 (aO jV (aA (aB 0) aF)) [.sh (owD n ps),.sh d,.no,.no,.no]= .nx [.sh (owD n ps),.sh d,.no,.no,.no]:=by simp[ck]
 simp only[di,aAe,bG,st];rw[aM,b0,ak,aM];cases d with
 |tup l=>
  by_cases hl:l.length=2
  ·match l,hl with
   |[w,r],_=>
    obtain⟨f1,f2,f3⟩:=F.sh w r rfl;have hpl:pln w=true/\pln r=true:=by
     have:=F.pl
     simpa[pln,eY]using this
    obtain⟨ll,et,N⟩:=aDl W.ow;have b1:irI [.sh (owD n ps),.sh (.tup [w,r]),.no,.no,.no]= .nx [.sh (owD n ps),.sh (.tup [w,r]),.no,.no,.no]:=by
     unfold irI;simp
    have b2:aDj (aB 1) (lL 2 (cH (gnm 2) (cH (gnm 3) mU))) [.sh (owD n ps),.sh (.tup [w,r]),.no,.no,.no]= .nx [.sh (owD n ps),.sh (.tup [w,r]),.sh w,.sh r,.no]:=by simp
    have b3:bY 4 (aO jy (aA (aB 0) aF)) [.sh (owD n ps),.sh (.tup [w,r]),.sh w,.sh r,.no]= .nx (irE n ps (.tup [w,r]) w r ll):=by simp[et]
    have v1:irG "goes_written" 2 (irE n ps (.tup [w,r]) w r ll)= .ok (.bl (goG (gwB n (dbl ps)) w)):=by
     have:=aAX (ll:=ll) (d:=w) (λ _ _ _ _=>aLD) (λ d h1 h2=>yI W.ow.n0 N h1 h2) (λ d=>aEo) hpl.1 f1
     simp[irG,this]
    have v2:irG "is_wide" 3 (irE n ps (.tup [w,r]) w r ll)= .ok (.bl (goG (dX n (dbl ps)) r)):=by
     have:=aAX (ll:=ll) (d:=r) (λ _ _ _ _=>aLE) (λ d h1 h2=>aEi W.ow.n0 (aN7 W.low) N h1 h2) (λ d=>yg) hpl.2 f2
     simp[irG,this]
    have er:rgB n ps (.tup [w,r])=(goG (gwB n (dbl ps)) w&&(goG (dX n (dbl ps)) r&&ug n (kW w++kW r))):=Bool.and_assoc ..;rw[b1,ak,aM,b2,ak,aM,b3,ak,dg,iZ,v1,aH,jc,er];cases c1:goG (gwB n (dbl ps)) w with
    |false=>rfl
    |true=>
     rw[if_pos rfl,iZ,v2,aH,jc];cases c2:goG (dX n (dbl ps)) r with
     |false=>rfl
     |true=>
      obtain⟨ws,rfl,a1⟩:=wR c1;obtain⟨rs,rfl,a2⟩:=wR c2;have z1:=qH f1;have z2:=qH f2;have hv:aA (op2 ixD (aB 0) (cD (.int 0))) (aA (op2 aV (aB 2) (aB 3)) aF) (irE n ps (.tup [.tup ws,.tup rs]) (.tup ws) (.tup rs) ll)= .ok [.int n,.tup (ws++rs)]:=by
       have:ws.length+rs.length<=16777216:=by lia
       simp[owD,this]
      rw[if_pos rfl,irO,eF,hv,aH,aHz W.ow.n0 W.ow.n1 (qQ (λ d=>aEo) a1) (qQ (λ d=>yg) a2) f3];rfl
  ·have b1:irI [.sh (owD n ps),.sh (.tup l),.no,.no,.no]= .rt (.bl false):=by
    unfold irI
    have:¬(l.length:Int)=2:=by lia
    simp[this]
   have:rgB n ps (.tup l)=false:=by
    unfold rgB;split
    ·rename_i e
     cases e;exact absurd rfl hl
    ·rfl
   rw[b1,this];rfl
 |_=>
  unfold irI;simp[fQ (gC F.pl),eE,rgB]
section
variable{n:Int}{ps:List (Int×Int)}{ts:List D}
theorem aK5(hp':eY ts=true)(hl:ts.length<4000):aGT [.sh (owD n ps),.sh (.tup ts)]=if (ts.all (bu n)&&decide ((ddI (ts.map intOf)).length=ts.length))=true then .nx [.sh (owD n ps),.sh (.tup ts)]else .rt (.bl false):=by
 have hc1:lcD (bh (aB 1)) [none,some 0] (gnm 0) bV zW [.sh (owD n ps),.sh (.tup ts)]= .ok (.lst (ts.map λ t=>.bl (bu n t))):=by
  have hi:bh (aB 1) (shE [.sh (owD n ps),.sh (.tup ts)])= .ok ts:=by simp[shE,rR]
  have hm:=lF (ρ:=stE [none,some 0] (shE [.sh (owD n ps),.sh (.tup ts)])) (fg:=gnm 0) (fe:=zW) (g:=λ t=>.bl (bu n t)) ts λ d hd=>⟨_,rfl,by
   show zW [.sh d,.sh (owD n ps)]=_;exact aF6 (gC (fM hp' hd))⟩
  unfold lcD;rw[hi,aH,if_pos (by rw[szl];lia),hm]
 have ha1:opA (jt λ bs=>bs.all id) (aA (lcD (bh (aB 1)) [none,some 0] (gnm 0) bV zW) aF) [.sh (owD n ps),.sh (.tup ts)]= .ok (.bl (ts.all (bu n))):=by
  rw[fO,aX,hc1,aH,bQ,aH,aH,oX,bC]
 unfold aGT;cases hall:ts.all (bu n)with
 |false=>
  rw[j6,qW,lC,nZ,ha1,hall];simp
 |true=>
  obtain⟨ei,hin⟩:=gD hall;have hwl:(ts.map intOf).length=ts.length:=List.length_map _;have hset:qI [.tup ts]= .ok (.set (ddI (ts.map intOf))):=by
   have:=zA (ns:=ts.map intOf) (by lia)
   rwa [ei]at this
  have hle:=aIz (ts.map intOf);have hlt:tsb (op2 ltD (opA uG (aA (opA qI (aA (aB 1) aF)) aF)) (opA bz (aA (aB 1) aF))) [.sh (owD n ps),.sh (.tup ts)]= .ok (decide (((ddI (ts.map intOf)).length:Int)<ts.length)):=by simp[hset]
  rw[j6,qW,lC,nZ,ha1,hall,hlt];by_cases hdd:(ddI (ts.map intOf)).length=ts.length
  ·simp[hdd]
  ·have:((ddI (ts.map intOf)).length:Int)<ts.length:=by lia
   simp[hdd,this]
end
theorem aLj{ws:List Int}(nd:ws.Nodup)(ne:ws≠[]):wrB ws=decide (ws.headD 0<=ws.getLastD 0):=by
 obtain⟨x,xs,rfl⟩:∃x xs,ws=x::xs:=by
  cases ws with
  |nil=>exact absurd rfl ne
  |cons x xs=>exact⟨x,xs,rfl⟩
 unfold wrB;rcases List.eq_nil_or_concat xs with rfl|⟨ys,y,rfl⟩
 ·simp[HT.lexLt]
 ·have hne:¬y=x:=λ e=>by
   subst e;simp at nd
  have hr:(x::(ys++[y])).reverse=y::(ys.reverse++[x]):=by simp
  have hl:(x::(ys++[y])).getLastD 0=y:=by rw[<-List.cons_append,List.getLastD_concat]
  rw[List.concat_eq_append,hl,hr,HT.jL,if_neg hne]
  show(!decide (y<x))=decide (x<=y)
  rw[Bool.eq_iff_iff];simp
theorem uY(h:r≠[]):atD (r.map D.int) 0= .ok (.int (r.headD 0))/\atD (r.map D.int) (-1)= .ok (.int (r.getLastD 0)):=by
 refine⟨?_,vR rfl h⟩
 have:=xX (ts:=r.map D.int) (ws:=r) rfl (k:=0) (w:=r.headD 0) (by
  cases r with
  |nil=>exact absurd rfl h
  |cons a b=>rfl)
 exact this
def aIN:En->Ou:=ifS (orT (fC (tst (op1 (fU "tuple") (aB 1)))) (tsb (op2 (eqR false) (opA bz (aA (aB 1) aF)) (cD (.int 0))))) (retS (cD (.bl false))) Ou.nx
def aNF:En->Ou:=ifS (tsb (op2 gtD (op2 ixD (aB 1) (cD (.int 0))) (op2 ixD (aB 1) (op1 gn (cD (.int 1)))))) (retS (cD (.bl false))) Ou.nx
def lgS:En->Rs D:=bA (aB 1) (bK (aB 0)) (bK (op2 aV (aB 0) (cD (.int 2))))
def lgE:En->Rs D:=op2 (inR false) (aZ (aA (opA (iB List.min?) (aA lgS aF)) (aA (opA (iB List.max?) (aA lgS aF)) aF))) (op2 ixD (aB 2) (cD (.int 1)))
def lgA:En->Rs D:=opA (jt λ bs=>bs.all id) (aA (lcD (cX dm (aA (op2 qD (opA bz (aA (aB 1) aF)) (cD (.int 1))) aF)) [none,some 1,some 0] (gnm 0) bV lgE) aF)
theorem aCG:jk=aQ aIN (aQ aGT (aQ aNF (retS lgA))):=rfl
theorem aKx{rs:List Int}{k:Nat}(h:k+1<rs.length):cutD (rs.map D.int) (some (k:Int)) (some ((k:Int)+2))=[.int (rs.getD k 0),.int (rs.getD (k+1) 0)]:=by
 have e2:((k:Int)+2)=((k+2:Nat):Int):=by lia
 have l1:k<rs.length:=by lia
 unfold cutD;rw[e2,HT.aFO,HT.aFO,List.length_map,Nat.min_eq_left (by lia),Nat.min_eq_left (by lia),show k+2-k=2 by lia,List.drop_eq_getElem_cons (by rw[List.length_map];exact l1),List.drop_eq_getElem_cons (by rw[List.length_map];exact h)];simp[l1,h]
theorem aIG(a b:Int):min a b=mn a b/\max a b=mx a b:=by
 unfold mn mx;rw[Int.min_def,Int.max_def];constructor<;>split<;>split<;>lia
theorem aNG{n:Int}{ps:List (Int×Int)}{ts:List D}(low:∀p∈ps,p.1<p.2)(ei:(ts.map intOf).map D.int=ts)(hne:ts.map intOf≠[])(hl:ts.length<4000):lgA [.sh (owD n ps),.sh (.tup ts)]= .ok (.bl (gH (dbl ps) (ts.map intOf))):=by
 generalize hws:ts.map intOf=rs at*;have hwl:rs.length=ts.length:=by rw[<-hws,List.length_map]
 have hp:0<rs.length:=List.length_pos_iff.mpr hne;subst ei;have hr:=gB (j:=(rs.length:Int)-1) (by lia) (by lia);have hi:cX dm (aA (op2 qD (opA bz (aA (aB 1) aF)) (cD (.int 1))) aF) (shE [.sh (owD n ps),.sh (.tup (rs.map D.int))])= .ok (dB 0 ((rs.length:Int)-1)):=by simp[shE,rR,hr]
 have hc2:lcD (cX dm (aA (op2 qD (opA bz (aA (aB 1) aF)) (cD (.int 1))) aF)) [none,some 1,some 0] (gnm 0) bV lgE [.sh (owD n ps),.sh (.tup (rs.map D.int))]= .ok (.lst ((dB 0 ((rs.length:Int)-1)).map λ k=>.bl (decide ((rs.getD (intOf k).toNat 0,rs.getD ((intOf k).toNat+1) 0)∈dbl ps)))):=by
  refine iD hi (by rw[iy];lia) (lF (fg:=gnm 0) (fe:=lgE) (g:=λ k=>.bl (decide ((rs.getD (intOf k).toNat 0,rs.getD ((intOf k).toNat+1) 0)∈dbl ps))) (dB 0 ((rs.length:Int)-1)) λ d hd=>⟨_,rfl,?_⟩);obtain⟨k,rfl,k0,k1⟩:=iC.mp hd;show lgE [.sh (.int k),.sh (.tup (rs.map D.int)),.sh (owD n ps)]=_;obtain⟨j,rfl⟩:∃j:Nat,k=(j:Int):=⟨k.toNat,by lia⟩
  have ec:=aKx (rs:=rs) (k:=j) (by lia);have vs:lgS [.sh (.int (j:Int)),.sh (.tup (rs.map D.int)),.sh (owD n ps)]= .ok (.tup [.int (rs.getD j 0),.int (rs.getD (j+1) 0)]):=by
   unfold lgS;simp[ec]
  have hv:op2 ixD (aB 2) (cD (.int 1)) [.sh (.int (j:Int)),.sh (.tup (rs.map D.int)),.sh (owD n ps)]= .ok (.tup (ps.map pD)):=by simp[owD]
  show lgE _= .ok (.bl (decide ((rs.getD j 0,rs.getD (j+1) 0)∈dbl ps)));generalize rs.getD j 0=a at*;generalize rs.getD (j+1) 0=b at*;have m1:iB List.min? [.tup [.int a,.int b]]= .ok (.int (mn a b)):=by
   rw[<-(aIG a b).1];rfl
  have m2:iB List.max? [.tup [.int a,.int b]]= .ok (.int (mx a b)):=by
   rw[<-(aIG a b).2];rfl
  have ht:aZ (aA (opA (iB List.min?) (aA lgS aF)) (aA (opA (iB List.max?) (aA lgS aF)) aF)) [.sh (.int (j:Int)),.sh (.tup (rs.map D.int)),.sh (owD n ps)]= .ok (pD (mn a b,mx a b)):=by
   have w1:∀f z,iB f [.tup [.int a,.int b]]= .ok z->opA (iB f) (aA lgS aF) [.sh (.int (j:Int)),.sh (.tup (rs.map D.int)),.sh (owD n ps)]= .ok z:=λ f z h=>by
    rw[fO,aX,vs,aH,bQ,aH,aH,h,bC]
   rw[nJ,aX,w1 _ _ m1,aH,aX,w1 _ _ m2,aH,bQ,aH,aH,aH,if_pos (by simp)];rfl
  unfold lgE;rw[b8,ht,aH,hv,aH,zp,bC];refine congrArg (λ b=>Rs.ok (D.bl b)) ?_;rw[if_neg Bool.false_ne_true,Bool.eq_iff_iff,decide_eq_true_eq,decide_eq_true_eq];exact(aFo low).symm
 unfold lgA;rw[aEy hc2];refine congrArg (λ b=>Rs.ok (D.bl b)) ?_;rw[Bool.eq_iff_iff,oW,List.all_eq_true];constructor
 ·intro h i a b e1 e2
  have k2:=(List.getElem?_eq_some_iff.mp e2).1
  have:=h (.int (i:Int)) (iC.mpr ⟨i,rfl,by lia,by lia⟩)
  have z:=of_decide_eq_true this;have f1:rs.getD (intOf (.int (i:Int))).toNat 0=a:=by
   show rs.getD ((i:Int).toNat) 0=a;rw[Int.toNat_natCast,List.getD_eq_getElem?_getD,e1];rfl
  have f2:rs.getD ((intOf (.int (i:Int))).toNat+1) 0=b:=by
   show rs.getD ((i:Int).toNat+1) 0=b;rw[Int.toNat_natCast,List.getD_eq_getElem?_getD,e2];rfl
  rw[f1,f2]at z;exact z
 ·intro h d hd
  obtain⟨k,rfl,k0,k1⟩:=iC.mp hd;have l1:k.toNat<rs.length:=by lia
  have l2:k.toNat+1<rs.length:=by lia
  show decide ((rs.getD k.toNat 0,rs.getD (k.toNat+1) 0)∈dbl ps)=true;refine decide_eq_true ?_;exact h k.toNat _ _ (by rw[List.getD_eq_getElem?_getD,List.getElem?_eq_getElem l1];rfl) (by rw[List.getD_eq_getElem?_getD,List.getElem?_eq_getElem l2];rfl)
theorem aDU{d:D}(low:∀p∈ps,p.1<p.2)(hp:pln d=true)(hs:uV d=true):nA [owD n ps,d]= .ok (.bl (gwB n (dbl ps) d)):=by
 have st:bF 2 [owD n ps,d]=[.sh (owD n ps),.sh d]:=rfl;simp only[nA,aCG,bG,st];rw[aM];cases d with
 |tup ts=>
  have hp':eY ts=true:=by simpa[pln]using hp
  have hl:ts.length<4000:=by simpa[uV]using hs
  by_cases hne:ts=[]
  ·subst hne
   simp[aIN,gwB,lD]
  ·have b1:aIN [.sh (owD n ps),.sh (.tup ts)]= .nx [.sh (owD n ps),.sh (.tup ts)]:=by simp[aIN,hne]
   have hm:ts.map intOf≠[]:=by simpa using hne
   rw[b1,ak,aM,aK5 hp' hl];cases c1:(ts.all (bu n)&&decide ((ddI (ts.map intOf)).length=ts.length))with
   |false=>
    have:gwB n (dbl ps) (.tup ts)=false:=by
     unfold gwB lD;dsimp only;rw[Bool.and_assoc (!ts.isEmpty),c1];simp
    rw[this];rfl
   |true=>
    simp only[Bool.and_eq_true,decide_eq_true_eq]at c1;have ei:=(gD c1.1).1;have nd:(ts.map intOf).Nodup:=aD9 (by rw[c1.2,List.length_map]);have er:gwB n (dbl ps) (.tup ts)=(decide ((ts.map intOf).headD 0<=(ts.map intOf).getLastD 0)&&gH (dbl ps) (ts.map intOf)):=by
     unfold gwB lD;dsimp only;have he:ts.isEmpty=false:=by
      cases ts with
      |nil=>exact absurd rfl hne
      |cons=>rfl
     rw[c1.1,decide_eq_true c1.2,aLj nd hm,he,Bool.and_comm,Bool.not_false,Bool.true_and,Bool.true_and,Bool.true_and]
    have e0:=(uY hm).1;have e1:=vR ei hm;rw[ei]at e0;have b3:aNF [.sh (owD n ps),.sh (.tup ts)]=if (ts.map intOf).headD 0<=(ts.map intOf).getLastD 0 then .nx [.sh (owD n ps),.sh (.tup ts)]else .rt (.bl false):=by
     have hc:tsb (op2 gtD (op2 ixD (aB 1) (cD (.int 0))) (op2 ixD (aB 1) (op1 gn (cD (.int 1))))) [.sh (owD n ps),.sh (.tup ts)]= .ok (decide ((ts.map intOf).getLastD 0<(ts.map intOf).headD 0)):=by
      generalize (ts.map intOf).headD 0=x at*;generalize (ts.map intOf).getLastD 0=y at*;simp[e0,e1]
     unfold aNF;rw[j6,hc,cI];by_cases c:(ts.map intOf).headD 0<=(ts.map intOf).getLastD 0
     ·rw[if_pos c,decide_eq_false (by lia)];rfl
     ·rw[if_neg c,decide_eq_true (by lia)];rfl
    rw[if_pos rfl,ak,aM,b3,er];by_cases c2:(ts.map intOf).headD 0<=(ts.map intOf).getLastD 0
    ·rw[if_pos c2,ak,dg,aNG low ei hm hl,decide_eq_true c2,Bool.true_and]
     rfl
    ·rw[if_neg c2,decide_eq_false c2]
     rfl
 |_=>
  unfold aIN;simp[fQ (gC hp),eE,gwB]
def lqT:En->Rs D:=opA (jt λ bs=>bs.all id) (aA (lcD (bh (aB 1)) [none] (gnm 0) bV (op1 (fU "tuple") (aB 0))) aF)
def aGV:En->Ou:=ifS (orT (fC (tst (op1 (fU "tuple") (aB 1)))) (orT (tsb (op2 (eqR true) (opA bz (aA (aB 1) aF)) (cD (.int 2)))) (fC (tst lqT)))) (retS (cD (.bl false))) Ou.nx
def lqA(F:List D->Rs D)(k:Int):En->Rs D:=opA (jt λ bs=>bs.all id) (aA (lcD (bh (op2 ixD (aB 1) (cD (.int k)))) [none,some 0] (gnm 0) bV (aO F (aA (aB 1) (aA (aB 0) aF)))) aF)
def aNE:En->Ou:=ifS (orT (fC (tst (lqA nA 0))) (fC (tst (lqA gJ 1)))) (retS (cD (.bl false))) Ou.nx
def lqR(k:Int):En->Rs D:=aO gK (aA (op2 ixD (aB 1) (cD (.int k))) aF)
def lqO:En->Rs D:=aO iM (aA (op2 aV (op2 ixD (aB 1) (cD (.int 0))) (op2 ixD (aB 1) (cD (.int 1)))) (aA (op2 ixD (aB 0) (cD (.int 0))) aF))
theorem ut:eQ=aQ aGV (aQ aNE (retS (iw (lqR 0) (iw (lqR 1) lqO)))):=rfl
theorem aGz(h:eE d=true):∃l,d= .tup l:=by
 cases d with
 |tup l=>exact⟨l,rfl⟩
 |_=>cases h
abbrev lqE(n:Int)(ps:List (Int×Int))(d:D):En:=[.sh (owD n ps),.sh d]
theorem aIL{n:Int}{ps:List (Int×Int)}{F:List D->Rs D}{B:D->Bool}{k:Int}{ts:List D}{d:D}(hF:∀d,pln d=true->uV d=true->F [owD n ps,d]= .ok (.bl (B d)))(hk:∀s,op2 ixD (aB 1) (cD (.int k)) [s,.sh d]= .ok (.tup ts))(hp:eY ts=true)(hs:aA7 (.tup ts)=true):
  lqA F k (lqE n ps d)= .ok (.bl (ts.all B)):=by
 have hl:=qH hs;simp only[aA7,Bool.and_eq_true]at hs;refine aEy (f:=B) (iD (ds:=ts) ?_ (by lia) ?_)
 ·have:=hk (.sh (owD n ps))
  simp[shE,rR]at this ⊢;simp[this]
 ·have:=lF (ρ:=stE [none,some 0] (shE (lqE n ps d))) (fg:=gnm 0) (fe:=aO F (aA (aB 1) (aA (aB 0) aF))) (g:=λ d=>.bl (B d)) ts λ d hd=>⟨_,rfl,by
   show aO F (aA (aB 1) (aA (aB 0) aF)) [.sh d,.sh (owD n ps)]=_;have e:=hF d (fM hp hd) (List.all_eq_true.mp hs.2 d hd);simp[e]⟩
  exact this
theorem aOh:∀x1 x2 x3 x4 x5:Bool,(((x1&&x3)&&(x2&&x4))&&x5)=((x1&&x2)&&(x3&&(x4&&x5))):=by decide
theorem wN{n:Int}{ps:List (Int×Int)}(W:Wb n ps)(F:Fi2 d):gQ [owD n ps,d]= .ok (.bl (rgB n ps d)):=by
 have st:bF 2 [owD n ps,d]=lqE n ps d:=rfl;simp only[gQ,ut,bG,st];rw[aM];cases d with
 |tup l=>
  by_cases hl:l.length=2
  ·match l,hl with
   |[w,r],_=>
    obtain⟨f1,f2,f3⟩:=F.sh w r rfl;have hpl:pln w=true/\pln r=true:=by
     have:=F.pl
     simpa[pln,eY]using this
    have vT:lqT (lqE n ps (.tup [w,r]))= .ok (.bl (eE w&&eE r)):=by
     have:=aEy (ρ:=lqE n ps (.tup [w,r])) (fe:=lcD (bh (aB 1)) [none] (gnm 0) bV (op1 (fU "tuple") (aB 0))) (f:=eE) (l:=[w,r]) (iD (ds:=[w,r]) (by simp[shE,rR]) (by simp) (lF (fg:=gnm 0) (fe:=op1 (fU "tuple") (aB 0)) (g:=λ d=>.bl (eE d)) [w,r] λ d hd=>⟨_,rfl,by
      have hk:knd d=true:=by
       have:d=w\/d=r:=by simpa using hd
       rcases this with rfl|rfl
       ·exact gC hpl.1
       ·exact gC hpl.2
      simp[stE,fQ hk]⟩))
     unfold lqT;rw[this];simp
    have b1:aGV (lqE n ps (.tup [w,r]))=if (eE w&&eE r)=true then .nx (lqE n ps (.tup [w,r]))else .rt (.bl false):=by
     have u1:fC (tst (op1 (fU "tuple") (aB 1))) (lqE n ps (.tup [w,r]))= .ok false:=by simp
     have u2:tsb (op2 (eqR true) (opA bz (aA (aB 1) aF)) (cD (.int 2))) (lqE n ps (.tup [w,r]))= .ok false:=by simp
     unfold aGV;rw[j6,qW,u1,qW,u2,lC,nZ,vT];cases (eE w&&eE r)<;>simp
    rw[b1];cases hT:(eE w&&eE r)with
    |false=>
     have:rgB n ps (.tup [w,r])=false:=by
      cases hs:rgB n ps (.tup [w,r])with
      |false=>rfl
      |true=>
       unfold rgB at hs;simp only[Bool.and_eq_true]at hs;obtain⟨_,rfl,_⟩:=wR hs.1.1;obtain⟨_,rfl,_⟩:=wR hs.1.2;cases hT
     rw[this];rfl
    |true=>
     simp only[Bool.and_eq_true]at hT;obtain⟨ts,rfl⟩:=aGz hT.1;obtain⟨rs,rfl⟩:=aGz hT.2;have a0:∀s,op2 ixD (aB 1) (cD (.int 0)) [s,.sh (.tup [.tup ts,.tup rs])]= .ok (.tup ts):=λ s=>by simp
     have a1:∀s,op2 ixD (aB 1) (cD (.int 1)) [s,.sh (.tup [.tup ts,.tup rs])]= .ok (.tup rs):=λ s=>by simp
     have v1:=aIL (n:=n) (ps:=ps) (λ d h1 h2=>aDU W.low h1 h2) a0 (by simpa[pln]using hpl.1) f1;have v2:=aIL (n:=n) (ps:=ps) (λ d h1 h2=>xG W.low h1 h2) a1 (by simpa[pln]using hpl.2) f2;have b2:aNE (lqE n ps (.tup [.tup ts,.tup rs]))=if (ts.all (gwB n (dbl ps))&&rs.all (dX n (dbl ps)))=true then .nx (lqE n ps (.tup [.tup ts,.tup rs]))else .rt (.bl false):=by
      unfold aNE;rw[j6,qW,lC,nZ,v1,lC,nZ,v2];cases ts.all (gwB n (dbl ps))<;>cases rs.all (dX n (dbl ps))<;>simp
     have er:rgB n ps (.tup [.tup ts,.tup rs])=((ts.all (gwB n (dbl ps))&&rs.all (dX n (dbl ps)))&&(mJ HT.lexLt (ts.map rowOf)&&(mJ HT.lexLt (rs.map rowOf)&&ug n (kW (.tup ts)++kW (.tup rs))))):=aOh _ _ _ _ _;rw[if_pos rfl,ak,aM,b2,er];cases c:(ts.all (gwB n (dbl ps))&&rs.all (dX n (dbl ps)))with
     |false=>rfl
     |true=>
      obtain⟨c1,c2⟩:=Bool.and_eq_true_iff.mp c;have z1:=qH f1;have z2:=qH f2;have e1:=qQ (λ d=>aEo) c1;have e2:=qQ (λ d=>yg) c2;have r1:=pU (rws:=ts.map rowOf) (by rw[List.length_map];lia);have r2:=pU (rws:=rs.map rowOf) (by rw[List.length_map];lia);have o:=aDm (n:=n) (rws:=ts.map rowOf++rs.map rowOf) W.ow.n0 W.ow.n1 (by rw[List.flatten_append,List.length_append];exact f3);rw[List.map_append,e1,e2,List.flatten_append]at o;rw[e1]at r1;rw[e2]at r2;have u1:lqR 0 (lqE n ps (.tup [.tup ts,.tup rs]))= .ok (.bl (mJ HT.lexLt (ts.map rowOf))):=by
       rw[lqR,eF,aX,a0,aH,bQ,aH,aH,r1]
      have u2:lqR 1 (lqE n ps (.tup [.tup ts,.tup rs]))= .ok (.bl (mJ HT.lexLt (rs.map rowOf))):=by
       rw[lqR,eF,aX,a1,aH,bQ,aH,aH,r2]
      have u3:lqO (lqE n ps (.tup [.tup ts,.tup rs]))= .ok (.bl (ug n (kW (.tup ts)++kW (.tup rs)))):=by
       have:ts.length+rs.length<=16777216:=by lia
       have hv:aA (op2 aV (op2 ixD (aB 1) (cD (.int 0))) (op2 ixD (aB 1) (cD (.int 1)))) (aA (op2 ixD (aB 0) (cD (.int 0))) aF) (lqE n ps (.tup [.tup ts,.tup rs]))= .ok [.tup (ts++rs),.int n]:=by simp[owD,this]
       rw[lqO,eF,hv,aH,o];rfl
      rw[if_pos rfl,ak,dg,iZ,u1,aH,jc,iZ,u2,aH,jc,u3];cases mJ HT.lexLt (ts.map rowOf)<;>cases mJ HT.lexLt (rs.map rowOf)<;>rfl
  ·have b1:aGV (lqE n ps (.tup l))= .rt (.bl false):=by
    unfold aGV
    have:¬(l.length:Int)=2:=by lia
    simp[this]
   have:rgB n ps (.tup l)=false:=by
    unfold rgB;split
    ·rename_i e
     cases e;exact absurd rfl hl
    ·rfl
   rw[b1,this];rfl
 |_=>
  unfold aGV;simp[fQ (gC F.pl),eE,rgB]
theorem rK(l:List Int):lJ (l.map .int)=true:=by
 induction l with
 |nil=>rfl
 |cons a l ih=>simp[lJ,imm,ih]
theorem zr(l:List Int):imm (tupI l)=true:=by simp[tupI,imm,rK]
theorem gY(l:List Int):kO (tupI l)= .ok (tupI l):=by unfold kO;rw[if_pos (zr l)]
def nbr(n:Int)(ps:List (Int×Int))(x:Int):List Int:=(bB n).filter λ o=>decide ((mn x o,mx x o)∈ps)
theorem oK:x∈bB n↔0<=x/\x<n:=by
 unfold bB;rw[List.mem_map];constructor
 ·rintro⟨k,hk,rfl⟩
  rw[List.mem_range]at hk;lia
 ·rintro⟨h0,h1⟩
  exact⟨x.toNat,by rw[List.mem_range];lia,by lia⟩
theorem dF:(bB n).length=n.toNat:=by unfold bB;rw[List.length_map,List.length_range]
theorem aIE:(bB n).Nodup:=by
 unfold bB;exact rG List.nodup_range λ a _ b _ e=>by
  have e2:(a:Int)=b:=by simpa using e
  lia
def lnT:En->Rs Bool:=tsb (op2 (inR false) (aZ (aA (opA (mmD λ i j=>if j<i then j else i) (aA (aB 1) (aA (aB 0) aF))) (aA (opA (mmD λ i j=>if j>i then j else i) (aA (aB 1) (aA (aB 0) aF))) aF))) (op2 ixD (aB 2) (cD (.int 1))))
theorem xH(O:Ow n ps):gM [owD n ps,.int x]= .ok (.lst ((nbr n ps x).map .int)):=by
 have h0:=O.n0;have h1:=O.n1;have st:bF 2 [owD n ps,.int x]=[.sh (owD n ps),.sh (.int x)]:=rfl;have hr:=gB (j:=n) (by lia) (by lia);have df:ji=retS (lcD (cX dm (aA (op2 ixD (aB 0) (cD (.int 0))) aF)) [none,some 1,some 0] (gnm 0) lnT (aP (aB 0))):=rfl;have hc:lcD (cX dm (aA (op2 ixD (aB 0) (cD (.int 0))) aF)) [none,some 1,some 0] (gnm 0) lnT (aP (aB 0)) [.sh (owD n ps),.sh (.int x)]= .ok (.lst ((nbr n ps x).map .int)):=by
  refine iD (ds:=(bB n).map .int) (by simp[shE,rR,owD,hr,gW]) (by rw[List.length_map,dF];lia) ?_;exact lG (ρ:=stE [none,some 1,some 0] (shE [.sh (owD n ps),.sh (.int x)])) (fg:=gnm 0) (ft:=lnT) (fe:=aP (aB 0)) (f:=D.int) (g:=D.int) (t:=λ o=>decide ((mn x o,mx x o)∈ps)) (bB n) λ o _=>⟨[.sh (.int o),.sh (.int x),.sh (owD n ps)],rfl,by
   have ht:aZ (aA (opA (mmD λ i j=>if j<i then j else i) (aA (aB 1) (aA (aB 0) aF))) (aA (opA (mmD λ i j=>if j>i then j else i) (aA (aB 1) (aA (aB 0) aF))) aF)) [.sh (.int o),.sh (.int x),.sh (owD n ps)]= .ok (pD (mn x o,mx x o)):=by
    simp[pD,mn,mx]
   have hv:op2 ixD (aB 2) (cD (.int 1)) [.sh (.int o),.sh (.int x),.sh (owD n ps)]= .ok (.tup (ps.map pD)):=by simp[owD]
   unfold lnT;rw[o6,b8,ht,aH,hv,aH,zp,bC,aH];rfl,by simp⟩
 simp only[gM,df,bG,st];rw[dg,hc];rfl
structure Gr(n:Int)(r:List Int):Prop where
 ne:r≠[]
 nd:r.Nodup
 lo:∀x∈r,0<=x/\x<n
theorem Gr.len(h:Gr n r):r.length<=n.toNat:=by
 have:=sub_len (l':=bB n) h.nd λ x hx=>oK.mpr (h.lo x hx)
 rwa [dF]at this
def gR:Nat->Nat
 |0=>1
 |k+1=>1+6*gR k
theorem zx(k:Nat):1<=gR k:=by cases k<;>simp[gR]
def phi(l:List (List Int)):Nat:=(l.map λ r=>gR (6-r.length)).sum
theorem ud(r:List Int)(l:List (List Int)):phi (r::l)=gR (6-r.length)+phi l:=by simp[phi]
theorem yR(l m:List (List Int)):phi (l++m)=phi l+phi m:=by simp[phi]
theorem aFX(l:List (List Int)):l.length<=phi l:=by
 induction l with
 |nil=>simp
 |cons r l ih=>rw[ud,List.length_cons];have:=zx (6-r.length);lia
theorem zN:∀(l:List (List Int)),(∀r∈l,r.length=k)->phi l=l.length*gR (6-k)
 |[],_=>by simp[phi]
 |r::l,h=>by
  rw[ud,zN l λ x hx=>h x (List.mem_cons_of_mem _ hx),h r List.mem_cons_self,List.length_cons,Nat.succ_mul];lia
def lM(n:Int)(ps:List (Int×Int))(r:List Int):List (List Int):=((nbr n ps (r.getLastD 0)).filter λ o=>decide (r.headD 0<o)&& !decide (o∈r)).map λ o=>r++[o]
theorem aAJ(h:Gr n r):∀x∈lM n ps r,Gr n x/\x.length=r.length+1:=by
 intro x hx;obtain⟨o,ho,rfl⟩:=List.mem_map.mp hx;obtain⟨h1,h2⟩:=List.mem_filter.mp ho;have h3:=oK.mp (List.mem_filter.mp h1).1;simp only[Bool.and_eq_true,Bool.not_eq_true',decide_eq_false_iff_not]at h2;refine⟨⟨by simp,List.nodup_append.mpr ⟨h.nd,by simp,λ a ha b hb e=>?_⟩,λ y hy=>?_⟩,by simp⟩
 ·rw[List.mem_singleton]at hb
  subst hb e;exact h2.2 ha
 ·rcases List.mem_append.mp hy with z|z
  ·exact h.lo y z
  ·rw[List.mem_singleton]at z
   subst z;exact h3
theorem aKv(hn:n<=6):(lM n ps r).length<=6:=by
 unfold lM nbr;rw[List.length_map];refine Nat.le_trans (List.length_filter_le _ _) (Nat.le_trans (List.length_filter_le _ _) ?_);rw[dF];lia
theorem aKu(hn:n<=6)(h:Gr n r):phi (lM n ps r)+1<=gR (6-r.length):=by
 have hl:=h.len;have e:=zN (k:=r.length+1) (lM n ps r) λ x hx=>(aAJ h x hx).2
 by_cases h6:r.length<6
 ·rw[e,show 6-r.length=(6-(r.length+1))+1 by lia]
  have:=Nat.mul_le_mul_right (gR (6-(r.length+1))) (aKv (ps:=ps) (r:=r) hn)
  show _<=1+6*gR (6-(r.length+1));lia
 ·have:lM n ps r=[]:=by
   cases c:lM n ps r with
   |nil=>rfl
   |cons x l=>
    obtain⟨g,gl⟩:=aAJ h x (by rw[c];exact List.mem_cons_self)
    have:=g.len
    lia
  rw[this];exact zx _
def cR:En->Rs Bool:=tsb (op2 ltD (aB 3) (opA bz (aA (jC 2) aF)))
def bR1:En->Ou:=jE 4 (aP (op2 ixD (jC 2) (aB 3)))
def bRL:En->Rs D:=lcD (bh (aO gM (aA (aB 0) (aA (op2 ixD (aB 4) (op1 gn (cD (.int 1)))) aF)))) [none,some 4] (gnm 0) (aEx (tsb (op2 gtD (aB 0) (op2 ixD (aB 1) (cD (.int 0))))) (tsb (op2 (inR true) (aB 0) (aB 1)))) (op2 aV (aP (aB 1)) (aZ (aA (aP (aB 0)) aF)))
def bR3:En->Ou:=ifS (tst (aO gJ (aA (aB 0) (aA (ik 4) aF)))) (pq 1 (ik 4)) Ou.nx
def bR4:En->Ou:=bY 3 (op2 aV (aB 3) (cD (.int 1)))
def bR:En->Ou:=aQ bR1 (aQ (aAh 2 bRL) (aQ bR3 bR4))
theorem uv:eU=aQ (jX 1 (fD aF)) (aQ (jX 2 (lcD (cX dm (aA (op2 ixD (aB 0) (cD (.int 0))) aF)) [none] (gnm 0) bV (aZ (aA (aP (aB 0)) aF)))) (aQ (bY 3 (cD (.int 0))) (aQ (tE cR bR) (retS (nW 1))))):=rfl
section
variable{n:Int}{ps:List (Int×Int)}
theorem aNd(O:Ow n ps)(h:Gr n r)(hl:r.length<=100):bRL [.sh (owD n ps),s1,s2,s3,.nw (tupI r)]= .ok (.lst ((lM n ps r).map tupI)):=by
 obtain⟨e0,e1⟩:=uY h.ne;have hv:aA (aB 0) (aA (op2 ixD (aB 4) (op1 gn (cD (.int 1)))) aF) (shE [.sh (owD n ps),s1,s2,s3,.nw (tupI r)])= .ok [owD n ps,.int (r.getLastD 0)]:=by
  have v2:op2 ixD (aB 4) (op1 gn (cD (.int 1))) (shE [.sh (owD n ps),s1,s2,s3,.nw (tupI r)])= .ok (.int (r.getLastD 0)):=by
   have a1:aB 4 (shE [.sh (owD n ps),s1,s2,s3,.nw (tupI r)])= .ok (.tup (r.map .int)):=rfl;have a2:op1 gn (cD (.int 1)) (shE [.sh (owD n ps),s1,s2,s3,.nw (tupI r)])= .ok (.int (-1)):=by simp
   rw[b8,a1,aH,a2,aH,lH,e1,bC]
  have v1:aB 0 (shE [.sh (owD n ps),s1,s2,s3,.nw (tupI r)])= .ok (owD n ps):=rfl;rw[aX,v1,aH,aX,v2,aH,bQ,aH,aH]
 have hi:bh (aO gM (aA (aB 0) (aA (op2 ixD (aB 4) (op1 gn (cD (.int 1)))) aF))) (shE [.sh (owD n ps),s1,s2,s3,.nw (tupI r)])= .ok ((nbr n ps (r.getLastD 0)).map .int):=by
  rw[yW,eF,hv,aH,xH O,aH];rfl
 have hz:(nbr n ps (r.getLastD 0)).length<=60:=by
  unfold nbr;refine Nat.le_trans (List.length_filter_le _ _) ?_;rw[dF]
  have:=O.n1
  lia
 unfold bRL lM;rw[List.map_map];refine iD hi (by rw[List.length_map];lia) ?_;refine lG (ρ:=stE [none,some 4] (shE [.sh (owD n ps),s1,s2,s3,.nw (tupI r)])) (fg:=gnm 0) (f:=D.int) (g:=tupI∘λ o=>r++[o]) (t:=λ o=>decide (r.headD 0<o)&& !decide (o∈r)) _ λ o _=>⟨[.sh (.int o),.sh (tupI r)],rfl,?_,?_⟩
 ·have t1:tsb (op2 gtD (aB 0) (op2 ixD (aB 1) (cD (.int 0)))) [.sh (.int o),.sh (tupI r)]= .ok (decide (r.headD 0<o)):=by
   have a1:op2 ixD (aB 1) (cD (.int 0)) [.sh (.int o),.sh (tupI r)]= .ok (.int (r.headD 0)):=by
    have a2:aB 1 [.sh (.int o),.sh (tupI r)]= .ok (.tup (r.map .int)):=rfl;rw[b8,a2,aH,vO,aH,lH,e0,bC]
   have a3:aB 0 [.sh (.int o),.sh (tupI r)]= .ok (.int o):=rfl;rw[o6,b8,a3,aH,a1,aH];simp
  have t2:tsb (op2 (inR true) (aB 0) (aB 1)) [.sh (.int o),.sh (tupI r)]= .ok (!decide (o∈r)):=by
   have a2:aB 1 [.sh (.int o),.sh (tupI r)]= .ok (.tup (r.map .int)):=rfl;have a3:aB 0 [.sh (.int o),.sh (tupI r)]= .ok (.int o):=rfl;rw[o6,b8,a3,aH,a2,aH,zq,bC,aH];rfl
  rw[aFr,t1];cases decide (r.headD 0<o)with
  |false=>rfl
  |true=>rw[aH,if_pos rfl,t2];simp
 ·have a1:aP (aB 1) [.sh (.int o),.sh (tupI r)]= .ok (.tup (r.map .int)):=by
   rw[gk]
   show(Rs.ok (tupI r)).bd kO=_
   rw[aH,gY]
  have a2:aZ (aA (aP (aB 0)) aF) [.sh (.int o),.sh (tupI r)]= .ok (.tup [.int o]):=by simp
  have hz2:(r.map D.int).length+[D.int o].length<=16777216:=by rw[List.length_map];simp;lia
  rw[b8,a1,aH,a2,aH,aDq,if_pos hz2,bC];show _=Rs.ok (D.tup ((r++[o]).map .int));rw[List.map_append];rfl
end
theorem zM(l:List Int):pln (tupI l)=true:=by
 have:∀l:List Int,eY (l.map .int)=true:=λ l=>by
  induction l with
  |nil=>rfl
  |cons a l ih=>simp[eY,pln,ih]
 simp[tupI,pln,this]
theorem aIX(h1:c ρ= .ok true)(h2:b ρ= .nx ρ2):itW c b (m+1) ρ=itW c b m ρ2:=by
 rw[itW,h1,cI,if_pos rfl,h2]
theorem aFe(h1:c ρ= .ok false):itW c b (m+1) ρ= .nx ρ:=by
 rw[itW,h1,cI,if_neg Bool.false_ne_true]
section
variable{n:Int}{ps:List (Int×Int)}
abbrev rgE(n:Int)(ps:List (Int×Int))(found rows:List (List Int))(k:Nat)(s4:Slot):En:=[.sh (owD n ps),.ow (.lst (found.map tupI)),.ow (.lst (rows.map tupI)),.sh (.int k),s4]
theorem aLh:cR (rgE n ps found rows k s4)= .ok (decide (k<rows.length)):=by
 unfold cR;have e:decide ((k:Int)<(rows.length:Int))=decide (k<rows.length):=by
  rw[Bool.eq_iff_iff,decide_eq_true_eq,decide_eq_true_eq];lia
 rw[<-e];simp[rgE]
theorem aOj(W:Wb n ps)(h:Gr n r)(h1:done.length+todo.length<=100000)(h2:found.length<=100000):
  bR (rgE n ps found (done++r::todo) done.length s4)= .nx (rgE n ps (if dX n (dbl ps) (tupI r)=true then found++[r]else found) (done++[r]++(todo++lM n ps r)) (done++[r]).length (.nw (tupI r))):=by
 have hn:=W.ow.n1;have hrl:r.length<=60:=by have:=h.len;lia
 have hel:(lM n ps r).length<=60:=by
  unfold lM nbr;rw[List.length_map];refine Nat.le_trans (List.length_filter_le _ _) (Nat.le_trans (List.length_filter_le _ _) ?_);rw[dF];lia
 have b1:bR1 (rgE n ps found (done++r::todo) done.length s4)= .nx (rgE n ps found (done++r::todo) done.length (.nw (tupI r))):=by
  have ha:atD ((done++r::todo).map tupI) (done.length:Int)= .ok (tupI r):=jB (by rw[List.getElem?_map,List.getElem?_append_right (Nat.le_refl _),Nat.sub_self];rfl);have v1:jC 2 (rgE n ps found (done++r::todo) done.length s4)= .ok (.lst ((done++r::todo).map tupI)):=rfl;have v2:aB 3 (rgE n ps found (done++r::todo) done.length s4)= .ok (.int done.length):=rfl;unfold bR1;rw[uW,gk,b8,v1,aH,v2,aH,yV,ha,bC,aH,gY,cI];rfl
 have b2:aAh 2 bRL (rgE n ps found (done++r::todo) done.length (.nw (tupI r)))= .nx (rgE n ps found (done++[r]++(todo++lM n ps r)) done.length (.nw (tupI r))):=by
  have hv:bRL (rgE n ps found (done++r::todo) done.length (.nw (tupI r)))= .ok (.lst ((lM n ps r).map tupI)):=aNd W.ow h (by lia);have hm:(done++[r]++(todo++lM n ps r)).map tupI=(done++r::todo).map tupI++(lM n ps r).map tupI:=by simp
  unfold aAh
  show(match (some (Slot.ow (.lst ((done++r::todo).map tupI))):Option Slot)with
   |some (.ow (.lst ds))=>(bRL (rgE n ps found (done++r::todo) done.length (.nw (tupI r)))).bo (aG9 ds λ l=>.nx ((rgE n ps found (done++r::todo) done.length (.nw (tupI r))).set 2 (.ow (.lst l))))
   |_=>.st)=_
  dsimp only;rw[hv,cI];unfold aG9;dsimp only;rw[if_pos (by rw[List.length_map,List.length_map,sizeLine_eq,List.length_append,List.length_cons];lia),<-hm];rfl
 have b3:bR3 (rgE n ps found (done++[r]++(todo++lM n ps r)) done.length (.nw (tupI r)))= .nx (rgE n ps (if dX n (dbl ps) (tupI r)=true then found++[r]else found) (done++[r]++(todo++lM n ps r)) done.length (.nw (tupI r))):=by
  have e:=xG (n:=n) (d:=tupI r) W.low (zM r) (by simp[uV,tupI];lia);have v:aO gJ (aA (aB 0) (aA (ik 4) aF)) (rgE n ps found (done++[r]++(todo++lM n ps r)) done.length (.nw (tupI r)))= .ok (.bl (dX n (dbl ps) (tupI r))):=by
   have hv:aA (aB 0) (aA (ik 4) aF) (rgE n ps found (done++[r]++(todo++lM n ps r)) done.length (.nw (tupI r)))= .ok [owD n ps,tupI r]:=rfl;rw[eF,hv,aH,e]
  unfold bR3;rw[j6,nZ,v];cases dX n (dbl ps) (tupI r)with
  |false=>rfl
  |true=>
   rw[aH,aB4,cI,if_pos rfl,if_pos rfl];unfold pq
   show(match (some (Slot.ow (.lst (found.map tupI))):Option Slot)with
    |some (.ow (.lst ds))=>(ik 4 (rgE n ps found (done++[r]++(todo++lM n ps r)) done.length (.nw (tupI r)))).bo λ d=>if ds.length<sizeLine then .nx ((rgE n ps found (done++[r]++(todo++lM n ps r)) done.length (.nw (tupI r))).set 1 (.ow (.lst (ds++[d]))))else .st
    |_=>.st)=_
   have hv:ik 4 (rgE n ps found (done++[r]++(todo++lM n ps r)) done.length (.nw (tupI r)))= .ok (tupI r):=rfl;dsimp only;rw[hv,cI,if_pos (by rw[List.length_map,sizeLine_eq];lia)];show Ou.nx [_,Slot.ow (.lst (found.map tupI++[tupI r])),_,_,_]=Ou.nx [_,Slot.ow (.lst ((found++[r]).map tupI)),_,_,_];have em:(found++[r]).map tupI=found.map tupI++[tupI r]:=by simp
   rw[em]
 have b4:∀f rows s,bR4 (rgE n ps f rows done.length s)= .nx (rgE n ps f rows (done++[r]).length s):=λ f rows s=>by
  have e:((done++[r]).length:Int)=(done.length:Int)+1:=by simp
  unfold bR4
  show(((aB 3 (rgE n ps f rows done.length s)).bd λ d=>(cD (.int 1) (rgE n ps f rows done.length s)).bd λ e=>okD (aV d e)).bo λ d=>Ou.nx ((rgE n ps f rows done.length s).set 3 (.sh d)))=Ou.nx [_,_,_,.sh (.int ((done++[r]).length:Int)),_]
  rw[e];have hv:aB 3 (rgE n ps f rows done.length s)= .ok (.int done.length):=rfl;rw[hv];simp
 unfold bR;rw[aM,b1,ak,aM,b2,ak,aM,b3,ak,b4]
theorem aGG(W:Wb n ps)(hn:n<=6):∀(m:Nat) (todo done found:List (List Int)) (s4:Slot),(∀r∈todo,Gr n r)->done.length+phi todo<=60000->found.length<=done.length->(∀r∈found,Gr n r/\dX n (dbl ps) (tupI r)=true)->phi todo<m->
  ∃found' all s4',itW cR bR m (rgE n ps found (done++todo) done.length s4)= .nx (rgE n ps found' all all.length s4')/\found'.length<=60000/\∀r∈found',Gr n r/\dX n (dbl ps) (tupI r)=true:=by
 intro m;induction m with
 |zero=>intro todo done found s4 _ _ _ _ h;lia
 |succ m ih=>
  intro todo done found s4 hg hz hf hgf hm;cases todo with
  |nil=>
   refine⟨found,done,s4,?_,by simp[phi]at hz;lia,hgf⟩;rw[List.append_nil];exact aFe (by rw[aLh];simp)
  |cons r todo=>
   have hr:=hg r List.mem_cons_self;have hx:=aKu (ps:=ps) hn hr;rw[ud]at hz hm;have hpl:=aFX todo;have hgp:=zx (6-r.length);obtain⟨found',all,s4',e1,e2,e3⟩:=ih (todo++lM n ps r) (done++[r]) (if dX n (dbl ps) (tupI r)=true then found++[r]else found) (.nw (tupI r)) (λ x hx=>by
     rcases List.mem_append.mp hx with z|z
     ·exact hg x (List.mem_cons_of_mem _ z)
     ·exact(aAJ hr x z).1) (by rw[yR,List.length_append,List.length_singleton];lia) (by
     rw[List.length_append,List.length_singleton];split
     ·rw[List.length_append,List.length_singleton];lia
     ·lia) (λ x hx=>by
     split at hx
     ·rename_i hw
      rcases List.mem_append.mp hx with z|z
      ·exact hgf x z
      ·rw[List.mem_singleton]at z
       subst z;exact⟨hr,hw⟩
     ·exact hgf x hx) (by rw[yR];lia)
   refine⟨found',all,s4',?_,e2,e3⟩;rw[aIX (by rw[aLh];simp) (aOj W hr (by lia) (by lia))];exact e1
theorem aCZ(W:Wb n ps)(hn:n<=6):∃found:List (List Int),gU [owD n ps]= .ok (.lst (found.map tupI))/\found.length<=60000/\∀r∈found,Gr n r/\dX n (dbl ps) (tupI r)=true:=by
 have h0:=W.ow.n0;have st:bF 5 [owD n ps]=[.sh (owD n ps),.no,.no,.no,.no]:=rfl;have hr:=gB (j:=n) (by lia) (by lia);have g1:∀r∈(bB n).map λ x=>[x],Gr n r:=λ r hr=>by
  obtain⟨x,hx,rfl⟩:=List.mem_map.mp hr;exact⟨by simp,by simp,λ y hy=>by rw[List.mem_singleton]at hy;subst hy;exact oK.mp hx⟩
 have hphi:phi ((bB n).map λ x=>[x])<=55986:=by
  rw[zN (k:=1) _ λ r hr=>by obtain⟨x,_,rfl⟩:=List.mem_map.mp hr;rfl,List.length_map,dF]
  have:n.toNat<=6:=by lia
  have e:gR (6-1)=9331:=by decide
  rw[e];lia
 obtain⟨found,all,s4,e,e2,e3⟩:=aGG W hn fuel ((bB n).map λ x=>[x]) [] [] .no g1 (by simp;lia) (by simp) (λ r hr=>by simp at hr) (by unfold fuel;lia);refine⟨found,?_,e2,e3⟩;have a1:jX 1 (fD aF) [.sh (owD n ps),.no,.no,.no,.no]= .nx [.sh (owD n ps),.ow (.lst []),.no,.no,.no]:=by simp
 have hc:lcD (cX dm (aA (op2 ixD (aB 0) (cD (.int 0))) aF)) [none] (gnm 0) bV (aZ (aA (aP (aB 0)) aF)) [.sh (owD n ps),.ow (.lst []),.no,.no,.no]= .ok (.lst (((bB n).map λ x=>[x]).map tupI)):=by
  rw[List.map_map];refine iD (ds:=(bB n).map .int) (by simp[shE,rR,owD,hr,gW]) (by rw[List.length_map,dF];lia) ?_;exact uH (ρ:=stE [none] (shE [.sh (owD n ps),.ow (.lst []),.no,.no,.no])) (fg:=gnm 0) (f:=D.int) (g:=tupI∘λ x=>[x]) (bB n) λ x _=>⟨[.sh (.int x)],rfl,by simp[tupI]⟩
 have a2:jX 2 (lcD (cX dm (aA (op2 ixD (aB 0) (cD (.int 0))) aF)) [none] (gnm 0) bV (aZ (aA (aP (aB 0)) aF))) [.sh (owD n ps),.ow (.lst []),.no,.no,.no]= .nx [.sh (owD n ps),.ow (.lst []),.ow (.lst (((bB n).map λ x=>[x]).map tupI)),.no,.no]:=by
  rw[yN,hc,cI];rfl
 have a3:bY 3 (cD (.int 0)) [.sh (owD n ps),.ow (.lst []),.ow (.lst (((bB n).map λ x=>[x]).map tupI)),.no,.no]= .nx (rgE n ps [] ((bB n).map λ x=>[x]) 0 .no):=by simp[rgE]
 have a4:tE cR bR (rgE n ps [] ((bB n).map λ x=>[x]) 0 .no)= .nx (rgE n ps found all all.length s4):=e;have a5:retS (nW 1) (rgE n ps found all all.length s4)= .rt (.lst (found.map tupI)):=rfl;simp only[gU,uv,bG,st];rw[aM,a1,ak,aM,a2,ak,aM,a3,ak,aM,a4,ak,a5]
end
def uI(n:Int)(ps:List (Int×Int))(r:List Int):List (List Int):=((nbr n ps (r.getLastD 0)).filter λ o=>!decide (o∈r)).map λ o=>r++[o]
theorem wV(h:Gr n r):∀x∈uI n ps r,Gr n x/\x.length=r.length+1:=by
 intro x hx;obtain⟨o,ho,rfl⟩:=List.mem_map.mp hx;obtain⟨h1,h2⟩:=List.mem_filter.mp ho;have h3:=oK.mp (List.mem_filter.mp h1).1;simp only[Bool.not_eq_true',decide_eq_false_iff_not]at h2;refine⟨⟨by simp,List.nodup_append.mpr ⟨h.nd,by simp,λ a ha b hb e=>?_⟩,λ y hy=>?_⟩,by simp⟩
 ·rw[List.mem_singleton]at hb
  subst hb e;exact h2 ha
 ·rcases List.mem_append.mp hy with z|z
  ·exact h.lo y z
  ·rw[List.mem_singleton]at z
   subst z;exact h3
theorem aD2:(uI n ps r).length<=n.toNat:=by
 unfold uI nbr;rw[List.length_map];refine Nat.le_trans (List.length_filter_le _ _) (Nat.le_trans (List.length_filter_le _ _) ?_);rw[dF];exact Nat.le_refl _
theorem aIq(hn:n<=6)(h:Gr n r):phi (uI n ps r)+1<=gR (6-r.length):=by
 have hl:=h.len;have e:=zN (k:=r.length+1) (uI n ps r) λ x hx=>(wV h x hx).2
 by_cases h6:r.length<6
 ·rw[e,show 6-r.length=(6-(r.length+1))+1 by lia]
  have:=Nat.mul_le_mul_right (gR (6-(r.length+1))) (Nat.le_trans (aD2 (ps:=ps) (r:=r)) (show n.toNat<=6 by lia))
  show _<=1+6*gR (6-(r.length+1));lia
 ·have:uI n ps r=[]:=by
   cases c:uI n ps r with
   |nil=>rfl
   |cons x l=>
    obtain⟨g,gl⟩:=wV h x (by rw[c];exact List.mem_cons_self)
    have:=g.len
    lia
  rw[this];exact zx _
def cW:En->Rs Bool:=tsb (op2 ltD (aB 2) (opA bz (aA (jC 1) aF)))
def bW1:En->Ou:=jE 3 (aP (op2 ixD (jC 1) (aB 2)))
def bWL:En->Rs D:=lcD (bh (aO gM (aA (aB 0) (aA (op2 ixD (aB 3) (op1 gn (cD (.int 1)))) aF)))) [none,some 3] (gnm 0) (tsb (op2 (inR true) (aB 0) (aB 1))) (op2 aV (aP (aB 1)) (aZ (aA (aP (aB 0)) aF)))
def bW4:En->Ou:=bY 2 (op2 aV (aB 2) (cD (.int 1)))
def bW:En->Ou:=aQ bW1 (aQ (aAh 1 bWL) bW4)
def rW:En->Rs D:=lcD (bh (aB 1)) [none] (gnm 0) (tsb (op2 leD (op2 ixD (aB 0) (cD (.int 0))) (op2 ixD (aB 0) (op1 gn (cD (.int 1)))))) (aP (aB 0))
theorem aC4:dG=aQ (jX 1 (lcD (cX dm (aA (op2 ixD (aB 0) (cD (.int 0))) aF)) [none] (gnm 0) bV (aZ (aA (aP (aB 0)) aF)))) (aQ (bY 2 (cD (.int 0))) (aQ (tE cW bW) (retS rW))):=rfl
abbrev wyE(n:Int)(ps:List (Int×Int))(rows:List (List Int))(k:Nat)(s:Slot):En:=[.sh (owD n ps),.ow (.lst (rows.map tupI)),.sh (.int k),s]
theorem aLg:cW (wyE n ps rows k s)= .ok (decide (k<rows.length)):=by
 unfold cW;have e:decide ((k:Int)<(rows.length:Int))=decide (k<rows.length):=by
  rw[Bool.eq_iff_iff,decide_eq_true_eq,decide_eq_true_eq];lia
 rw[<-e];simp[wyE]
section
variable{n:Int}{ps:List (Int×Int)}
theorem aNc(O:Ow n ps)(h:Gr n r)(hl:r.length<=100):bWL [.sh (owD n ps),s1,s2,.nw (tupI r)]= .ok (.lst ((uI n ps r).map tupI)):=by
 obtain⟨e0,e1⟩:=uY h.ne;have hv:aA (aB 0) (aA (op2 ixD (aB 3) (op1 gn (cD (.int 1)))) aF) (shE [.sh (owD n ps),s1,s2,.nw (tupI r)])= .ok [owD n ps,.int (r.getLastD 0)]:=by
  have v2:op2 ixD (aB 3) (op1 gn (cD (.int 1))) (shE [.sh (owD n ps),s1,s2,.nw (tupI r)])= .ok (.int (r.getLastD 0)):=by
   have a1:aB 3 (shE [.sh (owD n ps),s1,s2,.nw (tupI r)])= .ok (.tup (r.map .int)):=rfl;have a2:op1 gn (cD (.int 1)) (shE [.sh (owD n ps),s1,s2,.nw (tupI r)])= .ok (.int (-1)):=by simp
   rw[b8,a1,aH,a2,aH,lH,e1,bC]
  have v1:aB 0 (shE [.sh (owD n ps),s1,s2,.nw (tupI r)])= .ok (owD n ps):=rfl;rw[aX,v1,aH,aX,v2,aH,bQ,aH,aH]
 have hi:bh (aO gM (aA (aB 0) (aA (op2 ixD (aB 3) (op1 gn (cD (.int 1)))) aF))) (shE [.sh (owD n ps),s1,s2,.nw (tupI r)])= .ok ((nbr n ps (r.getLastD 0)).map .int):=by
  rw[yW,eF,hv,aH,xH O,aH];rfl
 have hz:(nbr n ps (r.getLastD 0)).length<=60:=by
  unfold nbr;refine Nat.le_trans (List.length_filter_le _ _) ?_;rw[dF]
  have:=O.n1
  lia
 unfold bWL uI;rw[List.map_map];refine iD hi (by rw[List.length_map];lia) ?_;refine lG (ρ:=stE [none,some 3] (shE [.sh (owD n ps),s1,s2,.nw (tupI r)])) (fg:=gnm 0) (f:=D.int) (g:=tupI∘λ o=>r++[o]) (t:=λ o=>!decide (o∈r)) _ λ o _=>⟨[.sh (.int o),.sh (tupI r)],rfl,?_,?_⟩
 ·have a2:aB 1 [.sh (.int o),.sh (tupI r)]= .ok (.tup (r.map .int)):=rfl
  have a3:aB 0 [.sh (.int o),.sh (tupI r)]= .ok (.int o):=rfl;rw[o6,b8,a3,aH,a2,aH,zq,bC,aH];rfl
 ·have h1:r.length+1<=16777216:=by lia
  simp[tupI,h1,kO,imm,rK]
theorem aOi(W:Wb n ps)(h:Gr n r)(h1:done.length+todo.length<=100000):
  bW (wyE n ps (done++r::todo) done.length s)= .nx (wyE n ps (done++[r]++(todo++uI n ps r)) (done++[r]).length (.nw (tupI r))):=by
 have hn:=W.ow.n1;have hrl:r.length<=60:=by have:=h.len;lia
 have hel:=aD2 (n:=n) (ps:=ps) (r:=r);have b1:bW1 (wyE n ps (done++r::todo) done.length s)= .nx (wyE n ps (done++r::todo) done.length (.nw (tupI r))):=by
  have ha:atD ((done++r::todo).map tupI) (done.length:Int)= .ok (tupI r):=jB (by rw[List.getElem?_map,List.getElem?_append_right (Nat.le_refl _),Nat.sub_self];rfl);have v1:jC 1 (wyE n ps (done++r::todo) done.length s)= .ok (.lst ((done++r::todo).map tupI)):=rfl;have v2:aB 2 (wyE n ps (done++r::todo) done.length s)= .ok (.int done.length):=rfl;unfold bW1;rw[uW,gk,b8,v1,aH,v2,aH,yV,ha,bC,aH,gY,cI];rfl
 have b2:aAh 1 bWL (wyE n ps (done++r::todo) done.length (.nw (tupI r)))= .nx (wyE n ps (done++[r]++(todo++uI n ps r)) done.length (.nw (tupI r))):=by
  have hv:bWL (wyE n ps (done++r::todo) done.length (.nw (tupI r)))= .ok (.lst ((uI n ps r).map tupI)):=aNc W.ow h (by lia);have hm:(done++[r]++(todo++uI n ps r)).map tupI=(done++r::todo).map tupI++(uI n ps r).map tupI:=by simp
  unfold aAh
  show(match (some (Slot.ow (.lst ((done++r::todo).map tupI))):Option Slot)with
   |some (.ow (.lst ds))=>(bWL (wyE n ps (done++r::todo) done.length (.nw (tupI r)))).bo (aG9 ds λ l=>.nx ((wyE n ps (done++r::todo) done.length (.nw (tupI r))).set 1 (.ow (.lst l))))
   |_=>.st)=_
  dsimp only;rw[hv,cI];unfold aG9;dsimp only;rw[if_pos (by rw[List.length_map,List.length_map,sizeLine_eq,List.length_append,List.length_cons];lia),<-hm];rfl
 have b4:∀rows s,bW4 (wyE n ps rows done.length s)= .nx (wyE n ps rows (done++[r]).length s):=λ rows s=>by
  have e:((done++[r]).length:Int)=(done.length:Int)+1:=by simp
  unfold bW4
  show(((aB 2 (wyE n ps rows done.length s)).bd λ d=>(cD (.int 1) (wyE n ps rows done.length s)).bd λ e=>okD (aV d e)).bo λ d=>Ou.nx ((wyE n ps rows done.length s).set 2 (.sh d)))=Ou.nx [_,_,.sh (.int ((done++[r]).length:Int)),_]
  rw[e];have hv:aB 2 (wyE n ps rows done.length s)= .ok (.int done.length):=rfl;rw[hv];simp
 unfold bW;rw[aM,b1,ak,aM,b2,ak,b4]
theorem aGw(W:Wb n ps)(hn:n<=6):∀(m:Nat) (todo done:List (List Int)) (s:Slot),(∀r∈todo,Gr n r)->(∀r∈done,Gr n r)->done.length+phi todo<=60000->phi todo<m->
  ∃all s',itW cW bW m (wyE n ps (done++todo) done.length s)= .nx (wyE n ps all all.length s')/\all.length<=60000/\∀r∈all,Gr n r:=by
 intro m;induction m with
 |zero=>intro todo done s _ _ _ h;lia
 |succ m ih=>
  intro todo done s hg hd hz hm;cases todo with
  |nil=>
   refine⟨done,s,?_,by simp[phi]at hz;lia,hd⟩;rw[List.append_nil];exact aFe (by rw[aLg];simp)
  |cons r todo=>
   have hr:=hg r List.mem_cons_self;have hx:=aIq (ps:=ps) hn hr;rw[ud]at hz hm;have hpl:=aFX todo;have hgp:=zx (6-r.length);obtain⟨all,s',e1,e2,e3⟩:=ih (todo++uI n ps r) (done++[r]) (.nw (tupI r)) (λ x hx=>by
     rcases List.mem_append.mp hx with z|z
     ·exact hg x (List.mem_cons_of_mem _ z)
     ·exact(wV hr x z).1) (λ x hx=>by
     rcases List.mem_append.mp hx with z|z
     ·exact hd x z
     ·rw[List.mem_singleton]at z
      subst z;exact hr) (by rw[yR,List.length_append,List.length_singleton];lia) (by rw[yR];lia)
   refine⟨all,s',?_,e2,e3⟩;rw[aIX (by rw[aLg];simp) (aOi W hr (by lia))];exact e1
theorem aDv(W:Wb n ps)(hn:n<=6):∃found:List (List Int),eG [owD n ps]= .ok (.lst (found.map tupI))/\found.length<=60000/\∀r∈found,Gr n r:=by
 have h0:=W.ow.n0;have st:bF 4 [owD n ps]=[.sh (owD n ps),.no,.no,.no]:=rfl;have hr:=gB (j:=n) (by lia) (by lia);have g1:∀r∈(bB n).map λ x=>[x],Gr n r:=λ r hr=>by
  obtain⟨x,hx,rfl⟩:=List.mem_map.mp hr;exact⟨by simp,by simp,λ y hy=>by rw[List.mem_singleton]at hy;subst hy;exact oK.mp hx⟩
 have hphi:phi ((bB n).map λ x=>[x])<=55986:=by
  rw[zN (k:=1) _ λ r hr=>by obtain⟨x,_,rfl⟩:=List.mem_map.mp hr;rfl,List.length_map,dF]
  have:n.toNat<=6:=by lia
  have e:gR (6-1)=9331:=by decide
  rw[e];lia
 obtain⟨all,s,e,e2,e3⟩:=aGw W hn fuel ((bB n).map λ x=>[x]) [] .no g1 (λ r hr=>by simp at hr) (by simp;lia) (by unfold fuel;lia);refine⟨all.filter λ r=>decide (r.headD 0<=r.getLastD 0),?_,Nat.le_trans (List.length_filter_le _ _) e2,λ r hr=>e3 r (List.mem_filter.mp hr).1⟩;have hc:lcD (cX dm (aA (op2 ixD (aB 0) (cD (.int 0))) aF)) [none] (gnm 0) bV (aZ (aA (aP (aB 0)) aF)) [.sh (owD n ps),.no,.no,.no]= .ok (.lst (((bB n).map λ x=>[x]).map tupI)):=by
  rw[List.map_map];refine iD (ds:=(bB n).map .int) (by simp[shE,rR,owD,hr,gW]) (by rw[List.length_map,dF];lia) ?_;exact uH (ρ:=stE [none] (shE [.sh (owD n ps),.no,.no,.no])) (fg:=gnm 0) (f:=D.int) (g:=tupI∘λ x=>[x]) (bB n) λ x _=>⟨[.sh (.int x)],rfl,by simp[tupI]⟩
 have a2:jX 1 (lcD (cX dm (aA (op2 ixD (aB 0) (cD (.int 0))) aF)) [none] (gnm 0) bV (aZ (aA (aP (aB 0)) aF))) [.sh (owD n ps),.no,.no,.no]= .nx [.sh (owD n ps),.ow (.lst (((bB n).map λ x=>[x]).map tupI)),.no,.no]:=by
  rw[yN,hc,cI];rfl
 have a3:bY 2 (cD (.int 0)) [.sh (owD n ps),.ow (.lst (((bB n).map λ x=>[x]).map tupI)),.no,.no]= .nx (wyE n ps ((bB n).map λ x=>[x]) 0 .no):=by simp[wyE]
 have a4:tE cW bW (wyE n ps ((bB n).map λ x=>[x]) 0 .no)= .nx (wyE n ps all all.length s):=e;have a5:rW (wyE n ps all all.length s)= .ok (.lst ((all.filter λ r=>decide (r.headD 0<=r.getLastD 0)).map tupI)):=by
  unfold rW;refine iD (ds:=all.map tupI) (by simp[shE,rR]) (by rw[List.length_map];lia) ?_;refine lG (ρ:=stE [none] (shE (wyE n ps all all.length s))) (fg:=gnm 0) (f:=tupI) (g:=tupI) (t:=λ r=>decide (r.headD 0<=r.getLastD 0)) _ λ r hr=>⟨[.sh (tupI r)],rfl,?_,?_⟩
  ·obtain⟨e0,e1⟩:=uY (e3 r hr).ne
   have a2:aB 0 [.sh (tupI r)]= .ok (.tup (r.map .int)):=rfl;have v1:op2 ixD (aB 0) (cD (.int 0)) [.sh (tupI r)]= .ok (.int (r.headD 0)):=by rw[b8,a2,aH,vO,aH,lH,e0,bC]
   have v2:op2 ixD (aB 0) (op1 gn (cD (.int 1))) [.sh (tupI r)]= .ok (.int (r.getLastD 0)):=by
    have n1:op1 gn (cD (.int 1)) [.sh (tupI r)]= .ok (.int (-1)):=by simp
    rw[b8,a2,aH,n1,aH,lH,e1,bC]
   rw[o6,b8,v1,aH,v2,aH];simp
  ·have a2:aB 0 [.sh (tupI r)]= .ok (tupI r):=rfl
   rw[gk,a2,aH,gY]
 simp only[eG,aC4,bG,st];rw[aM,a2,ak,aM,a3,ak,aM,a4,ak,dg,a5];rfl
end
def pcD(q:List Int×Int):D:=.tup [tupI q.1,.int q.2]
def dsC:En->Rs Bool:=tsb (op2 (eqR false) (lcD (bh (aB 6)) [none,some 3] (gnm 0) (tsb (op2 (inR true) (aB 0) (aB 1))) (aP (aB 0))) (fD aF))
def dsR:En->Rs Bool:=tsb (op2 (eqR false) (aO aY (aA (aB 0) (aA (op2 aV (cD (.int 30)) (op2 p8 (aB 5) (cD (.int 60)))) (aA (cD (.int 4)) aF)))) (cD (.int 0)))
def dsA:En->Ou:=oV 4 (aB 7) (aP (aB 6))
def dsF:En->Ou:=jE 3 (lcD (bh (aB 3)) [none,some 6] (gnm 0) (tsb (op2 (inR true) (aB 0) (aB 1))) (aP (aB 0)))
def dsB:En->Ou:=ifS (aEx dsC dsR) (aQ dsA dsF) Ou.nx
def dsG:D->En->Rs En:=lL 2 (cH (gnm 5) (cH (lL 2 (cH (gnm 6) (cH (gnm 7) mU))) mU))
def aN6:En->Rs D:=lcD (bh (aO gU (aA (aB 1) aF))) [none] (gnm 0) bV (aZ (aA (aP (aB 0)) (aA (cD (.int 1)) aF)))
def aN5:En->Rs D:=lcD (bh (aO eG (aA (aB 1) aF))) [none] (gnm 0) (tsb (op2 gtD (opA bz (aA (aB 0) aF)) (cD (.int 1)))) (aZ (aA (aP (aB 0)) (aA (cD (.int 0)) aF)))
def dsL:En->Rs D:=lcD (bh (aB 3)) [none] (gnm 0) bV (aZ (aA (aP (aB 0)) aF))
def dsE:En->Rs D:=aZ (aA (opA dq (aA (opA lw (aA (op2 aV (op2 ixD (jC 4) (cD (.int 0))) dsL) aF)) aF)) (aA (opA dq (aA (opA lw (aA (op2 ixD (jC 4) (cD (.int 1))) aF)) aF)) aF))
theorem wX:dH=aQ (jE 2 (op2 aV aN6 aN5)) (aQ (jE 3 (lrD (op2 ixD (aB 1) (cD (.int 0))))) (aQ (aGX 4 2) (aQ (iH (cX aD6 (aA (ik 2) aF)) dsG dsB) (retS dsE)))):=rfl
theorem gP:∀{l:List (List Int)},(∀r∈l,r≠[])->l.length<=l.flatten.length:=by
 intro l;induction l with
 |nil=>intro _;simp
 |cons a l ih=>
  intro h;have h1:0<a.length:=List.length_pos_iff.mpr (h a List.mem_cons_self)
  have:=ih λ x hx=>h x (List.mem_cons_of_mem _ hx)
  rw[List.flatten_cons,List.length_append,List.length_cons];lia
theorem aAs(h:∀r∈f,r≠[])(hl:f.length<64):lw [.lst (f.map tupI)]= .ok (.lst ((lA f).map tupI)):=by
 unfold lw;dsimp only;rw[tG h];dsimp only;rw[if_pos hl]
section
variable{c n:Int}{ps:List (Int×Int)}{P:D}
abbrev dsN(c n:Int)(ps:List (Int×Int))(P:D)(left:List Int)(f0 f1:List (List Int))(s5 s6 s7:Slot):En:=
 [.sh (.int c),.sh (owD n ps),.nw P,.nw (.lst (left.map .int)),.o2 [f0.map tupI,f1.map tupI],s5,s6,s7]
structure Lf(n:Int)(left:List Int)(f0 f1:List (List Int)):Prop where
 nd:left.Nodup
 few:left.length+f0.flatten.length+f1.flatten.length<=n.toNat
 n0:∀r∈f0,r≠[]
 n1:∀r∈f1,r≠[]
theorem aDD{i j:Nat}{l m:List Int}(hf:f (shE ρ)= .ok (l.map .int))(hs:stE js (shE ρ)=[.no,.sh (.tup (m.map .int))]\/stE js (shE ρ)=[.no,.sh (.lst (m.map .int))])(hl:l.length<=1000):
  lcD f js (gnm 0) (tsb (op2 (inR true) (aB 0) (aB 1))) (aP (aB 0)) ρ= .ok (.lst ((l.filter λ x=>!decide (x∈m)).map .int)):=by
 refine iD hf (by rw[List.length_map];lia) ?_;rcases hs with hs|hs<;>rw[hs]
 ·refine lG (fg:=gnm 0) (f:=D.int) (g:=D.int) (t:=λ x=>!decide (x∈m)) l λ x _=>⟨[.sh (.int x),.sh (.tup (m.map .int))],rfl,?_,by simp⟩
  have a2:aB 1 [.sh (.int x),.sh (.tup (m.map .int))]= .ok (.tup (m.map .int)):=rfl;have a3:aB 0 [.sh (.int x),.sh (.tup (m.map .int))]= .ok (.int x):=rfl;rw[o6,b8,a3,aH,a2,aH,zq,bC,aH];rfl
 ·refine lG (fg:=gnm 0) (f:=D.int) (g:=D.int) (t:=λ x=>!decide (x∈m)) l λ x _=>⟨[.sh (.int x),.sh (.lst (m.map .int))],rfl,?_,by simp⟩
  have a2:aB 1 [.sh (.int x),.sh (.lst (m.map .int))]= .ok (.lst (m.map .int)):=rfl;have a3:aB 0 [.sh (.int x),.sh (.lst (m.map .int))]= .ok (.int x):=rfl;rw[o6,b8,a3,aH,a2,aH,yZ,bC,aH];rfl
theorem aIs(l:List Int):eqR false (.lst (l.map .int)) (.lst [])= .ok (.bl l.isEmpty):=by
 obtain⟨h1,h2⟩:=mz l;have e:eqD (.lst (l.map .int)) (.lst [])=l.isEmpty:=by cases l<;>simp[eqD,pL]
 unfold eqR;simp[bx,cP,sO,h1,h2,e]
theorem aG0{left r:List Int}(hr:r.Nodup)(hs:∀x∈r,x∈left):(left.filter λ x=>!decide (x∈r)).length+r.length<=left.length:=by
 have h1:r.length<=(left.filter λ x=>decide (x∈r)).length:=sub_len hr λ x hx=>List.mem_filter.mpr ⟨hs x hx,decide_eq_true hx⟩
 have h2:(left.filter λ x=>decide (x∈r)).length+(left.filter λ x=>!decide (x∈r)).length=left.length:=by
  clear h1 hs hr;induction left with
  |nil=>rfl
  |cons a l ih=>
   by_cases h:a∈r
   ·rw[List.filter_cons_of_pos (by simpa using h),List.filter_cons_of_neg (by simpa using h),List.length_cons,List.length_cons];lia
   ·rw[List.filter_cons_of_neg (by simpa using h),List.filter_cons_of_pos (by simpa using h),List.length_cons,List.length_cons];lia
 lia
theorem aIv{left:List Int}{f0 f1:List (List Int)}(hl:left.length<=60):dsF (dsN c n ps P left f0 f1 s5 (.sh (tupI r)) s7)= .nx (dsN c n ps P (left.filter λ x=>!decide (x∈r)) f0 f1 s5 (.sh (tupI r)) s7):=by
 have e1:lcD (bh (aB 3)) [none,some 6] (gnm 0) (tsb (op2 (inR true) (aB 0) (aB 1))) (aP (aB 0)) (dsN c n ps P left f0 f1 s5 (.sh (tupI r)) s7)= .ok (.lst ((left.filter λ x=>!decide (x∈r)).map .int)):=
  aDD (i:=0) (j:=0) (l:=left) (m:=r) rfl (.inl rfl) (by lia)
 unfold dsF;rw[uW,e1,cI];rfl
theorem aIw{left:List Int}{f0 f1:List (List Int)}{k j:Int}{q:Nat}{g:List (List Int)}(ea:at2 [f0.map tupI,f1.map tupI] (.int k)=some (q,g.map tupI))(es:[f0.map tupI,f1.map tupI].set q (g.map tupI++[tupI r])=[f0'.map tupI,f1'.map tupI])(hl:g.length<1000):
  dsA (dsN c n ps P left f0 f1 s5 (.sh (tupI r)) (.sh (.int k)))= .nx (dsN c n ps P left f0' f1' s5 (.sh (tupI r)) (.sh (.int k))):=by
 have v6:aP (aB 6) (dsN c n ps P left f0 f1 s5 (.sh (tupI r)) (.sh (.int k)))= .ok (tupI r):=by
  rw[gk]
  show(Rs.ok (tupI r)).bd kO=_
  rw[aH,gY]
 unfold dsA oV
 show((aB 7 (dsN c n ps P left f0 f1 s5 (.sh (tupI r)) (.sh (.int k)))).bo λ k'=>match at2 [f0.map tupI,f1.map tupI] k' with
  |some (j,ds)=>(aP (aB 6) (dsN c n ps P left f0 f1 s5 (.sh (tupI r)) (.sh (.int k)))).bo λ d=>if ds.length<sizeLine then .nx ((dsN c n ps P left f0 f1 s5 (.sh (tupI r)) (.sh (.int k))).set 4 (.o2 ([f0.map tupI,f1.map tupI].set j (ds++[d]))))else .st
  |none=>.st)=_
 have v7:aB 7 (dsN c n ps P left f0 f1 s5 (.sh (tupI r)) (.sh (.int k)))= .ok (.int k):=rfl;rw[v7,cI,ea];dsimp only;rw[v6,cI,if_pos (by rw[List.length_map,sizeLine_eq];lia),es];rfl
theorem aN4{left:List Int}{f0 f1:List (List Int)}(hn:n<=60)(hi:i<200000)(h:Lf n left f0 f1)(hr:Gr n r)(hk:k=0\/k=1):
  ∃ρ',okE (dsG (.tup [.int i,pcD (r,k)]) (dsN c n ps P left f0 f1 s5 s6 s7)) dsB= .nx ρ'/\∃left' f0' f1' s5' s6' s7',ρ'=dsN c n ps P left' f0' f1' s5' s6' s7'/\Lf n left' f0' f1':=by
 have hrl:=hr.len;have hfew:=h.few;have hg:okE (dsG (.tup [.int i,pcD (r,k)]) (dsN c n ps P left f0 f1 s5 s6 s7)) dsB=dsB (dsN c n ps P left f0 f1 (.sh (.int i)) (.sh (tupI r)) (.sh (.int k))):=by
  have:dsG (.tup [.int i,pcD (r,k)]) (dsN c n ps P left f0 f1 s5 s6 s7)= .ok (dsN c n ps P left f0 f1 (.sh (.int i)) (.sh (tupI r)) (.sh (.int k))):=by
   unfold dsG pcD;simp
  rw[this,kj]
 have c1:dsC (dsN c n ps P left f0 f1 (.sh (.int i)) (.sh (tupI r)) (.sh (.int k)))= .ok (r.filter λ x=>!decide (x∈left)).isEmpty:=by
  have e1:lcD (bh (aB 6)) [none,some 3] (gnm 0) (tsb (op2 (inR true) (aB 0) (aB 1))) (aP (aB 0)) (dsN c n ps P left f0 f1 (.sh (.int i)) (.sh (tupI r)) (.sh (.int k)))= .ok (.lst ((r.filter λ x=>!decide (x∈left)).map .int)):=
   aDD (i:=0) (j:=0) (l:=r) (m:=left) rfl (.inr rfl) (by lia)
  have e2:fD aF (dsN c n ps P left f0 f1 (.sh (.int i)) (.sh (tupI r)) (.sh (.int k)))= .ok (.lst []):=by simp
  unfold dsC;rw[o6,b8,e1,aH,e2,aH,aIs,bC,aH];rfl
 obtain⟨q,eq,_⟩:=jA (c:=c) (k:=30+(i:Int)%60) (b:=4) (by lia) (by lia) (by decide) (by decide);have c2:∃b,dsR (dsN c n ps P left f0 f1 (.sh (.int i)) (.sh (tupI r)) (.sh (.int k)))= .ok b:=by
  unfold dsR;simp[mL,eq]
 obtain⟨b,c2⟩:=c2;have c3:aEx dsC dsR (dsN c n ps P left f0 f1 (.sh (.int i)) (.sh (tupI r)) (.sh (.int k)))= .ok ((r.filter λ x=>!decide (x∈left)).isEmpty&&b):=by
  rw[aFr,c1,c2];cases (r.filter λ x=>!decide (x∈left)).isEmpty<;>simp
 rw[hg];unfold dsB;rw[j6,c3,cI];cases hc:((r.filter λ x=>!decide (x∈left)).isEmpty&&b)with
 |false=>exact⟨_,rfl,left,f0,f1,_,_,_,rfl,h⟩
 |true=>
  rw[if_pos rfl];have hsub:∀x∈r,x∈left:=λ x hx=>by
   have:=(Bool.and_eq_true_iff.mp hc).1
   rw[List.isEmpty_iff,List.filter_eq_nil_iff]at this
   have:=this x hx
   simpa using this
  have hless:=aG0 hr.nd hsub;have hnd':(left.filter λ x=>!decide (x∈r)).Nodup:=h.nd.filter _;have hf0:=gP h.n0;have hf1:=gP h.n1;have add:∀f:List (List Int),(∀x∈f,x≠[])->∀x∈f++[r],x≠[]:=λ f hf x hx=>by
   rcases List.mem_append.mp hx with z|z
   ·exact hf x z
   ·rw[List.mem_singleton]at z;subst z;exact hr.ne
  rcases hk with rfl|rfl
  ·have ha:=aIw (c:=c) (n:=n) (ps:=ps) (P:=P) (left:=left) (f0:=f0) (f1:=f1) (f0':=f0++[r]) (f1':=f1) (k:=0) (j:=0) (q:=0) (g:=f0) (r:=r) (s5:=.sh (.int i)) rfl (by simp) (by lia)
   refine⟨_,by rw[aM,ha,ak,aIv (by lia)],_,f0++[r],f1,_,_,_,rfl,hnd',?_,add f0 h.n0,h.n1⟩;rw[List.flatten_append,List.length_append,List.flatten_singleton];lia
  ·have ha:=aIw (c:=c) (n:=n) (ps:=ps) (P:=P) (left:=left) (f0:=f0) (f1:=f1) (f0':=f0) (f1':=f1++[r]) (k:=1) (j:=0) (q:=1) (g:=f1) (r:=r) (s5:=.sh (.int i)) rfl (by simp) (by lia)
   refine⟨_,by rw[aM,ha,ak,aIv (by lia)],_,f0,f1++[r],_,_,_,rfl,hnd',?_,h.n0,add f1 h.n1⟩;rw[List.flatten_append,List.length_append,List.flatten_singleton];lia
end
def rpD(f0 f1:List (List Int)):D:=.tup [.tup (f0.map tupI),.tup (f1.map tupI)]
structure Sp(f0 f1:List (List Int)):Prop where
 few:f0.flatten.length+f1.flatten.length<=6
 n0:∀r∈f0,r≠[]
 n1:∀r∈f1,r≠[]
theorem zy:∀l:List Int,(l.map λ x=>[x]).flatten=l
 |[]=>rfl
 |x::l=>by rw[List.map_cons,List.flatten_cons,zy l];rfl
theorem aAy{l m:List (List Int)}(h:l.Perm m):l.flatten.length=m.flatten.length:=h.flatten.length_eq
theorem yK(W:Wb n ps)(hn:n<=6):∃f0 f1,dM [.int c,owD n ps]= .ok (rpD f0 f1)/\Sp f0 f1:=by
 obtain⟨rings,ef,hfl,hfg⟩:=aCZ W hn;obtain⟨ways,eg,hgl,hgg⟩:=aDv W hn;have h0:=W.ow.n0;obtain⟨E,hE⟩:∃E:En,E=[.sh (.int c),.sh (owD n ps),.no,.no,.no,.no,.no,.no]:=⟨_,rfl⟩
 have st:bF 8 [.int c,owD n ps]=E:=by rw[hE];rfl
 have hv:aA (aB 1) aF (shE E)= .ok [owD n ps]:=by rw[hE];rfl
 have hm:∀(r:List Int) (k:Int),aZ (aA (aP (aB 0)) (aA (cD (.int k)) aF)) [.sh (tupI r)]= .ok (pcD (r,k)):=λ r k=>by
  have hv:aP (aB 0) [.sh (tupI r)]= .ok (tupI r):=by
   rw[gk]
   show(Rs.ok (tupI r)).bd kO=_
   rw[aH,gY]
  rw[nJ,aX,hv,aH,aX,vO,aH,bQ,aH,aH,aH,if_pos (by simp)];rfl
 have v2a:aN6 E= .ok (.lst (rings.map λ r=>pcD (r,1))):=by
  refine iD (ds:=rings.map tupI) (by rw[yW,eF,hv,aH,ef,aH];rfl) (by rw[List.length_map];lia) ?_;exact uH (fg:=gnm 0) (f:=tupI) (g:=λ r=>pcD (r,1)) rings λ r _=>⟨[.sh (tupI r)],rfl,hm r 1⟩
 have v2b:aN5 E= .ok (.lst ((ways.filter λ r=>decide ((1:Int)<r.length)).map λ r=>pcD (r,0))):=by
  refine iD (ds:=ways.map tupI) (by rw[yW,eF,hv,aH,eg,aH];rfl) (by rw[List.length_map];lia) ?_;refine lG (fg:=gnm 0) (f:=tupI) (g:=λ r=>pcD (r,0)) (t:=λ r=>decide ((1:Int)<r.length)) ways λ r _=>⟨[.sh (tupI r)],rfl,?_,hm r 0⟩
  simp[tupI]
 obtain⟨pcs,hpcs⟩:∃pcs:List (List Int×Int),pcs=rings.map (λ r=>(r,1))++(ways.filter λ r=>decide ((1:Int)<r.length)).map (λ r=>(r,0)):=⟨_,rfl⟩
 have hpm:pcs.map pcD=(rings.map λ r=>pcD (r,1))++(ways.filter λ r=>decide ((1:Int)<r.length)).map λ r=>pcD (r,0):=by
  rw[hpcs,List.map_append,List.map_map,List.map_map];rfl
 have hwl:=Nat.le_trans (List.length_filter_le (λ r:List Int=>decide ((1:Int)<r.length)) ways) hgl;have hpl2:pcs.length<=120000:=by
  rw[hpcs,List.length_append,List.length_map,List.length_map];lia
 have hpg:∀q∈pcs,Gr n q.1/\(q.2=0\/q.2=1):=λ q hq=>by
  rw[hpcs]at hq;rcases List.mem_append.mp hq with z|z
  ·obtain⟨r,hr,rfl⟩:=List.mem_map.mp z
   exact⟨(hfg r hr).1,.inr rfl⟩
  ·obtain⟨r,hr,rfl⟩:=List.mem_map.mp z
   exact⟨hgg r (List.mem_filter.mp hr).1,.inl rfl⟩
 have b2:jE 2 (op2 aV aN6 aN5) E= .nx [.sh (.int c),.sh (owD n ps),.nw (.lst (pcs.map pcD)),.no,.no,.no,.no,.no]:=by
  rw[uW,b8,v2a,aH,v2b,aH,aAZ,if_pos (by rw[List.length_map,List.length_map];lia),bC,cI,<-hpm,hE];rfl
 have b4:jE 3 (lrD (op2 ixD (aB 1) (cD (.int 0)))) [.sh (.int c),.sh (owD n ps),.nw (.lst (pcs.map pcD)),.no,.no,.no,.no,.no]= .nx [.sh (.int c),.sh (owD n ps),.nw (.lst (pcs.map pcD)),.nw (.lst ((bB n).map .int)),.no,.no,.no,.no]:=by
  have hv:lrD (op2 ixD (aB 1) (cD (.int 0))) [.sh (.int c),.sh (owD n ps),.nw (.lst (pcs.map pcD)),.no,.no,.no,.no,.no]= .ok (.lst (dB 0 n)):=aIK (by simp[owD]) h0 (by lia);rw[uW,hv,cI,gW];rfl
 have b5:aGX 4 2 [.sh (.int c),.sh (owD n ps),.nw (.lst (pcs.map pcD)),.nw (.lst ((bB n).map .int)),.no,.no,.no,.no]= .nx (dsN c n ps (.lst (pcs.map pcD)) (bB n) [] [] .no .no .no):=by
  unfold aGX;rw[if_pos (by rw[sizeLine_eq];decide)];rfl
 obtain⟨ρ',e,left,f0,f1,s5,s6,s7,rfl,L⟩:=j8 (a:=dsG) (u:=dsB) (aD5 (pcs.map pcD)) (λ _ ρ=>∃left f0 f1 s5 s6 s7,ρ=dsN c n ps (.lst (pcs.map pcD)) left f0 f1 s5 s6 s7/\Lf n left f0 f1)
  (dsN c n ps (.lst (pcs.map pcD)) (bB n) [] [] .no .no .no) ⟨_,_,_,_,_,_,rfl,aIE,by rw[dF];simp,λ r hr=>by simp at hr,λ r hr=>by simp at hr⟩ (by
   rintro i d ρ hd ⟨left,f0,f1,s5,s6,s7,rfl,L⟩;unfold aD5 at hd;rw[List.getElem?_map,List.getElem?_zipIdx,Option.map_map,List.getElem?_map,Option.map_map,Option.map_eq_some_iff]at hd;obtain⟨q,hq,rfl⟩:=hd;have hi:i<pcs.length:=(List.getElem?_eq_some_iff.mp hq).1;obtain⟨g1,g2⟩:=hpg q (List.mem_of_getElem? hq);obtain⟨r,k⟩:=q
   have:=aN4 (c:=c) (ps:=ps) (P:=.lst (pcs.map pcD)) (s5:=s5) (s6:=s6) (s7:=s7) (i:=i) (by lia) (by lia) L g1 g2
   simpa using this)
 have b6:iH (cX aD6 (aA (ik 2) aF)) dsG dsB (dsN c n ps (.lst (pcs.map pcD)) (bB n) [] [] .no .no .no)= .nx (dsN c n ps (.lst (pcs.map pcD)) left f0 f1 s5 s6 s7):=by
  have hi:cX aD6 (aA (ik 2) aF) (dsN c n ps (.lst (pcs.map pcD)) (bB n) [] [] .no .no .no)= .ok (aD5 (pcs.map pcD)):=rfl;rw[j7,hi,cI,e]
 have hfew:=L.few;have l0:=gP L.n0;have l1:=gP L.n1;have g0:∀r∈f0++left.map λ x=>[x],r≠[]:=λ r hr=>by
  rcases List.mem_append.mp hr with z|z
  ·exact L.n0 r z
  ·obtain⟨x,_,rfl⟩:=List.mem_map.mp z
   simp
 have p0:=lu (f0++left.map λ x=>[x]);have p1:=lu f1;have b7:dsE (dsN c n ps (.lst (pcs.map pcD)) left f0 f1 s5 s6 s7)= .ok (rpD (lA (f0++left.map λ x=>[x])) (lA f1)):=by
  have vL:dsL (dsN c n ps (.lst (pcs.map pcD)) left f0 f1 s5 s6 s7)= .ok (.lst ((left.map λ x=>[x]).map tupI)):=by
   rw[List.map_map];refine iD (ds:=left.map .int) rfl (by rw[List.length_map];lia) ?_;exact uH (fg:=gnm 0) (f:=D.int) (g:=tupI∘λ x=>[x]) left λ x _=>⟨[.sh (.int x)],rfl,by simp[tupI]⟩
  have a0:op2 ixD (jC 4) (cD (.int 0)) (dsN c n ps (.lst (pcs.map pcD)) left f0 f1 s5 s6 s7)= .ok (.lst (f0.map tupI)):=rfl;have a1:op2 ixD (jC 4) (cD (.int 1)) (dsN c n ps (.lst (pcs.map pcD)) left f0 f1 s5 s6 s7)= .ok (.lst (f1.map tupI)):=rfl;have w1:opA dq (aA (opA lw (aA (op2 aV (op2 ixD (jC 4) (cD (.int 0))) dsL) aF)) aF) (dsN c n ps (.lst (pcs.map pcD)) left f0 f1 s5 s6 s7)= .ok (.tup ((lA (f0++left.map λ x=>[x])).map tupI)):=by
   rw[fO,aX,fO,aX,b8,a0,aH,vL,aH,aAZ,if_pos (by simp only[List.length_map];lia),bC,aH,bQ,aH,aH,<-List.map_append,aAs g0 (by rw[List.length_append,List.length_map];lia),bC,aH,aH,aH,je,bC]
  have w2:opA dq (aA (opA lw (aA (op2 ixD (jC 4) (cD (.int 1))) aF)) aF) (dsN c n ps (.lst (pcs.map pcD)) left f0 f1 s5 s6 s7)= .ok (.tup ((lA f1).map tupI)):=by
   rw[fO,aX,fO,aX,a1,aH,bQ,aH,aH,aAs L.n1 (by lia),bC,aH,aH,aH,je,bC]
  unfold dsE;rw[nJ,aX,w1,aH,aX,w2,aH,bQ,aH,aH,aH,if_pos (by simp)];rfl
 refine⟨lA (f0++left.map λ x=>[x]),lA f1,?_,?_,λ r hr=>g0 r (p0.mem_iff.mp hr),λ r hr=>L.n1 r (p1.mem_iff.mp hr)⟩
 ·simp only[dM,wX,bG,st]
  rw[aM,b2,ak,aM,b4,ak,aM,b5,ak,aM,b6,ak,dg,b7];rfl
 ·rw[aAy p0,aAy p1,List.flatten_append,List.length_append,zy]
  lia
theorem oJ:∀ws:List Int,eY (ws.map .int)=true
 |[]=>rfl
 |_::ws=>by simp only[List.map_cons,eY,oJ ws,pln];rfl
theorem uw:∀ws:List Int,lJ (ws.map .int)=true
 |[]=>rfl
 |_::ws=>by simp only[List.map_cons,lJ,uw ws,imm];rfl
theorem aAT(l:List D)(a b:Option Int):(cutD l a b).length<=l.length:=by
 unfold cutD;rw[List.length_take,List.length_drop];lia
theorem vK(h:d∈cutD l a b):d∈l:=by
 unfold cutD at h;exact List.mem_of_mem_drop (List.mem_of_mem_take h)
theorem qU(h:eY l=true):eY (cutD l a b)=true:=nO λ d hd=>fM h (vK hd)
theorem jZ(h:eY l=true)(h2:eY m=true):eY (l++m)=true:=nO λ d hd=>by
 rcases List.mem_append.mp hd with z|z
 ·exact fM h z
 ·exact fM h2 z
theorem mR:∀{l:List D} {d:D},lJ l=true->d∈l->imm d=true
 |x::r,d,h,hm=>by
  simp only[lJ,Bool.and_eq_true]at h;rcases List.mem_cons.mp hm with rfl|hm
  ·exact h.1
  ·exact mR h.2 hm
theorem j5:∀{l:List D},(∀d∈l,imm d=true)->lJ l=true
 |[],_=>rfl
 |x::r,h=>by
  simp only[lJ,Bool.and_eq_true];exact⟨h x (List.mem_cons_self ..),j5 λ d hd=>h d (List.mem_cons_of_mem _ hd)⟩
theorem aCX{P:D->Prop}(h0:0<=i)(h1:i<l.length)(h:∀d∈l,P d):∃d,(match (okD (atD l i)).bo Ou.rt with
  |Ou.nx ρ=>Rs.ok D.non
  |Ou.rt d=>Rs.ok d
  |Ou.ex c=>Rs.ex c
  |x=>Rs.st)=Rs.ok d/\P d:=by
 obtain⟨d,e,hm,_⟩:=wY h0 h1;exact⟨d,by rw[e];rfl,h d hm⟩
def sI:D->Nat
 | .tup l=>l.length
 |_=>0
def sz:D->Nat
 | .tup l=>l.length+(l.map sI).sum
 |_=>0
def tz:D->Nat
 | .tup l=>(l.map sz).sum
 |_=>0
theorem aLv(l:List D):sz (.tup l)=l.length+(l.map sI).sum:=rfl
theorem vZ(l m:List D):sz (.tup (l++m))=sz (.tup l)+sz (.tup m):=by
 simp[sz];lia
theorem uR(d:D)(l:List D):sz (.tup (d::l))=1+sI d+sz (.tup l):=by
 simp[sz];lia
theorem aLx:sz (.tup [])=0:=rfl
theorem aJ2(l:List D)(k:Nat):sz (.tup (l.take k))<=sz (.tup l):=by
 conv=>rhs;rw[<-List.take_append_drop k l,vZ]
 lia
theorem aJ3(l:List D)(k:Nat):sz (.tup (l.drop k))<=sz (.tup l):=by
 conv=>rhs;rw[<-List.take_append_drop k l,vZ]
 lia
theorem aLy(l:List D)(a b:Option Int):sz (.tup (cutD l a b))<=sz (.tup l):=by
 unfold cutD;exact Nat.le_trans (aJ2 _ _) (aJ3 _ _)
theorem aLw(l:List D):sz (.tup l.reverse)=sz (.tup l):=by
 simp[sz]
theorem aFa(h:d∈l):sI d<=sz (.tup l):=by
 induction l with
 |nil=>cases h
 |cons x l ih=>
  rw[uR];rcases List.mem_cons.mp h with rfl|h
  ·lia
  ·have:=ih h;lia
theorem aIO(l:List D):l.length<=sz (.tup l):=by rw[aLv];lia
theorem sz_ints(ws:List Int):sz (tupI ws)=ws.length:=by
 have:∀ws:List Int,sz (.tup (ws.map .int))=ws.length:=λ ws=>by
  induction ws with
  |nil=>rfl
  |cons a ws ih=>rw[List.map_cons,uR,ih,List.length_cons];simp[sI];lia
 exact this ws
theorem aBC(ws:List Int):sI (tupI ws)=ws.length:=by simp[sI,tupI]
theorem yM(rws:List (List Int)):sz (.tup (rws.map tupI))=rws.length+rws.flatten.length:=by
 induction rws with
 |nil=>rfl
 |cons r rws ih=>
  rw[List.map_cons,uR,ih,aBC,List.length_cons,List.flatten_cons,List.length_append];lia
theorem aEs(h:pln d=true)(h2:tz d<64):Fi2 d:=by
 refine⟨h,λ w r e=>?_⟩;subst e;have e:tz (.tup [w,r])=sz w+sz r:=by simp[tz]
 rw[e]at h2;have fl:∀d,(kW d).length<=sz d:=λ d=>by
  cases d with
  |tup l=>
   unfold kW sz;dsimp only
   have:∀l:List D,((l.map rowOf).flatten).length<=(l.map sI).sum:=λ l=>by
    induction l with
    |nil=>simp
    |cons x l ih=>
     rw[List.map_cons,List.flatten_cons,List.length_append,List.map_cons,List.sum_cons]
     have:(rowOf x).length<=sI x:=by
      cases x with
      |tup l=>simp[rowOf,sI]
      |_=>simp[rowOf]
     lia
   have:=this l
   lia
  |_=>simp[kW]
 have sh:∀d,sz d<64->aA7 d=true:=λ d h=>by
  cases d with
  |tup l=>
   have h3:=aIO l;simp only[aA7,Bool.and_eq_true,decide_eq_true_eq,List.all_eq_true];refine⟨by lia,λ x hx=>?_⟩
   have:=aFa hx
   cases x with
   |tup m=>simp[sI]at this;simp[uV];lia
   |_=>rfl
  |_=>rfl
 exact⟨sh w (by lia),sh r (by lia),by have:=fl w;have:=fl r;lia⟩
def aH5(k:Nat)(d:D):Prop:=pln d=true/\sI d<=k
theorem qR(h:eY l=true)(h2:l.length<=k):aH5 k (.tup l):=⟨by simpa[pln]using h,h2⟩
theorem yF{ws:List Int}(p0:0<=p)(p1:p<1000)(hl:ws.length<=1000):∃d,iK [.int c,.int p,.tup (ws.map .int),.int m]= .ok d/\aH5 (2*ws.length+1) d:=by
 obtain⟨r0,e0,b0⟩:=jA (c:=c) (k:=p) (b:=(ws.length:Int)+1) (by lia) (by lia) (by lia) (by lia);obtain⟨r1,e1,b1⟩:=jA (c:=c) (k:=p+1) (b:=9) (by lia) (by lia) (by lia) (by lia);obtain⟨r2,e2,b2⟩:=jA (c:=c) (k:=p+2) (b:=10) (by lia) (by lia) (by lia) (by lia);obtain⟨d4,e4,m4,_⟩:=wY (l:=[.int 0,.int m,.int (-1),.bl true,.non,.str "0",.lst [.int 0],.int (m-1),.int 1]) (i:=(r1:Int)) (by lia) (by simpa using b1);have st:bF 7 [.int c,.int p,.tup (ws.map .int),.int m]=[.sh (.int c),.sh (.int p),.sh (.tup (ws.map .int)),.sh (.int m),.no,.no,.no]:=rfl;have gt:kO (.tup (ws.map .int))= .ok (.tup (ws.map .int)):=iV (by simp only[imm];exact uw ws);have gc:∀a b,kO (.tup (cutD (ws.map .int) a b))= .ok (.tup (cutD (ws.map .int) a b)):=λ a b=>iV (by simp only[imm];exact j5 λ d hd=>mR (uw ws) (vK hd))
 have gr:kO (.tup (ws.map D.int).reverse)= .ok (.tup (ws.map D.int).reverse):=iV (by simp only[imm];exact j5 λ d hd=>mR (uw ws) (List.mem_reverse.mp hd));have cl:∀a b,(cutD (ws.map .int) a b).length<=ws.length:=λ a b=>Nat.le_trans (aAT _ _ _) (by rw[List.length_map];exact Nat.le_refl _)
 have z2:∀a b,(cutD (ws.map .int) a b).length+1<=16777216:=λ a b=>by have:=cl a b;lia
 have z3:∀a b a' b',(cutD (ws.map .int) a b).length+1+(cutD (ws.map .int) a' b').length<=16777216:=λ a b a' b'=>by have:=cl a b;have:=cl a' b';lia
 have z4:∀a b,ws.length+(cutD (ws.map .int) a b).length<=16777216:=λ a b=>by have:=cl a b;lia
 have z5:∀a b a' b',(cutD (ws.map .int) a b).length+(cutD (ws.map .int) a' b').length<=16777216:=λ a b a' b'=>by have:=cl a b;have:=cl a' b';lia
 have p4:pln d4=true:=by
  simp only[List.mem_cons,List.not_mem_nil,or_false]at m4;rcases m4 with rfl|rfl|rfl|rfl|rfl|rfl|rfl|rfl|rfl<;>rfl
 have pc:∀a b,eY (cutD (ws.map .int) a b)=true:=λ a b=>qU (oJ ws)
 have c8:∀a b a' b',aH5 (2*ws.length+1) (.tup (cutD (ws.map .int) a b++d4::cutD (ws.map .int) a' b')):=λ a b a' b'=>by
  refine qR (jZ (pc a b) ?_) ?_
  ·simp only[eY,p4,pc,Bool.and_self]
  ·have:=cl a b;have:=cl a' b';simp;lia
 have c9:∀a b a' b',aH5 (2*ws.length+1) (.tup (cutD (ws.map .int) a b++cutD (ws.map .int) a' b')):=λ a b a' b'=>by
  refine qR (jZ (pc a b) (pc a' b')) ?_
  have:=cl a b;have:=cl a' b';simp;lia
 simp only[iK,fY,bG,st];simp[-List.map_reverse,e0,e1,e2,e4,gt,gc,gr,z2,z3,z4,z5];refine aCX (by lia) (by simp;lia) λ d hd=>?_
 simp only[List.mem_cons,List.not_mem_nil,or_false]at hd;rcases hd with rfl|rfl|rfl|rfl|rfl|rfl|rfl|rfl|rfl|rfl
 ·exact c8 _ _ _ _
 ·exact c9 _ _ _ _
 ·exact c8 _ _ _ _
 ·exact qR (nO λ d hd=>fM (oJ ws) (List.mem_reverse.mp hd)) (by simp;lia)
 ·exact⟨by simpa[pln]using oJ ws,Nat.zero_le _⟩
 ·exact qR (jZ (oJ ws) (pc _ _)) (by have:=cl none (some 1);simp;lia)
 ·exact c9 _ _ _ _
 ·exact⟨rfl,Nat.zero_le _⟩
 ·exact⟨rfl,Nat.zero_le _⟩
 ·exact qR (by simp[eY,pln,oJ]) (by simp)
theorem aCF:∃d,lq [.int c]= .ok d/\pln d=true/\tz d<64:=by
 obtain⟨r0,e0,b0⟩:=jA (c:=c) (k:=90) (b:=16) (by decide) (by decide) (by decide) (by decide);have hpw:aHk (.int 10) (.int 20)= .ok (.int 100000000000000000000):=rfl;have st:bF 2 [.int c]=[.sh (.int c),.no]:=rfl;simp only[lq,lX,bG,st];simp[e0,hpw];refine aCX (by lia) (by simp;lia) λ d hd=>?_
 simp only[List.mem_cons,List.not_mem_nil,or_false]at hd;rcases hd with rfl|rfl|rfl|rfl|rfl|rfl|rfl|rfl|rfl|rfl|rfl|rfl|rfl|rfl|rfl|rfl<;>
  exact⟨rfl,by decide⟩
def nR(d:D):Prop:=pln d=true/\tz d<64
theorem rD(rws:List (List Int)):eY (rws.map tupI)=true:=nO λ d hd=>by
 obtain⟨r,_,rfl⟩:=List.mem_map.mp hd;exact zM r
theorem j4(h:eY l=true):pln (.tup l)=true:=by simpa[pln]using h
def El(e:D):Prop:=(∃i:Int,e= .int i)\/∃ws:List Int,e=tupI ws
theorem El.pln(h:El e):VL.My.pln e=true:=by
 rcases h with ⟨i,rfl⟩|⟨ws,rfl⟩
 ·rfl
 ·exact zM ws
theorem El.imm(h:El e):VL.imm e=true:=by
 rcases h with ⟨i,rfl⟩|⟨ws,rfl⟩
 ·rfl
 ·exact zr ws
def bpI:En->Ou:=ifS (tst (op1 (fU "tuple") (aB 5)))
   (jE 6 (aO iK (aA (aB 0) (aA (op2 aV (aB 1) (cD (.int 1))) (aA (aB 5) (aA (aB 3) aF))))))
   (jE 6 (op2 ixD (fD (aA (cD (.int 0)) (aA (aP (aB 3)) (aA (cD (.bl true)) (aA (cD .non) (aA (op2 aV (aP (aB 5)) (cD (.int 1))) (aA (aZ (aA (aP (aB 5)) aF)) aF))))))) (aO aY (aA (aB 0) (aA (op2 aV (aB 1) (cD (.int 1))) (aA (cD (.int 6)) aF))))))
theorem aNa(he:El e)(hl:sI e<=1000)(p0:0<=p)(p1:p<900):∃o,bpI [.sh (.int c),.sh (.int p),.sh (.tup l),.sh (.int m),.sh (.int r0),.sh e,.no,.no]= .nx [.sh (.int c),.sh (.int p),.sh (.tup l),.sh (.int m),.sh (.int r0),.sh e,.nw o,.no]/\aH5 (2*sI e+1) o:=by
 rcases he with ⟨i,rfl⟩|⟨ws,rfl⟩
 ·obtain⟨r1,e1,b1⟩:=jA (c:=c) (k:=p+1) (b:=6) (by lia) (by lia) (by decide) (by decide)
  obtain⟨d4,e4,m4,_⟩:=wY (l:=[.int 0,.int m,.bl true,.non,.int (i+1),.tup [.int i]]) (i:=(r1:Int)) (by lia) (by simpa using b1);refine⟨d4,?_,?_⟩
  ·have:fU "tuple" (.int i)= .ok (.bl false):=by rw[fQ rfl];rfl
   unfold bpI;simp[this,e1,e4]
  ·simp only[List.mem_cons,List.not_mem_nil,or_false]at m4
   rcases m4 with rfl|rfl|rfl|rfl|rfl|rfl<;>exact⟨rfl,by simp[sI]⟩
 ·rw[aBC]at hl ⊢
  obtain⟨o,eo,ho⟩:=yF (c:=c) (p:=p+1) (m:=m) (ws:=ws) (by lia) (by lia) hl;refine⟨o,?_,ho⟩;unfold bpI tupI;simp[eo]
theorem qZ:dI=aQ (bY 4 (aO aY (aA (aB 0) (aA (aB 1) (aA (op2 aV (opA bz (aA (aB 2) aF)) (cD (.int 1))) aF)))))
  (aQ (bY 5 (op2 ixD (op2 aV (aB 2) (aZ (aA (aZ aF) aF))) (aB 4)))
  (aQ bpI
  (aQ (jX 7 (fD (aA (op2 aV (op2 aV (aP (bA (aB 2) bO (bK (aB 4)))) (aZ (aA (ik 6) aF))) (aP (bA (aB 2) (bK (op2 aV (aB 4) (cD (.int 1)))) bO))) (aA (op2 aV (aP (bA (aB 2) bO (bK (aB 4)))) (aP (bA (aB 2) (bK (op2 aV (aB 4) (cD (.int 1)))) bO))) (aA (op2 aV (aP (aB 2)) (aP (bA (aB 2) bO (bK (cD (.int 1)))))) aF)))))
  (aQ (jX 7 (op2 aV (nW 7) (fD (aA (aP (op1 uB (aB 2))) (aA (opA sX (aA (aP (aB 2)) aF)) (aA (aZ (aA (aP (aB 2)) aF)) (aA (cD .non) (aA (op2 aV (aP (aB 2)) (aZ (aA (aZ aF) aF))) aF))))))))
  (aQ (pq 7 (op2 aV (op2 aV (aP (bA (aB 2) bO (bK (aB 4)))) (aZ (aA (ik 6) aF))) (aP (bA (aB 2) (bK (aB 4)) bO))))
  (retS (op2 ixD (nW 7) (aO aY (aA (aB 0) (aA (op2 aV (aB 1) (cD (.int 4))) (aA (cD (.int 9)) aF))))))))))):=rfl
theorem lB(hE:∀e∈l,El e)(p0:0<=p)(p1:p<900)(hl:sz (.tup l)<=1000):∃d,cU [.int c,.int p,.tup l,.int m]= .ok d/\pln d=true/\sz d<=4*sz (.tup l)+3:=by
 have hll:=aIO l;obtain⟨r0,e0,b0⟩:=jA (c:=c) (k:=p) (b:=(l.length:Int)+1) (by lia) (by lia) (by lia) (by lia);obtain⟨r2,e2,b2⟩:=jA (c:=c) (k:=p+4) (b:=9) (by lia) (by lia) (by decide) (by decide);obtain⟨w,ew,mw,_⟩:=wY (l:=l++[.tup []]) (i:=(r0:Int)) (by lia) (by rw[List.length_append];simp;lia);have hw:El w/\sI w<=sz (.tup l):=by
  rcases List.mem_append.mp mw with z|z
  ·exact⟨hE w z,aFa z⟩
  ·rw[List.mem_singleton]at z
   subst z;exact⟨.inr ⟨[],rfl⟩,Nat.zero_le _⟩
 obtain⟨o,eo,po,lo⟩:=aNa (c:=c) (p:=p) (m:=m) (l:=l) (r0:=r0) hw.1 (by lia) p0 p1;have st:bF 8 [.int c,.int p,.tup l,.int m]=[.sh (.int c),.sh (.int p),.sh (.tup l),.sh (.int m),.no,.no,.no,.no]:=rfl;have il:lJ l=true:=j5 λ d hd=>(hE d hd).imm
 have pl:eY l=true:=nO λ d hd=>(hE d hd).pln
 have gt:kO (.tup l)= .ok (.tup l):=iV (by simp only[imm];exact il);have gc:∀a b,kO (.tup (cutD l a b))= .ok (.tup (cutD l a b)):=λ a b=>iV (by simp only[imm];exact j5 λ d hd=>mR il (vK hd))
 have gr:kO (.tup l.reverse)= .ok (.tup l.reverse):=iV (by simp only[imm];exact j5 λ d hd=>mR il (List.mem_reverse.mp hd));have cl:∀a b,(cutD l a b).length<=l.length:=λ a b=>aAT _ _ _
 have z2:∀a b,(cutD l a b).length+1<=16777216:=λ a b=>by have:=cl a b;lia
 have z3:∀a b a' b',(cutD l a b).length+1+(cutD l a' b').length<=16777216:=λ a b a' b'=>by have:=cl a b;have:=cl a' b';lia
 have z4:∀a b,l.length+(cutD l a b).length<=16777216:=λ a b=>by have:=cl a b;lia
 have z5:∀a b a' b',(cutD l a b).length+(cutD l a' b').length<=16777216:=λ a b a' b'=>by have:=cl a b;have:=cl a' b';lia
 have z6:l.length+1<=16777216:=by lia
 have pc:∀a b,eY (cutD l a b)=true:=λ a b=>qU pl
 have a4:bY 4 (aO aY (aA (aB 0) (aA (aB 1) (aA (op2 aV (opA bz (aA (aB 2) aF)) (cD (.int 1))) aF)))) [.sh (.int c),.sh (.int p),.sh (.tup l),.sh (.int m),.no,.no,.no,.no]= .nx [.sh (.int c),.sh (.int p),.sh (.tup l),.sh (.int m),.sh (.int r0),.no,.no,.no]:=by simp[e0]
 have a5:bY 5 (op2 ixD (op2 aV (aB 2) (aZ (aA (aZ aF) aF))) (aB 4)) [.sh (.int c),.sh (.int p),.sh (.tup l),.sh (.int m),.sh (.int r0),.no,.no,.no]= .nx [.sh (.int c),.sh (.int p),.sh (.tup l),.sh (.int m),.sh (.int r0),.sh w,.no,.no]:=by simp[z6,ew]
 simp only[cU,qZ,bG,st];rw[aM,a4,ak,aM,a5,ak,aM,eo,ak];simp[pq,e2,gt,gc,gr,z2,z3,z4,z5,z6];have sc:=aLy l;have c8:∀a b a' b',pln (.tup (cutD l a b++o::cutD l a' b'))=true/\sz (.tup (cutD l a b++o::cutD l a' b'))<=4*sz (.tup l)+3:=λ a b a' b'=>by
  refine⟨?_,?_⟩
  ·refine j4 ?_
   exact jZ (pc a b) (by simp only[eY,po,pc,Bool.and_self])
  ·rw[vZ,uR]
   have:=sc a b;have:=sc a' b'
   lia
 refine aCX (by lia) (by simp;lia) λ d hd=>?_
 simp only[List.mem_cons,List.not_mem_nil,or_false]at hd;rcases hd with rfl|rfl|rfl|rfl|rfl|rfl|rfl|rfl|rfl
 ·exact c8 _ _ _ _
 ·refine⟨by refine j4 ?_;exact jZ (pc _ _) (pc _ _),?_⟩
  rw[vZ];have h1:=sc none (some (r0:Int));have h2:=sc (some ((r0:Int)+1)) none;lia
 ·refine⟨by refine j4 ?_;exact jZ pl (pc _ _),?_⟩
  rw[vZ];have h1:=sc none (some 1);lia
 ·refine⟨by refine j4 ?_;exact nO λ d hd=>fM pl (List.mem_reverse.mp hd),?_⟩
  rw[aLw];lia
 ·exact⟨by simpa[pln]using pl,Nat.zero_le _⟩
 ·refine⟨by simp[pln,eY,pl],?_⟩
  rw[uR,aLx];show 1+l.length+0<=_;lia
 ·exact⟨rfl,Nat.zero_le _⟩
 ·refine⟨by refine j4 ?_;exact jZ pl rfl,?_⟩
  rw[vZ];show sz (.tup l)+1<=_;lia
 ·exact c8 _ _ _ _
theorem rM(h:eY l=true)(h2:(l.map sz).sum<64):nR (.tup l):=⟨j4 h,h2⟩
theorem aHM(S:Sp f0 f1):sz (.tup (f0.map tupI))+sz (.tup (f1.map tupI))<=12:=by
 have:=S.few
 have:=gP S.n0
 have:=gP S.n1
 rw[yM,yM];lia
theorem wO:fX=aQ (bY 4 (aO aY (aA (aB 0) (aA (aB 1) (aA (opA bz (aA (aB 2) aF)) aF)))))
  (aQ (jE 5 (aO cU (aA (aB 0) (aA (op2 aV (aB 1) (cD (.int 1))) (aA (op2 ixD (aB 2) (aB 4)) (aA (aB 3) aF))))))
  (aQ (jE 6 (fD (aA (op2 aV (op2 aV (aP (bA (aB 2) bO (bK (aB 4)))) (aZ (aA (ik 5) aF))) (aP (bA (aB 2) (bK (op2 aV (aB 4) (cD (.int 1)))) bO))) (aA (aP (op1 uB (aB 2))) (aA (aP (bA (aB 2) bO (bK (op1 gn (cD (.int 1)))))) (aA (op2 aV (aP (aB 2)) (aZ (aA (aZ aF) aF))) (aA (opA sX (aA (aP (aB 2)) aF)) (aA (cD .non) aF))))))))
  (retS (op2 ixD (ik 6) (op2 ixD (fD (aA (cD (.int 0)) (aA (cD (.int 0)) (aA (cD (.int 0)) (aA (cD (.int 1)) (aA (cD (.int 2)) (aA (cD (.int 3)) (aA (cD (.int 4)) (aA (cD (.int 5)) aF))))))))) (aO aY (aA (aB 0) (aA (op2 aV (aB 1) (cD (.int 6))) (aA (cD (.int 8)) aF))))))))):=rfl
theorem yE(S:Sp f0 f1)(p0:0<=p)(p1:p<800):∃d,fu [.int c,.int p,rpD f0 f1,.int m]= .ok d/\nR d:=by
 have hb:=aHM S;obtain⟨r0,e0,b0⟩:=jA (c:=c) (k:=p) (b:=2) (by lia) (by lia) (by decide) (by decide);obtain⟨r2,e2,b2⟩:=jA (c:=c) (k:=p+6) (b:=8) (by lia) (by lia) (by decide) (by decide);have eR:∀(f:List (List Int)),∀e∈f.map tupI,El e:=λ f e he=>by obtain⟨r,_,rfl⟩:=List.mem_map.mp he;exact .inr ⟨r,rfl⟩
 have pT:=j4 (rD f0);have pR:=j4 (rD f1);have iT:imm (.tup (f0.map tupI))=true:=by simp only[imm];exact j5 λ d hd=>(eR f0 d hd).imm
 have iR:imm (.tup (f1.map tupI))=true:=by simp only[imm];exact j5 λ d hd=>(eR f1 d hd).imm
 obtain⟨th,hth⟩:∃th,th=[D.tup (f0.map tupI),D.tup (f1.map tupI)]:=⟨_,rfl⟩
 have hsp:rpD f0 f1= .tup th:=by rw[hth];rfl
 have hlen:th.length=2:=by rw[hth];rfl
 have ith:lJ th=true:=by rw[hth];simp[lJ,iT,iR]
 have pth:eY th=true:=by rw[hth];simp[eY,pT,pR]
 have sth:(th.map sz).sum<=12:=by rw[hth];simp;lia
 obtain⟨o,eo,po,so⟩:∃o,(∃part,atD th (r0:Int)= .ok part/\cU [.int c,.int (p+1),part,.int m]= .ok o)/\pln o=true/\((cutD th none (some (r0:Int))++o::cutD th (some ((r0:Int)+1)) none).map sz).sum<64:=by
  have h3:r0=0\/r0=1:=by lia
  rcases h3 with rfl|rfl
  ·obtain⟨o,eo,po,so⟩:=lB (c:=c) (p:=p+1) (m:=m) (eR f0) (by lia) (by lia) (by lia)
   refine⟨o,⟨.tup (f0.map tupI),by rw[hth];rfl,eo⟩,po,?_⟩
   have:cutD th none (some ((0:Nat):Int))++o::cutD th (some (((0:Nat):Int)+1)) none=[o,.tup (f1.map tupI)]:=by rw[hth];rfl
   rw[this];simp;lia
  ·obtain⟨o,eo,po,so⟩:=lB (c:=c) (p:=p+1) (m:=m) (eR f1) (by lia) (by lia) (by lia)
   refine⟨o,⟨.tup (f1.map tupI),by rw[hth];rfl,eo⟩,po,?_⟩
   have:cutD th none (some ((1:Nat):Int))++o::cutD th (some (((1:Nat):Int)+1)) none=[.tup (f0.map tupI),o]:=by rw[hth];rfl
   rw[this];simp;lia
 obtain⟨part,ep,eo⟩:=eo;rw[hsp];have st:bF 7 [.int c,.int p,.tup th,.int m]=[.sh (.int c),.sh (.int p),.sh (.tup th),.sh (.int m),.no,.no,.no]:=rfl;have gt:kO (.tup th)= .ok (.tup th):=iV (by simp only[imm];exact ith);have gc:∀a b,kO (.tup (cutD th a b))= .ok (.tup (cutD th a b)):=λ a b=>iV (by simp only[imm];exact j5 λ d hd=>mR ith (vK hd))
 have gr:kO (.tup th.reverse)= .ok (.tup th.reverse):=iV (by simp only[imm];exact j5 λ d hd=>mR ith (List.mem_reverse.mp hd));have cl:∀a b,(cutD th a b).length<=2:=λ a b=>by have:=aAT th a b;lia
 have z2:∀a b,(cutD th a b).length+1<=16777216:=λ a b=>by have:=cl a b;lia
 have z3:∀a b a' b',(cutD th a b).length+1+(cutD th a' b').length<=16777216:=λ a b a' b'=>by have:=cl a b;have:=cl a' b';lia
 have a4:bY 4 (aO aY (aA (aB 0) (aA (aB 1) (aA (opA bz (aA (aB 2) aF)) aF)))) [.sh (.int c),.sh (.int p),.sh (.tup th),.sh (.int m),.no,.no,.no]= .nx [.sh (.int c),.sh (.int p),.sh (.tup th),.sh (.int m),.sh (.int r0),.no,.no]:=by simp[hlen,e0]
 have a5:jE 5 (aO cU (aA (aB 0) (aA (op2 aV (aB 1) (cD (.int 1))) (aA (op2 ixD (aB 2) (aB 4)) (aA (aB 3) aF))))) [.sh (.int c),.sh (.int p),.sh (.tup th),.sh (.int m),.sh (.int r0),.no,.no]= .nx [.sh (.int c),.sh (.int p),.sh (.tup th),.sh (.int m),.sh (.int r0),.nw o,.no]:=by simp[ep,eo]
 have a6:jE 6 (fD (aA (op2 aV (op2 aV (aP (bA (aB 2) bO (bK (aB 4)))) (aZ (aA (ik 5) aF))) (aP (bA (aB 2) (bK (op2 aV (aB 4) (cD (.int 1)))) bO))) (aA (aP (op1 uB (aB 2))) (aA (aP (bA (aB 2) bO (bK (op1 gn (cD (.int 1)))))) (aA (op2 aV (aP (aB 2)) (aZ (aA (aZ aF) aF))) (aA (opA sX (aA (aP (aB 2)) aF)) (aA (cD .non) aF))))))) [.sh (.int c),.sh (.int p),.sh (.tup th),.sh (.int m),.sh (.int r0),.nw o,.no]
   = .nx [.sh (.int c),.sh (.int p),.sh (.tup th),.sh (.int m),.sh (.int r0),.nw o,.nw (.lst [.tup (cutD th none (some (r0:Int))++o::cutD th (some ((r0:Int)+1)) none),.tup th.reverse,.tup (cutD th none (some (-1))),.tup (th++[.tup []]),.lst th,.non])]:=by
  simp[gt,gc,gr,z2,z3,hlen]
 obtain⟨dj,ej,mj,_⟩:=wY (l:=[.int 0,.int 0,.int 0,.int 1,.int 2,.int 3,.int 4,.int 5]) (i:=(r2:Int)) (by lia) (by simpa using b2);obtain⟨j,rfl,j0,j1⟩:∃j:Int,dj= .int j/\0<=j/\j<6:=by
  simp only[List.mem_cons,List.not_mem_nil,or_false]at mj;rcases mj with rfl|rfl|rfl|rfl|rfl|rfl|rfl|rfl<;>exact⟨_,rfl,by decide,by decide⟩
 simp only[fu,wO,bG,st];rw[aM,a4,ak,aM,a5,ak,aM,a6,ak];simp[e2,ej];refine aCX (by lia) (by simp;lia) λ d hd=>?_
 simp only[List.mem_cons,List.not_mem_nil,or_false]at hd;rcases hd with rfl|rfl|rfl|rfl|rfl|rfl
 ·exact rM (jZ (qU pth) (by simp only[eY,po,qU pth,Bool.and_self])) so
 ·refine rM (nO λ d hd=>fM pth (List.mem_reverse.mp hd)) ?_
  rw[List.map_reverse,List.sum_reverse];lia
 ·refine rM (qU pth) ?_
  have:cutD th none (some (-1))=[.tup (f0.map tupI)]:=by rw[hth];rfl
  rw[this];simp;lia
 ·refine rM (jZ pth rfl) ?_
  rw[List.map_append,List.sum_append];simp[sz];lia
 ·exact⟨by simpa[pln]using pth,show 0<64 by decide⟩
 ·exact⟨rfl,by decide⟩
theorem pK(h:(f0.length+f0.flatten.length)+(f1.length+f1.flatten.length)<64):nR (rpD f0 f1):=by
 refine⟨j4 ?_,?_⟩
 ·simp[eY,j4 (rD f0),j4 (rD f1)]
 ·show(([D.tup (f0.map tupI),D.tup (f1.map tupI)]).map sz).sum<64
  rw[List.map_cons,List.map_cons,List.sum_cons,List.sum_cons,yM,yM];simp only[List.map_nil,List.sum_nil];lia
def lwT:En->Ou:=aQ (bY 10 (aO di (aA (aB 3) (aA (aB 8) aF)))) (ifS (orT (fC (tst (op1 (fU "bool") (aB 10)))) (tsb (op2 (eqR true) (aB 10) (aO gQ (aA (aB 3) (aA (aB 8) aF)))))) (retS (cD (.bl false))) Ou.nx)
def w5X:En->Rs D:=aZ (aA (opA dq (aA (lcD (cX dm (aA (op2 ixD (aB 3) (cD (.int 0))) aF)) [none] (gnm 0) bV (aZ (aA (aP (aB 0)) aF))) aF)) (aA (aZ aF) aF))
def w6X:En->Rs D:=fD (aA (aP (aB 4)) (aA (aP (aB 5)) (aA (aO lq (aA (aB 2) aF)) (aA (aZ (aA (aZ aF) (aA (aZ aF) aF))) aF))))
def w7X:En->Rs D:=trD (op2 ixD (aB 3) (cD (.int 0)))
def w8X:En->Rs D:=fD (aA (aZ (aA (aZ aF) (aA (aZ (aA (aP (aB 7)) aF)) aF))) (aA (aZ (aA (aZ aF) (aA (aZ (aA (aP (bA (aB 7) bO (bK (cD (.int 3))))) (aA (aP (bA (aB 7) (bK (cD (.int 3))) bO)) aF))) aF))) aF))
def w9X:En->Rs D:=lcD (cX dm (aA (cD (.int 4)) aF)) [none,some 2,some 4,some 3] (gnm 0) bV (aO fu (aA (aB 1) (aA (op2 aV (cD (.int 70)) (op2 nG (cD (.int 8)) (aB 0))) (aA (aB 2) (aA (op2 ixD (aB 3) (cD (.int 0))) aF)))))
def rwX(k:Int)(fe:En->Rs D):En->Rs D:=opA dq (aA (lcD (bh (op2 ixD (aB 4) (cD (.int k)))) [none] (gnm 0) bV fe) aF)
def aOg:En->Rs D:=aP (op1 uB (aB 0))
def aOf:En->Rs D:=op2 aV (aP (bA (aB 0) bO (bK (cD (.int 1))))) (aP (op1 aCq (aB 0)))
def aOe:En->Rs D:=op2 aV (aP (bA (aB 0) (bK (cD (.int 1))) bO)) (aP (bA (aB 0) bO (bK (cD (.int 1)))))
def atX(k:Int):En->Rs D:=aP (op2 ixD (aB 4) (cD (.int k)))
def wAX:En->Rs D:=aZ (aA (rwX 0 aOg) (aA (atX 1) aF))
def wBX(fe:En->Rs D):En->Rs D:=aZ (aA (atX 0) (aA (rwX 1 fe) aF))
def lwI:En->Ou:=iH (cX dm (aA (cD (.int 2)) aF)) (gnm 9) lwT
def lwL:En->Ou:=aKs 6 (iH (bh (aB 6)) (gnm 8) lwI)
def lwK:En->Ou:=aQ (bY 2 (aO fH (aA (aB 0) (aA (aB 1) aF)))) (aQ (bY 3 (aO ju (aA (aB 2) (aA (cD (.int 6)) aF)))) (aQ (bY 4 (aO dM (aA (aB 2) (aA (aB 3) aF)))) (aQ (bY 5 w5X) (aQ (jX 6 w6X) (aQ (bY 7 w7X) (aQ (jX 6 (op2 aV (nW 6) w8X)) (aQ (jX 6 (op2 aV (nW 6) w9X)) (aQ (pq 6 wAX) (aQ (pq 6 (wBX aOf)) (aQ (pq 6 (wBX aOe)) lwL))))))))))
def lwS:En->Rs D:=aZ (aA (cD (.int 60)) (aA (opA dq (aA (lcD (cX dm (aA (cD (.int 59)) aF)) [none] (gnm 0) bV (aZ (aA (aP (aB 0)) (aA (op2 aV (aP (aB 0)) (cD (.int 1))) aF)))) aF)) aF))
def lwQ(f:En->Rs D)(b:Bool):En->Rs D:=op2 (isD false) (aO di (aA (aB 11) (aA f aF))) (cD (.bl b))
def q1X:En->Rs D:=aZ (aA (aZ (aA (trD (cD (.int 60))) aF)) (aA (aZ aF) aF))
def q2X:En->Rs D:=aZ (aA (aZ aF) (aA (aZ (aA (trD (cD (.int 60))) aF)) aF))
def lwZ:En->Ou:=aQ (bY 11 lwS) (retS (iw (lwQ q1X true) (lwQ q2X false)))
def lwR:En->Rs (List D):=(cX dm (aA (opA (mmD λ i j=>if j>i then j else i) (aA (cD (.int 1)) (aA (opA (mmD λ i j=>if j<i then j else i) (aA (opA bz (aA (aB 0) aF)) (aA (cD (.int 8)) aF))) aF))) aF))
theorem aK7:aAR=aQ (iH lwR (gnm 1) lwK) lwZ:=rfl
theorem aIP{ρ:En}{fg:D->En->Rs En}{fe:En->Rs D}{P:D->Prop}:∀(ds:List D),(∀d∈ds,∃ρ1 y,fg d ρ= .ok ρ1/\fe ρ1= .ok y/\P y)->∃ys,lcL ρ fg bV fe ds= .ok ys/\ys.length=ds.length/\∀y∈ys,P y
 |[],_=>⟨[],rfl,rfl,λ y hy=>by cases hy⟩
 |d::ds,h=>by
  obtain⟨ρ1,y,e1,e2,hy⟩:=h d List.mem_cons_self;obtain⟨ys,e3,hl,hys⟩:=aIP ds λ e he=>h e (List.mem_cons_of_mem _ he)
  refine⟨y::ys,?_,by simp[hl],λ z hz=>?_⟩
  ·unfold lcL
   simp[e1,bV,e2,e3]
  ·rcases List.mem_cons.mp hz with rfl|hz
   ·exact hy
   ·exact hys z hz
abbrev lE(ns:List Int)(k c n:Int)(ps:List (Int×Int))(sp:D)(s5:Slot)(ds:List D)(s7 s8 s9 s10 s11:Slot):En:=[.sh (.scr ns),.sh (.int k),.sh (.int c),.sh (owD n ps),.sh sp,s5,.ow (.lst ds),s7,s8,s9,s10,s11]
section
variable{ns:List Int}{k c n:Int}{ps:List (Int×Int)}{sp:D}{s5 s7 s8 s9 s10 s11:Slot}{ds ms:List D}{d:D}{f:En->Rs D}
theorem aOl(h:f (lE ns k c n ps sp s5 ds s7 s8 s9 s10 s11)= .ok (.lst ms))(hl:ds.length+ms.length<=1000):jX 6 (op2 aV (nW 6) f) (lE ns k c n ps sp s5 ds s7 s8 s9 s10 s11)= .nx (lE ns k c n ps sp s5 (ds++ms) s7 s8 s9 s10 s11):=by
 have hv:nW 6 (lE ns k c n ps sp s5 ds s7 s8 s9 s10 s11)= .ok (.lst ds):=rfl;rw[yN,b8,hv,aH,h,aH,aAZ,if_pos (by lia),bC,cI];rfl
theorem aNe(h:f (lE ns k c n ps sp s5 ds s7 s8 s9 s10 s11)= .ok d)(hl:ds.length<=1000):pq 6 f (lE ns k c n ps sp s5 ds s7 s8 s9 s10 s11)= .nx (lE ns k c n ps sp s5 (ds++[d]) s7 s8 s9 s10 s11):=by
 show((f (lE ns k c n ps sp s5 ds s7 s8 s9 s10 s11)).bo λ d=>if ds.length<sizeLine then .nx ((lE ns k c n ps sp s5 ds s7 s8 s9 s10 s11).set 6 (.ow (.lst (ds++[d]))))else .st)=_
 rw[h,cI,if_pos (by rw[sizeLine_eq];lia)];rfl
theorem aMw{s6:Slot}(W:Wb n ps)(h:nR d):lwT [.sh (.scr ns),.sh (.int k),.sh (.int c),.sh (owD n ps),.sh sp,s5,s6,s7,.sh d,s9,s10,s11]= .nx [.sh (.scr ns),.sh (.int k),.sh (.int c),.sh (owD n ps),.sh sp,s5,s6,s7,.sh d,s9,.sh (.bl (rgB n ps d)),s11]:=by
 have F:=aEs h.1 h.2;have e1:=pI W F;have e2:=wN W F;have e3:eqR true (.bl (rgB n ps d)) (.bl (rgB n ps d))= .ok (.bl false):=by cases rgB n ps d<;>rfl
 unfold lwT;simp[e1,e2,e3]
theorem aMz(W:Wb n ps)(h:∀d∈ds,nR d)(hl:ds.length<=1000):∃t8 t9 t10,lwL (lE ns k c n ps sp s5 ds s7 s8 s9 s10 s11)= .nx [.sh (.scr ns),.sh (.int k),.sh (.int c),.sh (owD n ps),.sh sp,s5,.nw (.lst ds),s7,t8,t9,t10,s11]:=by
 have hr:=gB (j:=2) (by decide) (by decide);have hI:∀d t9 t10,nR d->∃u9 u10,lwI [.sh (.scr ns),.sh (.int k),.sh (.int c),.sh (owD n ps),.sh sp,s5,.nw (.lst ds),s7,.sh d,t9,t10,s11]= .nx [.sh (.scr ns),.sh (.int k),.sh (.int c),.sh (owD n ps),.sh sp,s5,.nw (.lst ds),s7,.sh d,u9,u10,s11]:=by
  intro d t9 t10 hd;obtain⟨ρ',e,u9,u10,rfl⟩:=j8 (a:=gnm 9) (u:=lwT) (dB 0 2) (λ _ ρ=>∃u9 u10,ρ=[.sh (.scr ns),.sh (.int k),.sh (.int c),.sh (owD n ps),.sh sp,s5,.nw (.lst ds),s7,.sh d,u9,u10,s11]) [.sh (.scr ns),.sh (.int k),.sh (.int c),.sh (owD n ps),.sh sp,s5,.nw (.lst ds),s7,.sh d,t9,t10,s11] ⟨_,_,rfl⟩ (by
   rintro i x ρ hx ⟨u9,u10,rfl⟩;exact⟨_,by rw[pJ,kj];exact aMw (s9:=.sh x) (s10:=u10) (s6:=.nw (.lst ds)) W hd,_,_,rfl⟩)
  refine⟨u9,u10,?_⟩;unfold lwI;have hi:cX dm (aA (cD (.int 2)) aF) [.sh (.scr ns),.sh (.int k),.sh (.int c),.sh (owD n ps),.sh sp,s5,.nw (.lst ds),s7,.sh d,t9,t10,s11]= .ok (dB 0 2):=by rw[<-hr];rfl
  rw[j7,hi,cI,e]
 obtain⟨ρ',e,t8,t9,t10,rfl⟩:=j8 (a:=gnm 8) (u:=lwI) ds (λ _ ρ=>∃t8 t9 t10,ρ=[.sh (.scr ns),.sh (.int k),.sh (.int c),.sh (owD n ps),.sh sp,s5,.nw (.lst ds),s7,t8,t9,t10,s11]) [.sh (.scr ns),.sh (.int k),.sh (.int c),.sh (owD n ps),.sh sp,s5,.nw (.lst ds),s7,s8,s9,s10,s11] ⟨_,_,_,rfl⟩ (by
  rintro i x ρ hx ⟨t8,t9,t10,rfl⟩;obtain⟨u9,u10,e⟩:=hI x t9 t10 (h x (List.mem_of_getElem? hx));exact⟨_,by rw[pJ,kj];exact e,_,_,_,rfl⟩)
 refine⟨t8,t9,t10,?_⟩;unfold lwL;rw[aKr];show iH (bh (aB 6)) (gnm 8) lwI [.sh (.scr ns),.sh (.int k),.sh (.int c),.sh (owD n ps),.sh sp,s5,.nw (.lst ds),s7,s8,s9,s10,s11]=_;have hi:bh (aB 6) [.sh (.scr ns),.sh (.int k),.sh (.int c),.sh (owD n ps),.sh sp,s5,.nw (.lst ds),s7,s8,s9,s10,s11]= .ok ds:=rfl;rw[j7,hi,cI,e]
theorem aLR{f:En->Rs D}{ρ:En}(hf:f ρ= .ok (.int n))(h0:0<=n)(h1:n<=60):trD f ρ= .ok (tupI (bB n)):=by
 unfold trD;rw[hf,aH];unfold trR;dsimp only;rw[if_pos ⟨by lia,by lia⟩,gW]
theorem aNr{f0 f1:List (List Int)}(S:Sp f0 f1):∃ms,w9X (lE ns k c n ps (rpD f0 f1) s5 ds s7 s8 s9 s10 s11)= .ok (.lst ms)/\ms.length=4/\∀d∈ms,nR d:=by
 have hr:=gB (j:=4) (by decide) (by decide);have hlen:(dB 0 4).length=4:=by rw[iy];decide
 obtain⟨ys,e,hl,hy⟩:=aIP (ρ:=stE [none,some 2,some 4,some 3] (shE (lE ns k c n ps (rpD f0 f1) s5 ds s7 s8 s9 s10 s11))) (fg:=gnm 0) (fe:=aO fu (aA (aB 1) (aA (op2 aV (cD (.int 70)) (op2 nG (cD (.int 8)) (aB 0))) (aA (aB 2) (aA (op2 ixD (aB 3) (cD (.int 0))) aF))))) (P:=nR) (dB 0 4) (by
  intro d hd;obtain⟨j,rfl,j0,j1⟩:=iC.mp hd;obtain⟨o,eo,ho⟩:=yE (c:=c) (p:=70+8*j) (m:=n) S (by lia) (by lia);refine⟨[.sh (.int j),.sh (.int c),.sh (rpD f0 f1),.sh (owD n ps)],o,rfl,?_,ho⟩;have hv:aA (aB 1) (aA (op2 aV (cD (.int 70)) (op2 nG (cD (.int 8)) (aB 0))) (aA (aB 2) (aA (op2 ixD (aB 3) (cD (.int 0))) aF))) [.sh (.int j),.sh (.int c),.sh (rpD f0 f1),.sh (owD n ps)]= .ok [.int c,.int (70+8*j),rpD f0 f1,.int n]:=by
   have hm:nG (.int 8) (.int j)= .ok (.int (8*j)):=aBv (by decide) (by decide);simp[owD,hm]
  rw[eF,hv,aH,eo])
 refine⟨ys,?_,by rw[hl,hlen],hy⟩;unfold w9X;refine iD (ds:=dB 0 4) ?_ (by rw[hlen];decide) e;rw[<-hr];rfl
theorem aFR{g:List Int->List Int}{fe:En->Rs D}{fi:En->Rs (List D)}{ρ:En}{rws:List (List Int)}(hi:fi (shE ρ)= .ok (rws.map tupI))(hl:rws.length<=1000)(he:∀r∈rws,fe [.sh (tupI r)]= .ok (tupI (g r))):opA dq (aA (lcD fi [none] (gnm 0) bV fe) aF) ρ= .ok (.tup ((rws.map g).map tupI)):=by
 have:lcD fi [none] (gnm 0) bV fe ρ= .ok (.lst ((rws.map g).map tupI)):=by
  refine iD hi (by rw[List.length_map];lia) ?_;rw[List.map_map];exact uH (ρ:=stE [none] (shE ρ)) (fg:=gnm 0) (f:=tupI) (g:=tupI∘g) rws λ r hr=>⟨[.sh (tupI r)],rfl,he r hr⟩
 rw[fO,aX,this,aH,bQ,aH,aH,je,bC]
theorem vJ(r:List Int)(a b:Option Int):∃w:List Int,cutD (r.map D.int) a b=w.map .int/\w.length<=r.length:=by
 refine⟨(r.drop (HT.sIx r.length 0 a)).take (HT.sIx r.length r.length b-HT.sIx r.length 0 a),?_,?_⟩
 ·unfold cutD
  rw[List.length_map,List.map_take,List.map_drop]
 ·rw[List.length_take,List.length_drop]
  lia
theorem qe{g:List Int->List Int}{m:Nat}:∀(rws:List (List Int)),(∀r∈rws,(g r).length<=m*r.length)->((rws.map g).flatten).length<=m*rws.flatten.length
 |[],_=>by simp
 |r::rws,h=>by
  rw[List.map_cons,List.flatten_cons,List.length_append,List.flatten_cons,List.length_append,Nat.mul_add];have h1:=h r List.mem_cons_self;have h2:=qe rws λ x hx=>h x (List.mem_cons_of_mem _ hx)
  lia
theorem aAV{R:List Int->List Int->Prop}(rws:List (List Int))(h:∀r∈rws,∃w,R r w):∃g:List Int->List Int,∀r∈rws,R r (g r):=by
 refine⟨λ r=>if hr:r∈rws then(h r hr).choose else[],λ r hr=>?_⟩;dsimp only;rw[dif_pos hr];exact(h r hr).choose_spec
def aGp(fe:En->Rs D)(r w:List Int):Prop:=fe [.sh (tupI r)]= .ok (tupI w)/\w.length<=2*r.length
theorem yc{r:List Int}{a b:Option Int}{w:List Int}(e:cutD (r.map D.int) a b=w.map .int){fa fb:En->Rs (Option Int)}{ρ:En}{i:Nat}(hv:aB i ρ= .ok (tupI r))(ha:fa ρ= .ok a)(hb:fb ρ= .ok b):aP (bA (aB i) fa fb) ρ= .ok (tupI w):=by
 have h:bA (aB i) fa fb ρ= .ok (tupI w):=by
  rw[aFz,hv,aH,ha,aH,hb,aH];show okD (slD (.tup (r.map D.int)) a b)=_;rw[aJ9,e,bC]
 rw[gk,h,aH,gY]
theorem aDp{f g:En->Rs D}{ρ:En}{v w:List Int}(hf:f ρ= .ok (tupI v))(hg:g ρ= .ok (tupI w))(hl:v.length+w.length<=1000):op2 aV f g ρ= .ok (tupI (v++w)):=by
 rw[b8,hf,aH,hg,aH];show okD (aV (.tup (v.map D.int)) (.tup (w.map D.int)))=_;rw[aDq,if_pos (by rw[List.length_map,List.length_map];lia),bC,<-List.map_append]
theorem fe8{r:List Int}(hl:r.length<=100):∃w,aGp (op2 aV (aP (bA (aB 0) bO (bK (cD (.int 1))))) (aP (op1 aCq (aB 0)))) r w:=by
 obtain⟨w1,e1,l1⟩:=vJ r none (some 1);have h1:aP (bA (aB 0) bO (bK (cD (.int 1)))) [.sh (tupI r)]= .ok (tupI w1):=yc e1 rfl rfl rfl;have h2:aP (op1 aCq (aB 0)) [.sh (tupI r)]= .ok (tupI (xn r)):=by
  have:op1 aCq (aB 0) [.sh (tupI r)]= .ok (tupI (xn r)):=by
   show okD (aCq (.tup (r.map D.int)))=_;unfold aCq;dsimp only;rw[bC];unfold xn tupI;rw[List.length_map,<-List.map_reverse,<-List.map_take]
  rw[gk,this,aH,gY]
 have l2:(xn r).length<=r.length:=by unfold xn;rw[List.length_take,List.length_reverse];lia
 exact⟨w1++xn r,aDp h1 h2 (by lia),by rw[List.length_append];lia⟩
theorem fe9{r:List Int}(hl:r.length<=100):∃w,aGp (op2 aV (aP (bA (aB 0) (bK (cD (.int 1))) bO)) (aP (bA (aB 0) bO (bK (cD (.int 1)))))) r w:=by
 obtain⟨w1,e1,l1⟩:=vJ r (some 1) none;obtain⟨w2,e2,l2⟩:=vJ r none (some 1);have h1:aP (bA (aB 0) (bK (cD (.int 1))) bO) [.sh (tupI r)]= .ok (tupI w1):=yc e1 rfl rfl rfl;have h2:aP (bA (aB 0) bO (bK (cD (.int 1)))) [.sh (tupI r)]= .ok (tupI w2):=yc e2 rfl rfl rfl;exact⟨w1++w2,aDp h1 h2 (by lia),by rw[List.length_append];lia⟩
theorem feA{r:List Int}:∃w,aGp (aP (op1 uB (aB 0))) r w:=by
 refine⟨r.reverse,?_,by rw[List.length_reverse];lia⟩
 have:op1 uB (aB 0) [.sh (tupI r)]= .ok (tupI r.reverse):=by
  show okD (uB (.tup (r.map D.int)))=_;rw[aH7,bC,<-List.map_reverse]
 rw[gk,this,aH,gY]
theorem aMJ{rws:List (List Int)}{r:List Int}(h:r∈rws):r.length<=rws.flatten.length:=by
 induction rws with
 |nil=>cases h
 |cons x l ih=>
  rw[List.flatten_cons,List.length_append];rcases List.mem_cons.mp h with rfl|h
  ·lia
  ·have:=ih h;lia
theorem ux(f:List (List Int)):imm (.tup (f.map tupI))=true:=by
 simp only[imm];exact j5 λ d hd=>by obtain⟨r,_,rfl⟩:=List.mem_map.mp hd;exact zr r
theorem aBN{es:List Int}{a b:Option Int}{fa fb:En->Rs (Option Int)}{ρ:En}{i:Nat}(hv:aB i ρ= .ok (tupI es))(ha:fa ρ= .ok a)(hb:fb ρ= .ok b):∃w:List Int,aP (bA (aB i) fa fb) ρ= .ok (tupI w)/\w.length<=es.length:=by
 obtain⟨w,e,l⟩:=vJ es a b;exact⟨w,yc e hv ha hb,l⟩
theorem aLo{a:D}{f:En->Rs D}{ρ:En}(e1:f ρ= .ok a):aZ (aA f aF) ρ= .ok (.tup [a]):=by
 rw[nJ,aX,e1,aH,bQ,aH,aH,if_pos (by simp)]
theorem aA4{a b:D}{f g:En->Rs D}{ρ:En}(e1:f ρ= .ok a)(e2:g ρ= .ok b):aZ (aA f (aA g aF)) ρ= .ok (.tup [a,b]):=by
 rw[nJ,aX,e1,aH,aX,e2,aH,bQ,aH,aH,aH,if_pos (by simp)]
theorem aDz{ρ:En}:aZ aF ρ= .ok (.tup []):=by
 rw[nJ,bQ,aH,if_pos (by simp)]
theorem aPE{a b:D}{f g:En->Rs D}{ρ:En}(e1:f ρ= .ok a)(e2:g ρ= .ok b):fD (aA f (aA g aF)) ρ= .ok (.lst [a,b]):=by
 rw[aF7,aX,e1,aH,aX,e2,aH,bQ,aH,aH,aH,if_pos (by simp)]
theorem aPD{a b c d:D}{f g h i:En->Rs D}{ρ:En}(e1:f ρ= .ok a)(e2:g ρ= .ok b)(e3:h ρ= .ok c)(e4:i ρ= .ok d):fD (aA f (aA g (aA h (aA i aF)))) ρ= .ok (.lst [a,b,c,d]):=by
 rw[aF7,aX,e1,aH,aX,e2,aH,aX,e3,aH,aX,e4,aH,bQ,aH,aH,aH,aH,aH,if_pos (by simp)]
theorem aI2(f0 f1:List (List Int)):imm (rpD f0 f1)=true:=by
 have h0:=ux f0;have h1:=ux f1;simp only[imm]at h0 h1;simp[rpD,imm,lJ,h0,h1]
theorem aJI{f0 f1:List (List Int)}:atX 0 (lE ns k c n ps (rpD f0 f1) s5 ds s7 s8 s9 s10 s11)= .ok (.tup (f0.map tupI))/\atX 1 (lE ns k c n ps (rpD f0 f1) s5 ds s7 s8 s9 s10 s11)= .ok (.tup (f1.map tupI)):=by
 unfold atX;refine⟨?_,?_⟩
 ·rw[gk]
  show(Rs.ok (D.tup (f0.map tupI))).bd kO=_
  rw[aH,iV (ux f0)]
 ·rw[gk]
  show(Rs.ok (D.tup (f1.map tupI))).bd kO=_
  rw[aH,iV (ux f1)]
theorem aJY{f0 f1:List (List Int)}(S:Sp f0 f1):∃d,wAX (lE ns k c n ps (rpD f0 f1) s5 ds s7 s8 s9 s10 s11)= .ok d/\nR d:=by
 have h0:=S.few;have h1:=gP S.n0;have h2:=gP S.n1;obtain⟨g,hg⟩:=aAV (R:=aGp aOg) f0 λ r hr=>feA
 have hf:=qe (g:=g) (m:=2) f0 λ r hr=>(hg r hr).2
 exact⟨rpD (f0.map g) f1,aA4 (aFR rfl (by lia) λ r hr=>(hg r hr).1) aJI.2,pK (by rw[List.length_map];lia)⟩
theorem aFC{f0 f1:List (List Int)}(S:Sp f0 f1){fe:En->Rs D}(h:∀{r:List Int},r.length<=100->∃w,aGp fe r w):∃d,wBX fe (lE ns k c n ps (rpD f0 f1) s5 ds s7 s8 s9 s10 s11)= .ok d/\nR d:=by
 have h0:=S.few;have h1:=gP S.n0;have h2:=gP S.n1;obtain⟨g,hg⟩:=aAV (R:=aGp fe) f1 λ r hr=>h (by have:=aMJ hr;lia)
 have hf:=qe (g:=g) (m:=2) f1 λ r hr=>(hg r hr).2
 exact⟨rpD f0 (f1.map g),aA4 aJI.1 (aFR rfl (by lia) λ r hr=>(hg r hr).1),pK (by rw[List.length_map];lia)⟩
theorem aNs{es:List Int}(hl:es.length<=6):∃d1 d2,w8X (lE ns k c n ps sp s5 ds (.sh (tupI es)) s8 s9 s10 s11)= .ok (.lst [d1,d2])/\nR d1/\nR d2:=by
 have hv:aB 7 (lE ns k c n ps sp s5 ds (.sh (tupI es)) s8 s9 s10 s11)= .ok (tupI es):=rfl;obtain⟨a1,e1,l1⟩:=aBN (a:=none) (b:=some 3) (fa:=bO) (fb:=bK (cD (.int 3))) hv rfl rfl;obtain⟨a2,e2,l2⟩:=aBN (a:=some 3) (b:=none) (fa:=bK (cD (.int 3))) (fb:=bO) hv rfl rfl;have e0:aP (aB 7) (lE ns k c n ps sp s5 ds (.sh (tupI es)) s8 s9 s10 s11)= .ok (tupI es):=by rw[gk,hv,aH,gY]
 refine⟨rpD [] [es],rpD [] [a1,a2],aPE (aA4 aDz (aLo e0)) (aA4 aDz (aA4 e1 e2)),pK ?_,pK ?_⟩
 ·simp;lia
 ·simp;lia
end
theorem aNA{ns:List Int}{k:Int}(k0:0<=k){s2 s3 s4 s5 s6 s7 s8 s9 s10 s11:Slot}:∃t2 t3 t4 t5 t6 t7 t8 t9 t10,lwK [.sh (.scr ns),.sh (.int k),s2,s3,s4,s5,s6,s7,s8,s9,s10,s11]= .nx [.sh (.scr ns),.sh (.int k),t2,t3,t4,t5,t6,t7,t8,t9,t10,s11]:=by
 obtain⟨c,e2⟩:=aLB (ns:=ns) k0;obtain⟨n,ps,e3,O,low,_,n6⟩:=aEe (c:=c) (most:=6) (by decide);have W:Wb n ps:=⟨O,low⟩;have hn:n<=6:=by lia
 have n0:=O.n0;obtain⟨f0,f1,e4,S⟩:=yK (c:=c) W hn;obtain⟨dod,e6,fod⟩:=aCF (c:=c);have hes:(bB n).length<=6:=by rw[dF];lia
 have h0:=S.few;have h1:=gP S.n0;have h2:=gP S.n1;have c2:bY 2 (aO fH (aA (aB 0) (aA (aB 1) aF))) [.sh (.scr ns),.sh (.int k),s2,s3,s4,s5,s6,s7,s8,s9,s10,s11]= .nx [.sh (.scr ns),.sh (.int k),.sh (.int c),s3,s4,s5,s6,s7,s8,s9,s10,s11]:=by simp[e2]
 have c3:bY 3 (aO ju (aA (aB 2) (aA (cD (.int 6)) aF))) [.sh (.scr ns),.sh (.int k),.sh (.int c),s3,s4,s5,s6,s7,s8,s9,s10,s11]= .nx [.sh (.scr ns),.sh (.int k),.sh (.int c),.sh (owD n ps),s4,s5,s6,s7,s8,s9,s10,s11]:=by
  have e3':ju [.int c,.int 6]= .ok (owD n ps):=e3;simp[e3']
 have c4:bY 4 (aO dM (aA (aB 2) (aA (aB 3) aF))) [.sh (.scr ns),.sh (.int k),.sh (.int c),.sh (owD n ps),s4,s5,s6,s7,s8,s9,s10,s11]= .nx [.sh (.scr ns),.sh (.int k),.sh (.int c),.sh (owD n ps),.sh (rpD f0 f1),s5,s6,s7,s8,s9,s10,s11]:=by simp[e4]
 obtain⟨al,hal⟩:∃al,al=rpD ((bB n).map λ x=>[x]) []:=⟨_,rfl⟩
 have c5:bY 5 w5X [.sh (.scr ns),.sh (.int k),.sh (.int c),.sh (owD n ps),.sh (rpD f0 f1),s5,s6,s7,s8,s9,s10,s11]= .nx [.sh (.scr ns),.sh (.int k),.sh (.int c),.sh (owD n ps),.sh (rpD f0 f1),.sh al,s6,s7,s8,s9,s10,s11]:=by
  have hr:=gB (j:=n) (by lia) (by lia);have hc:lcD (cX dm (aA (op2 ixD (aB 3) (cD (.int 0))) aF)) [none] (gnm 0) bV (aZ (aA (aP (aB 0)) aF)) [.sh (.scr ns),.sh (.int k),.sh (.int c),.sh (owD n ps),.sh (rpD f0 f1),s5,s6,s7,s8,s9,s10,s11]= .ok (.lst (((bB n).map λ x=>[x]).map tupI)):=by
   rw[List.map_map];refine iD (ds:=(bB n).map .int) ?_ (by rw[List.length_map,dF];lia) ?_
   ·rw[<-gW,<-hr];rfl
   ·exact uH (fg:=gnm 0) (f:=D.int) (g:=tupI∘λ x=>[x]) (bB n) λ x _=>⟨[.sh (.int x)],rfl,by simp[tupI]⟩
  have hv:w5X [.sh (.scr ns),.sh (.int k),.sh (.int c),.sh (owD n ps),.sh (rpD f0 f1),s5,s6,s7,s8,s9,s10,s11]= .ok al:=by
   rw[hal];exact aA4 (by rw[fO,aX,hc,aH,bQ,aH,aH,je,bC]) aDz
  rw[aBa,hv,cI];rfl
 have c6:jX 6 w6X [.sh (.scr ns),.sh (.int k),.sh (.int c),.sh (owD n ps),.sh (rpD f0 f1),.sh al,s6,s7,s8,s9,s10,s11]= .nx (lE ns k c n ps (rpD f0 f1) (.sh al) [rpD f0 f1,al,dod,rpD [] []] s7 s8 s9 s10 s11):=by
  have v1:aP (aB 4) [.sh (.scr ns),.sh (.int k),.sh (.int c),.sh (owD n ps),.sh (rpD f0 f1),.sh al,s6,s7,s8,s9,s10,s11]= .ok (rpD f0 f1):=by
   rw[gk]
   show(Rs.ok (rpD f0 f1)).bd kO=_
   rw[aH,iV (aI2 _ _)]
  have v2:aP (aB 5) [.sh (.scr ns),.sh (.int k),.sh (.int c),.sh (owD n ps),.sh (rpD f0 f1),.sh al,s6,s7,s8,s9,s10,s11]= .ok al:=by
   rw[gk]
   show(Rs.ok al).bd kO=_
   rw[aH,iV (by rw[hal];exact aI2 _ _)]
  have v4:aO lq (aA (aB 2) aF) [.sh (.scr ns),.sh (.int k),.sh (.int c),.sh (owD n ps),.sh (rpD f0 f1),.sh al,s6,s7,s8,s9,s10,s11]= .ok dod:=by simp[e6]
  unfold w6X;rw[yN,aPD v1 v2 v4 (aA4 aDz aDz),cI];rfl
 have F6:∀d∈[rpD f0 f1,al,dod,rpD [] []],nR d:=λ d hd=>by
  simp only[List.mem_cons,List.not_mem_nil,or_false]at hd;rcases hd with rfl|rfl|rfl|rfl
  ·exact pK (by lia)
  ·rw[hal];exact pK (by rw[zy,List.length_map];simp;lia)
  ·exact fod
  ·exact pK (by decide)
 have c7:bY 7 w7X (lE ns k c n ps (rpD f0 f1) (.sh al) [rpD f0 f1,al,dod,rpD [] []] s7 s8 s9 s10 s11)= .nx (lE ns k c n ps (rpD f0 f1) (.sh al) [rpD f0 f1,al,dod,rpD [] []] (.sh (tupI (bB n))) s8 s9 s10 s11):=by
  have hv:w7X (lE ns k c n ps (rpD f0 f1) (.sh al) [rpD f0 f1,al,dod,rpD [] []] s7 s8 s9 s10 s11)= .ok (tupI (bB n)):=aLR rfl n0 (by lia);rw[aBa,hv,cI];rfl
 obtain⟨g1,g2,e8,G1,G2⟩:=aNs (ns:=ns) (k:=k) (c:=c) (n:=n) (ps:=ps) (sp:=rpD f0 f1) (s5:=.sh al) (ds:=[rpD f0 f1,al,dod,rpD [] []]) (s8:=s8) (s9:=s9) (s10:=s10) (s11:=s11) hes;have c8:=aOl e8 (by simp);obtain⟨m9,e9,l9,F9⟩:=aNr (ns:=ns) (k:=k) (c:=c) (n:=n) (ps:=ps) (s5:=.sh al) (ds:=[rpD f0 f1,al,dod,rpD [] []]++[g1,g2]) (s7:=.sh (tupI (bB n))) (s8:=s8) (s9:=s9) (s10:=s10) (s11:=s11) S;have c9:=aOl e9 (by simp;lia);obtain⟨mA,eA,FA⟩:=aJY (ns:=ns) (k:=k) (c:=c) (n:=n) (ps:=ps) (s5:=.sh al) (ds:=[rpD f0 f1,al,dod,rpD [] []]++[g1,g2]++m9) (s7:=.sh (tupI (bB n))) (s8:=s8) (s9:=s9) (s10:=s10) (s11:=s11) S;have cA:=aNe eA (by simp;lia);obtain⟨mB,eB,FB⟩:=aFC (ns:=ns) (k:=k) (c:=c) (n:=n) (ps:=ps) (s5:=.sh al) (ds:=[rpD f0 f1,al,dod,rpD [] []]++[g1,g2]++m9++[mA]) (s7:=.sh (tupI (bB n))) (s8:=s8) (s9:=s9) (s10:=s10) (s11:=s11) S (fe:=aOf) fe8;have cB:=aNe eB (by simp;lia);obtain⟨mC,eC,FC⟩:=aFC (ns:=ns) (k:=k) (c:=c) (n:=n) (ps:=ps) (s5:=.sh al) (ds:=[rpD f0 f1,al,dod,rpD [] []]++[g1,g2]++m9++[mA]++[mB]) (s7:=.sh (tupI (bB n))) (s8:=s8) (s9:=s9) (s10:=s10) (s11:=s11) S (fe:=aOe) fe9;have cC:=aNe eC (by simp;lia);have hall:∀d∈[rpD f0 f1,al,dod,rpD [] []]++[g1,g2]++m9++[mA]++[mB]++[mC],nR d:=λ d hd=>by
  rcases List.mem_append.mp hd with hd|hd
  ·rcases List.mem_append.mp hd with hd|hd
   ·rcases List.mem_append.mp hd with hd|hd
    ·rcases List.mem_append.mp hd with hd|hd
     ·rcases List.mem_append.mp hd with hd|hd
      ·exact F6 d hd
      ·simp only[List.mem_cons,List.not_mem_nil,or_false]at hd
       rcases hd with rfl|rfl
       ·exact G1
       ·exact G2
     ·exact F9 d hd
    ·rw[List.mem_singleton]at hd;rw[hd];exact FA
   ·rw[List.mem_singleton]at hd;rw[hd];exact FB
  ·rw[List.mem_singleton]at hd;rw[hd];exact FC
 obtain⟨t8,t9,t10,cL⟩:=aMz (ns:=ns) (k:=k) (c:=c) (n:=n) (ps:=ps) (sp:=rpD f0 f1) (s5:=.sh al) (s7:=.sh (tupI (bB n))) (s8:=s8) (s9:=s9) (s10:=s10) (s11:=s11) W hall (by simp;lia);refine⟨.sh (.int c),.sh (owD n ps),.sh (rpD f0 f1),.sh al,.nw (.lst ([rpD f0 f1,al,dod,rpD [] []]++[g1,g2]++m9++[mA]++[mB]++[mC])),.sh (tupI (bB n)),t8,t9,t10,?_⟩;unfold lwK;rw[aM,c2,ak,aM,c3,ak,aM,c4,ak,aM,c5,ak,aM,c6,ak,aM,c7,ak,aM,c8,ak,aM,c9,ak,aM,cA,ak,aM,cB,ak,aM,cC,ak,cL]
def uZ:List (Int×Int):=(bB 59).map λ x=>(x,x+1)
theorem W60:Wb 60 uZ:=⟨⟨by decide,by decide,by decide+kernel,by decide+kernel,by decide+kernel⟩,by decide+kernel⟩
theorem rg1:di [owD 60 uZ,rpD [bB 60] []]= .ok (.bl true):=(pI W60 (aEs (by decide+kernel) (by decide+kernel))).trans (congrArg (λ b=>Rs.ok (D.bl b)) (by decide+kernel))
theorem rg2:di [owD 60 uZ,rpD [] [bB 60]]= .ok (.bl false):=(pI W60 (aEs (by decide+kernel) (by decide+kernel))).trans (congrArg (λ b=>Rs.ok (D.bl b)) (by decide+kernel))
theorem aMx{ρ:En}:lwS ρ= .ok (owD 60 uZ):=by
 have hr:=gB (j:=59) (by decide) (by decide);have h1:lcD (cX dm (aA (cD (.int 59)) aF)) [none] (gnm 0) bV (aZ (aA (aP (aB 0)) (aA (op2 aV (aP (aB 0)) (cD (.int 1))) aF))) ρ= .ok (.lst (uZ.map pD)):=by
  have:uZ.map pD=(bB 59).map λ x=>pD (x,x+1):=by unfold uZ;rw[List.map_map];rfl
  rw[this];refine iD (ds:=(bB 59).map D.int) (by rw[<-gW,<-hr];rfl) (by rw[List.length_map,dF];decide) ?_;exact uH (ρ:=stE [none] (shE ρ)) (fg:=gnm 0) (fe:=aZ (aA (aP (aB 0)) (aA (op2 aV (aP (aB 0)) (cD (.int 1))) aF))) (f:=D.int) (g:=λ x=>pD (x,x+1)) (bB 59) λ x _=>⟨[.sh (.int x)],rfl,by simp[pD]⟩
 exact aA4 (by simp) (by rw[fO,aX,h1,aH,bQ,aH,aH,je,bC])
theorem aIR(ns:List Int)(hn:ns.length<=63):aJO [.scr ns]= .ok (.bl true):=by
 have st:bF 12 [.scr ns]=[.sh (.scr ns),.no,.no,.no,.no,.no,.no,.no,.no,.no,.no,.no]:=rfl;have hk:∃m:Int,(if (if (8:Int)<(ns.length:Int)then(8:Int)else(ns.length:Int))>1 then(if (8:Int)<(ns.length:Int)then(8:Int)else(ns.length:Int))else 1)=m/\0<=m/\m<=8:=⟨_,rfl,by split<;>split<;>lia,by split<;>split<;>lia⟩
 obtain⟨m,hm,m0,m1⟩:=hk;have hr:=gB (j:=m) (by lia) (by lia);obtain⟨ρ',e,t1,t2,t3,t4,t5,t6,t7,t8,t9,t10,rfl⟩:=j8 (a:=gnm 1) (u:=lwK) (dB 0 m) (λ _ ρ=>∃t1 t2 t3 t4 t5 t6 t7 t8 t9 t10,ρ=[.sh (.scr ns),t1,t2,t3,t4,t5,t6,t7,t8,t9,t10,.no]) [.sh (.scr ns),.no,.no,.no,.no,.no,.no,.no,.no,.no,.no,.no] ⟨_,_,_,_,_,_,_,_,_,_,rfl⟩ (by
  rintro i d ρ hd ⟨t1,t2,t3,t4,t5,t6,t7,t8,t9,t10,rfl⟩;obtain⟨rfl,_⟩:=oG hd;obtain⟨u2,u3,u4,u5,u6,u7,u8,u9,u10,e⟩:=aNA (ns:=ns) (k:=0+(i:Int)) (by lia) (s2:=t2) (s3:=t3) (s4:=t4) (s5:=t5) (s6:=t6) (s7:=t7) (s8:=t8) (s9:=t9) (s10:=t10) (s11:=.no);exact⟨_,by rw[pJ,kj];exact e,_,_,_,_,_,_,_,_,_,_,rfl⟩)
 have c1:iH lwR (gnm 1) lwK [.sh (.scr ns),.no,.no,.no,.no,.no,.no,.no,.no,.no,.no,.no]= .nx [.sh (.scr ns),t1,t2,t3,t4,t5,t6,t7,t8,t9,t10,.no]:=by
  have hi:lwR [.sh (.scr ns),.no,.no,.no,.no,.no,.no,.no,.no,.no,.no,.no]= .ok (dB 0 m):=by
   rw[<-hr,<-hm];rfl
  rw[j7,hi,cI,e]
 obtain⟨ρ,hρ⟩:∃ρ:En,ρ=[.sh (.scr ns),t1,t2,t3,t4,t5,t6,t7,t8,t9,t10,.sh (owD 60 uZ)]:=⟨_,rfl⟩
 have z1:bY 11 lwS [.sh (.scr ns),t1,t2,t3,t4,t5,t6,t7,t8,t9,t10,.no]= .nx ρ:=by rw[aBa,aMx,cI,hρ];rfl
 have ht:trD (cD (.int 60)) ρ= .ok (tupI (bB 60)):=aLR rfl (by decide) (by decide);have hv:aB 11 ρ= .ok (owD 60 uZ):=by rw[hρ];rfl
 have q1:lwQ q1X true ρ= .ok (.bl true):=by
  have e1:q1X ρ= .ok (rpD [bB 60] []):=aA4 (aLo ht) aDz;rw[lwQ,b8,eF,aX,hv,aH,aX,e1,aH,bQ,aH,aH,aH,rg1,aH,vO,aH];rfl
 have q2:lwQ q2X false ρ= .ok (.bl true):=by
  have e1:q2X ρ= .ok (rpD [] [bB 60]):=aA4 aDz (aLo ht);rw[lwQ,b8,eF,aX,hv,aH,aX,e1,aH,bQ,aH,aH,aH,rg2,aH,vO,aH];rfl
 simp only[aJO,aK7,bG,st];rw[aM,c1,ak];unfold lwZ;rw[aM,z1,ak,dg,iZ,q1,aH,jc,if_pos rfl,q2];rfl
local macro_rules|`(tactic|walk_at "sc")=>`(tactic|exact⟨rfl,rfl,rfl,by decide+kernel,rfl,by decide+kernel,by decide+kernel⟩)
def top(i:Nat):Stmt:=PySem.Challenge.pw_fewways_k67_ringed_partings_looked_at.main.body.getD i (.Pass ⟨0,0,0,0⟩)
abbrev tX:Stmt:=top 5
abbrev wG:Stmt:=top 6
abbrev tY:Stmt:=top 7
abbrev wF:Stmt:=top 8
abbrev qM:Stmt:=top 9
abbrev jJ:Stmt:=top 10
abbrev tZ:Stmt:=top 11
abbrev qO:Stmt:=top 12
abbrev zG:Stmt:=top 13
abbrev qP:Stmt:=top 14
abbrev uA:Stmt:=top 15
abbrev pA:Stmt:=top 17
abbrev ou:Stmt:=top 18
abbrev vz:Stmt:=top 19
abbrev zH:Stmt:=top 20
abbrev lz:Stmt:=top 21
abbrev mH:Stmt:=top 23
abbrev qN:Stmt:=top 24
abbrev ni:Stmt:=top 26
abbrev tW:Stmt:=top 27
abbrev qL:Stmt:=top 28
abbrev tR:Stmt:=top 29
abbrev vq:Stmt:=top 30
abbrev vy:Stmt:=top 31
abbrev o9:Stmt:=top 32
abbrev mG:Stmt:=top 33
abbrev mF:Stmt:=top 34
abbrev jH:Stmt:=top 35
abbrev mD:Stmt:=top 36
abbrev tQ:Stmt:=top 37
abbrev tU:Stmt:=top 38
abbrev kh:Stmt:=top 39
abbrev tV:Stmt:=top 40
abbrev kZ:Stmt:=top 41
abbrev jF:Stmt:=top 42
abbrev jG:Stmt:=top 43
abbrev aHZ:Stmt:=top 44
theorem aCm:bD ["thing"] ["thing"] (aR tX):=by walk_at "sc"
theorem aEK:bD ["thing"] ["thing"] (aR wG):=by walk_at "sc"
theorem aCn:bD ["many","thing"] ["many","thing"] (aR tY):=by walk_at "sc"
theorem aEJ:bD ["many","thing"] ["many","thing"] (aR wF):=by walk_at "sc"
theorem aBi:bD ["things","at"] ["things"] (aR qM):=by walk_at "sc"
theorem rm:bD ["many","thing","pair"] ["many","thing"] (aR jJ):=by walk_at "sc"
theorem aCo:bD ["many","thing"] ["many","thing"] (aR tZ):=by walk_at "sc"
theorem aBk:bD ["many","rows"] ["many","rows"] (aR qO):=by walk_at "sc"
theorem aGE:bD ["thing"] ["thing"] (aR zG):=by walk_at "sc"
theorem aBl:bD ["thing"] ["thing"] (aR qP):=by walk_at "sc"
theorem aCp:bD ["web","many","ties","near","low","high"] ["web"] (aR uA):=by walk_at "sc"
theorem aAa:bD ["near","thing","place","at"] ["near","thing"] (aR pA):=by walk_at "sc"
theorem aA9:bD ["near","thing"] ["near","thing"] (aR ou):=by walk_at "sc"
theorem aEI:bD ["near","thing"] ["near","thing"] (aR vz):=by walk_at "sc"
theorem aGF:bD ["near","thing","goes","row"] ["near","thing","goes"] (aR zH):=by walk_at "sc"
theorem xY:bD ["way"] ["way"] (aR lz):=by walk_at "sc"
theorem xm:bD ["near","thing"] ["near","thing"] (aR mH):=by walk_at "sc"
theorem aBj:bD ["web","thing","ways","rings","near"] ["web","thing"] (aR qN):=by walk_at "sc"
theorem zF:bD ["_law_script","_law_k"] ["_law_script","_law_k"] (aR ni):=by walk_at "sc"
theorem aCl:bD ["_law_cell","_law_k","_law_bound","_law_left","_law_j","_law_stir"] ["_law_cell","_law_k","_law_bound"] (aR tW):=by walk_at "sc"
theorem aBh:bD ["_law_found"] ["_law_found"] (aR qL):=by walk_at "sc"
theorem aCi:bD ["_law_cell","_law_many","_law_found","_law_place"] ["_law_cell","_law_many"] (aR tR):=by walk_at "sc"
theorem aEG:bD ["_law_cell","_law_most","_law_many","_law_kind","_law_thick","_law_order","_law_ties","_law_spot","_law_j","_law_i","_law_here"] ["_law_cell","_law_most"] (aR vq):=by walk_at "sc"
theorem aEH:bD ["_law_cell","_law_some"] ["_law_cell"] (aR vy):=by walk_at "sc"
theorem aA8:bD ["_law_row"] ["_law_row"] (aR o9):=by walk_at "sc"
theorem xg:bD ["_law_rows","_law_many","_law_found","_law_row"] ["_law_rows","_law_many"] (aR mG):=by walk_at "sc"
theorem xf:bD ["_law_cell","_law_spot","_law_row","_law_many","_law_at","_law_odd_here","_law_some"] ["_law_cell","_law_spot","_law_row","_law_many"] (aR mF):=by walk_at "sc"
theorem rZ:bD ["_law_cell","_law_spot","_law_parting","_law_many","_law_at","_law_way","_law_other","_law_some"] ["_law_cell","_law_spot","_law_parting","_law_many"] (aR jH):=by walk_at "sc"
theorem xZ:bD ["_law_cell","_law_spot","_law_thing","_law_many","_law_at","_law_other","_law_some"] ["_law_cell","_law_spot","_law_thing","_law_many"] (aR mD):=by walk_at "sc"
theorem aCh:bD ["_law_web_here","_law_thing","_law_ring"] ["_law_web_here","_law_thing"] (aR tQ):=by walk_at "sc"
theorem aCj:bD ["_law_web_here","_law_place"] ["_law_web_here","_law_place"] (aR tU):=by walk_at "sc"
theorem vp:bD ["_law_web_here","_law_found","_law_rows","_law_at","_law_row"] ["_law_web_here"] (aR kh):=by walk_at "sc"
theorem aCk:bD ["_law_web_here","_law_thing"] ["_law_web_here","_law_thing"] (aR tV):=by walk_at "sc"
theorem vo:bD ["_law_web_here","_law_thing"] ["_law_web_here","_law_thing"] (aR kZ):=by walk_at "sc"
theorem rT:bD ["_law_web_here","_law_rows","_law_at","_law_row"] ["_law_web_here"] (aR jF):=by walk_at "sc"
theorem rY:bD ["_law_cell","_law_web_here","_law_pieces","_law_left","_law_found","_law_k","_law_piece","_law_kind"] ["_law_cell","_law_web_here"] (aR jG):=by walk_at "sc"
theorem aMF:bD ["_law_script","_law_k","_law_cell","_law_web_here","_law_parting","_law_alone","_law_things","_law_every","_law_thing","_law_turn_here","_law_found","_law_great"] ["_law_script"] (aR aHZ):=by walk_at "sc"
set_option genInjectivity false in
set_option genSizeOf false in
structure Adr where
 aAF:Addr
 jm:FuncData
 aBM:Addr
 lg:FuncData
 aAG:Addr
 jo:FuncData
 aBL:Addr
 lZ:FuncData
 xN:Addr
 iI:FuncData
 mY:Addr
 cF:FuncData
 aAH:Addr
 jq:FuncData
 xP:Addr
 jQ:FuncData
 aD0:Addr
 oO:FuncData
 xQ:Addr
 jR:FuncData
 aAI:Addr
 jr:FuncData
 vG:Addr
 iY:FuncData
 vD:Addr
 gG:FuncData
 rN:Addr
 lY:FuncData
 aD1:Addr
 oR:FuncData
 qg:Addr
 fW:FuncData
 j9:Addr
 fj:FuncData
 xO:Addr
 jP:FuncData
 su:Addr
 fG:FuncData
 aAE:Addr
 jM:FuncData
 xM:Addr
 jO:FuncData
 aAB:Addr
 jh:FuncData
 aBJ:Addr
 lW:FuncData
 aBK:Addr
 lX:FuncData
 vC:Addr
 iW:FuncData
 ql:Addr
 fZ:FuncData
 qj:Addr
 fY:FuncData
 mX:Addr
 dI:FuncData
 qi:Addr
 fX:FuncData
 aAA:Addr
 jg:FuncData
 aAC:Addr
 ji:FuncData
 pX:Addr
 eU:FuncData
 aAD:Addr
 jk:FuncData
 pW:Addr
 eQ:FuncData
 mV:Addr
 dG:FuncData
 mW:Addr
 dH:FuncData
 aLd:Addr
 aAR:FuncData
 sU:Value
 uN:Addr
 aCS:Addr
structure Txt(K:PySem.W.Frag)(mg:Str->Option Value)(t:Adr):Prop where
 uM:Dnr K mg "is_whole" tX ["thing"] t.aAF t.jm
 aBT:Dnr K mg "is_many" wG ["thing"] t.aBM t.lg
 pN:Dnr K mg "is_place" tY ["many","thing"] t.aAG t.jo
 aBS:Dnr K mg "is_pair" wF ["many","thing"] t.aBL t.lZ
 qx:Dnr K mg "is_rising" qM ["things"] t.xN t.iI
 my:Dnr K mg "are_rising_pairs" jJ ["many","thing"] t.mY t.cF
 aAO:Dnr K mg "are_ties" tZ ["many","thing"] t.aAH t.jq
 xR:Dnr K mg "each_once" qO ["many","rows"] t.xP t.jQ
 aD7:Dnr K mg "is_web" zG ["thing"] t.aD0 t.oO
 xT:Dnr K mg "check_web" qP ["thing"] t.xQ t.jR
 aAP:Dnr K mg "all_tied" uA ["web"] t.aAI t.jr
 pO:Dnr K mg "goes_along" pA ["near","thing"] t.vG t.iY
 vH:Dnr K mg "goes_round" ou ["near","thing"] t.vD t.gG
 rO:Dnr K mg "is_wide" vz ["near","thing"] t.rN t.lY
 zQ:PySem.W.nsIn K mainGlobals "is_wide"=some (some (.ref t.rN))
 aAQ:Dnr K mg "all_go" zH ["near","thing","goes"] t.aD1 t.oR
 qm:Dnr K mg "lesser_about" lz ["way"] t.qg t.fW
 jb:Dnr K mg "goes_written" mH ["near","thing"] t.j9 t.fj
 pQ:PySem.W.nsIn K mainGlobals "goes_written"=some (some (.ref t.j9))
 nT:Dnr K mg "is_ringed" qN ["web","thing"] t.xO t.jP
 sy:Dnr K mg "_law_cell_at" ni ["_law_script","_law_k"] t.su t.fG
 cT:Dnr K mg "_law_draw" tW ["_law_cell","_law_k","_law_bound"] t.aAE t.jM
 qp:Dnr K mg "_law_whole" qL ["_law_found"] t.xM t.jO
 aAM:Dnr K mg "_law_turn" tR ["_law_cell","_law_many"] t.aAB t.jh
 aBQ:Dnr K mg "_law_web" vq ["_law_cell","_law_most"] t.aBJ t.lW
 aBR:Dnr K mg "_law_odd" vy ["_law_cell"] t.aBK t.lX
 pM:Dnr K mg "_law_rising" o9 ["_law_row"] t.vC t.iW
 qw:Dnr K mg "_law_all_once" mG ["_law_rows","_law_many"] t.ql t.fZ
 qu:Dnr K mg "_law_bent_row" mF ["_law_cell","_law_spot","_law_row","_law_many"] t.qj t.fY
 mq:Dnr K mg "_law_bent_parting" jH ["_law_cell","_law_spot","_law_parting","_law_many"] t.mX t.dI
 qt:Dnr K mg "_law_bent_two" mD ["_law_cell","_law_spot","_law_thing","_law_many"] t.qi t.fX
 uK:Dnr K mg "_law_wide" tQ ["_law_web_here","_law_thing"] t.aAA t.jg
 uL:Dnr K mg "_law_near" tU ["_law_web_here","_law_place"] t.aAC t.ji
 pZ:Dnr K mg "_law_all_rings" kh ["_law_web_here"] t.pX t.eU
 aAN:Dnr K mg "_law_goes" tV ["_law_web_here","_law_thing"] t.aAD t.jk
 pY:Dnr K mg "_law_is_ringed" kZ ["_law_web_here","_law_thing"] t.pW t.eQ
 m7:Dnr K mg "_law_two_way_ways" jF ["_law_web_here"] t.mV t.dG
 m8:Dnr K mg "_law_drawn_ringed" jG ["_law_cell","_law_web_here"] t.mW t.dH
 aIu:Dnr K mg "law" aHZ ["_law_script"] t.aLd t.aAR
 kE:mg "MOST_PLACES"=some t.sU
 aAb:RelV (.int 60) t.sU
 m_FewError:mg "FewError"=some (.ref t.uN)
 l_FewError:cj mg "FewError"=t.uN
 o5:aGr K t.uN
 aKZ:mg "NoWeb"=some (.ref t.aCS)
 aK8:cj mg "NoWeb"=t.aCS
 uP:aGr K t.aCS
 uo:mg "all"=none
 aE6:mg "bool"=none
 aDG:mg "enumerate"=none
 aLa:mg "int"=none
 bM:mg "isinstance"=none
 fP:mg "len"=none
 wJ:mg "list"=none
 aDF:mg "max"=none
 wz:mg "min"=none
 cg:mg "range"=none
 aF3:mg "set"=none
 qY:mg "sorted"=none
 dD:mg "tuple"=none
section
variable{P:Program}{w:World}{K:PySem.W.Frag}{mg:Str->Option Value}{base:Heap}{t:Adr}
theorem wy(T:Txt K mg t):dJ P w K mg base (CX1 P w) 1 t.aAF t.jm ["thing"] (spF K (cj mg) 1 nC):=
 bH (k:=0) (f:=jm) T.uM aCm λ n _ _ _ _ _ _ _=>
  (aN (au (fB (iu (aC 0) T.bM T.aLa) (g8 (aHV (iu (aC 0) T.bM T.aE6))))))
theorem ul(T:Txt K mg t):dJ P w K mg base (CX1 P w) 1 t.xN t.iI ["things"] (spF K (cj mg) 1 dh):=
 bH (k:=0) (f:=iI) T.qx aBi λ n _ _ _ _ _ _ _=>
  (aK (jD (aB9 (aD aJ (aD (dZ T.fP (aD (aC 0) aG)) aG)) T.cg) (cu (ks:=[1]))
   (aN (du (fL (yr (aL (aC 0) (vg (aC 1) aJ)) (aL (aC 0) (aC 1))))
    (aN (au fJ))
    bT)))
  (aN (au fJ)))
theorem aBt(T:Txt K mg t):dJ P w K mg base (CX1 P w) 1 t.xP t.jQ ["many","rows"] (spF K (cj mg) 2 jU):=
 bH (k:=0) (f:=jQ) T.xR aBk λ n _ _ _ _ _ _ _=>
  (aN (au (uX (rB T.qY (aD (aOJ (N:=["row","place"]) (js:=[none,none]) (ks:=[0]) (ks2:=[1]) (dU (aC 1)) bJ eO (dU (aC 0)) bJ eO (aW (aC 1))) aG)) (tO T.wJ T.cg (aC 0)))))
theorem aDB(T:Txt K mg t):dJ P w K mg base (CX1 P w) 1 t.aAI t.jr ["web"] (spF K (cj mg) 1 jy):=
 bH (k:=0) (f:=jr) T.aAP aCp λ n _ _ _ _ _ _ _=>
  (aK (aHL (aC 0) (v9 (n:=2) (gO (cu (ks:=[1,2])) (gO (cu (ks:=[1,2])) rA))))
  (aK (aOF (N:=["place"]) (js:=[none]) (ks:=[0]) (gA (aD (aC 1) aG) T.cg) bJ)
  (aK (jD (dU (aC 2)) (v9 (n:=2) (gO (cu (ks:=[4,5])) (gO (cu (ks:=[4,5])) rA)))
   (aK (tK 3 (aC 4) (aW (aC 5)))
   (aN (tK 3 (aC 5) (aW (aC 4))))))
  (aN (au (o7 3))))))
theorem xq(T:Txt K mg t):dJ P w K mg base (CX1 P w) 1 t.qg t.fW ["way"] (spF K (cj mg) 1 iJ):=
 bH (k:=0) (f:=fW) T.qm xY λ n _ _ _ _ _ _ _=>
  (aN (au (aHW T.wz (aD (aC 0) (aD (zB (aC 0)) aG)))))
theorem zO(T:Txt K mg t):dJ P w K mg base (CX1 P w) 1 t.su t.fG ["_law_script","_law_k"] (spF K (cj mg) 2 fH):=
 bH (k:=0) (f:=fG) T.sy zF λ n _ _ _ _ _ _ _=>
  (aK (du (yr (aC 1) (dZ T.fP (aD (aC 0) aG)))
   (aN (au (aW (aL (aC 0) (aC 1)))))
   bT)
  (aN (au aJ)))
theorem cG(T:Txt K mg t):dJ P w K mg base (CX1 P w) 1 t.aAE t.jM ["_law_cell","_law_k","_law_bound"] (spF K (cj mg) 3 aY):=
 bH (k:=0) (f:=jM) T.cT aCl λ n _ _ _ _ _ _ _=>
  (aK (du (aOE (aC 0) (aHU aJ aJ))
   (aK (bU (i:=3) (eV (aC 0)))
   (aK (jD (gA (aD (aC 1) aG) T.cg) (cu (ks:=[4]))
    (aN (bU (i:=3) (eV (aFM (aC 3) (aC 2))))))
   (aN (au (qK (aC 3) (aC 2))))))
   bT)
  (aK (bU (i:=5) (eV (qK (vm (aj (aj (qK (aC 0) aJ) (vm aJ (aC 1))) aJ) aJ) aJ)))
  (aK (bU (i:=5) (eV (qK (aj (aj (vm (aC 5) (aC 5)) (vm aJ (aC 1))) aJ) aJ)))
  (aN (au (qK (aFM (qK (vm (aC 5) aJ) aJ) aJ) (aC 2)))))))
theorem uh(T:Txt K mg t):dJ P w K mg base (CX1 P w) 1 t.xM t.jO ["_law_found"] (spF K (cj mg) 1 jT):=
 bH (k:=0) (f:=jO) T.qp aBh λ n _ _ _ _ _ _ _=>
  (aN (au (fB (iu (aC 0) T.bM T.aLa) (g8 (aHV (iu (aC 0) T.bM T.aE6))))))
theorem sV(T:Txt K mg t):dJ P w K mg base (CX1 P w) 1 t.vC t.iW ["_law_row"] (spF K (cj mg) 1 gK):=
 bH (k:=0) (f:=iW) T.pM aA8 λ n _ _ _ _ _ _ _=>
  (aN (au (o8 T.uo (aD (gj (N:=["_law_k","_law_row"]) (js:=[none,some 0]) (ks:=[0]) (aB9 (aD aJ (aD (dZ T.fP (aD (aC 0) aG)) aG)) T.cg) bJ eO (aFL (aL (aC 1) (vg (aC 0) aJ)) (aL (aC 1) (aC 0)))) aG))))
theorem xx(T:Txt K mg t):dJ P w K mg base (CX1 P w) 1 t.ql t.fZ ["_law_rows","_law_many"] (spF K (cj mg) 2 iM):=
 bH (k:=0) (f:=fZ) T.qw xg λ n _ _ _ _ _ _ _=>
  (aK (jW (i:=2) (uT (vd aG)))
  (aK (jD (dU (aC 0)) (cu (ks:=[3]))
   (aN (aEA 2 (aW (aC 3)))))
  (aN (au (uX (rB T.qY (aD (qJ 2) aG)) (tO T.wJ T.cg (aC 1)))))))
theorem ww(T:Txt K mg t):dJ P w K mg base (CX1 P w) 1 t.aAC t.ji ["_law_web_here","_law_place"] (spF K (cj mg) 2 gM):=
 bH (k:=0) (f:=ji) T.uL aCj λ n _ _ _ _ _ _ _=>
  (aN (au (gj (N:=["_law_other","_law_place","_law_web_here"]) (js:=[none,some 1,some 0]) (ks:=[0]) (gA (aD (aL (aC 0) aJ) aG) T.cg) bJ (tL (aLX (aa (aD (yO T.wz (aD (aC 1) (aD (aC 0) aG))) (aD (yP T.aDF (aD (aC 1) (aD (aC 0) aG))) aG))) (aL (aC 2) aJ))) (aW (aC 0)))))
theorem aE4(T:Txt K mg t):dJ P w K mg base (CX1 P w) 2 t.aBM t.lg ["thing"] (spF K (cj mg) 1 rQ):=
 bH (k:=1) (f:=lg) T.aBT aEK λ n _ _ _ _ _ _ _=>
  (aN (au (fB (az (wy T) T.uM (aD (aC 0) aG)) (g8 (aJe aJ (aC 0) (aBg T.kE T.aAb (λ _ _=>.int _)))))))
theorem qX(T:Txt K mg t):dJ P w K mg base (CX1 P w) 2 t.aAG t.jo ["many","thing"] (spF K (cj mg) 2 dW):=
 bH (k:=1) (f:=jo) T.pN aCn λ n _ _ _ _ _ _ _=>
  (aN (au (fB (az (wy T) T.uM (aD (aC 1) aG)) (g8 (aBf aJ (aC 1) (aC 0))))))
theorem aCy(T:Txt K mg t):dJ P w K mg base (CX1 P w) 2 t.aAB t.jh ["_law_cell","_law_many"] (spF K (cj mg) 2 jw):=
 bH (k:=1) (f:=jh) T.aAM aCi λ n _ _ _ _ _ _ _=>
  (aK (jW (i:=2) (uT (vd aG)))
  (aK (jD (gA (aD (aC 1) aG) T.cg) (cu (ks:=[3]))
   (aN (aFx 2 (az (cG T) T.cT (aD (aC 0) (aD (aj aJ (aC 3)) (aD (aj (aC 3) aJ) aG)))) (aW (aC 3)))))
  (aN (au (o7 2)))))
theorem aE1(T:Txt K mg t):dJ P w K mg base (CX1 P w) 2 t.aBK t.lX ["_law_cell"] (spF K (cj mg) 1 lq):=
 bH (k:=1) (f:=lX) T.aBR aEH λ n _ _ _ _ _ _ _=>
  (aK (gh (i:=1) (eV (jY (aD tM (aD fJ (aD aJ (aD (n8 aJ) (aD vh (aD vh (aD (aa aG) (aD (jY aG) (aD aJf (aD (aa (aD (aa aG) aG)) (aD (aa (aD aJ aG)) (aD (aa (aD (aa (aD aJ (aD aJ aG))) aG)) (aD (jY (aD aJ (aD aJ aG))) (aD (aa (aD tM aG)) (aD (aa (aD vh (aD vh aG))) (aD (aHU aJ aJ) aG)))))))))))))))))))
  (aN (au (aL (iU 1) (az (cG T) T.cT (aD (aC 0) (aD aJ (aD aJ aG))))))))
theorem xu(T:Txt K mg t):dJ P w K mg base (CX1 P w) 2 t.qj t.fY ["_law_cell","_law_spot","_law_row","_law_many"] (spF K (cj mg) 4 iK):=
 bH (k:=1) (f:=fY) T.qu xf λ n _ _ _ _ _ _ _=>
  (aK (bU (i:=4) (eV (az (cG T) T.cT (aD (aC 0) (aD (aC 1) (aD (aj (dZ T.fP (aD (aC 2) aG)) aJ) aG))))))
  (aK (gh (i:=5) (eV (aL (jY (aD aJ (aD (aW (aC 3)) (aD (n8 aJ) (aD fJ (aD tM (aD vh (aD (jY (aD aJ aG)) (aD (vg (aC 3) aJ) (aD aJ aG)))))))))) (az (cG T) T.cT (aD (aC 0) (aD (aj (aC 1) aJ) (aD aJ aG)))))))
  (aK (gh (i:=6) (eV (jY (aD (aj (aj (aW (bN (aC 2) cM (bj (aC 4)))) (aa (aD (iU 5) aG))) (aW (bN (aC 2) (bj (aj (aC 4) aJ)) cM))) (aD (aj (aW (bN (aC 2) cM (bj (aC 4)))) (aW (bN (aC 2) (bj (aj (aC 4) aJ)) cM))) (aD (aj (aj (aW (bN (aC 2) cM (bj (aC 4)))) (aa (aD (iU 5) aG))) (aW (bN (aC 2) (bj (aC 4)) cM))) (aD (aW (zB (aC 2))) aG)))))))
  (aK (gh (i:=6) (eV (aj (iU 6) (jY (aD (aBd T.wJ (aD (aW (aC 2)) aG)) (aD (aj (aW (aC 2)) (aW (bN (aC 2) cM (bj aJ)))) (aD (aj (aW (bN (aC 2) (bj aJ) cM)) (aW (bN (aC 2) cM (bj aJ)))) (aD (aa aG) (aD tM (aD (aa (aD (aW (aC 2)) aG)) aG))))))))))
  (aN (au (aL (iU 6) (az (cG T) T.cT (aD (aC 0) (aD (aj (aC 1) aJ) (aD aJ aG)))))))))))
theorem wu(T:Txt K mg t):dJ P w K mg base (CX1 P w) 2 t.aAA t.jg ["_law_web_here","_law_thing"] (spF K (cj mg) 2 gJ):=
 bH (k:=1) (f:=jg) T.uK aCh λ n _ _ _ _ _ _ _=>
  (aK (du (SW.st (oE (fL (eN (iu (aC 1) T.bM T.dD))) (kY (yr (dZ T.fP (aD (aC 1) aG)) aJ))))
   (aN (au fJ))
   bT)
  (aK (du (SW.st (oE (fL (eN (o8 T.uo (aD (gj (N:=["_law_one","_law_web_here"]) (js:=[none,some 0]) (ks:=[0]) (dU (aC 1)) bJ eO (fB (az (uh T) T.qp (aD (aC 0) aG)) (g8 (aBf aJ (aC 0) (aL (aC 1) aJ))))) aG)))) (kY (yr (aBe T.fP (aD (aEF T.aF3 (aD (aC 1) aG)) aG)) (dZ T.fP (aD (aC 1) aG))))))
   (aN (au fJ))
   bT)
  (aK (du (SW.st (oE (yq (aBc T.wz (aD (aC 1) aG)) (aL (aC 1) aJ)) (kY (aFH (aL (aC 1) aJ) (aL (aC 1) (n8 aJ))))))
   (aN (au fJ))
   bT)
  (aK (bU (i:=2) (eV (aj (aC 1) (bN (aC 1) cM (bj aJ)))))
  (aN (au (o8 T.uo (aD (gj (N:=["_law_k","_law_ring","_law_web_here"]) (js:=[none,some 2,some 0]) (ks:=[0]) (gA (aD (dZ T.fP (aD (aC 1) aG)) aG) T.cg) bJ eO (aHX (aa (aD (yO T.wz (aD (aL (aC 1) (aC 0)) (aD (aL (aC 1) (aj (aC 0) aJ)) aG))) (aD (yP T.aDF (aD (aL (aC 1) (aC 0)) (aD (aL (aC 1) (aj (aC 0) aJ)) aG))) aG))) (aL (aC 2) aJ))) aG))))))))
theorem aCz(T:Txt K mg t):dJ P w K mg base (CX1 P w) 2 t.aAD t.jk ["_law_web_here","_law_thing"] (spF K (cj mg) 2 nA):=
 bH (k:=1) (f:=jk) T.aAN aCk λ n _ _ _ _ _ _ _=>
  (aK (du (SW.st (oE (fL (eN (iu (aC 1) T.bM T.dD))) (kY (aAq (dZ T.fP (aD (aC 1) aG)) aJ))))
   (aN (au fJ))
   bT)
  (aK (du (SW.st (oE (fL (eN (o8 T.uo (aD (gj (N:=["_law_one","_law_web_here"]) (js:=[none,some 0]) (ks:=[0]) (dU (aC 1)) bJ eO (fB (az (uh T) T.qp (aD (aC 0) aG)) (g8 (aBf aJ (aC 0) (aL (aC 1) aJ))))) aG)))) (kY (yr (aBe T.fP (aD (aEF T.aF3 (aD (aC 1) aG)) aG)) (dZ T.fP (aD (aC 1) aG))))))
   (aN (au fJ))
   bT)
  (aK (du (aFH (aL (aC 1) aJ) (aL (aC 1) (n8 aJ)))
   (aN (au fJ))
   bT)
  (aN (au (o8 T.uo (aD (gj (N:=["_law_k","_law_thing","_law_web_here"]) (js:=[none,some 1,some 0]) (ks:=[0]) (gA (aD (vg (dZ T.fP (aD (aC 1) aG)) aJ) aG) T.cg) bJ eO (aHX (aa (aD (aBc T.wz (aD (bN (aC 1) (bj (aC 0)) (bj (aj (aC 0) aJ))) aG)) (aD (aJd T.aDF (aD (bN (aC 1) (bj (aC 0)) (bj (aj (aC 0) aJ))) aG)) aG))) (aL (aC 2) aJ))) aG)))))))
theorem rz(T:Txt K mg t):dJ P w K mg base (CX1 P w) 2 t.mV t.dG ["_law_web_here"] (spF K (cj mg) 1 eG):=
 bH (k:=1) (f:=dG) T.m7 rT λ n _ _ _ _ _ _ _=>
  (aK (jW (i:=1) (aLV (aLW (N:=["_law_place"]) (js:=[none]) (ks:=[0]) (gA (aD (aL (aC 0) aJ) aG) T.cg) bJ eO (aa (aD (aW (aC 0)) aG)))))
  (aK (bU (i:=2) (eV aJ))
  (aK (aC8 (yr (aC 2) (dZ T.fP (aD (qJ 1) aG)))
   (aK (gh (i:=3) (eV (aW (aL (qJ 1) (aC 2)))))
   (aK (aAr 1 (gj (N:=["_law_other","_law_row"]) (js:=[none,some 3]) (ks:=[0]) (dU (az (ww T) T.uL (aD (aC 0) (aD (aL (aC 3) (n8 aJ)) aG)))) bJ (tL (yp (aC 0) (aC 1))) (aj (aW (aC 1)) (aa (aD (aW (aC 0)) aG)))))
   (aN (bU (i:=2) (eV (aj (aC 2) aJ)))))))
  (aN (au (gj (N:=["_law_row"]) (js:=[none]) (ks:=[0]) (dU (aC 1)) bJ (tL (aOD (aL (aC 0) aJ) (aL (aC 0) (n8 aJ)))) (aW (aC 0))))))))
theorem aE3(T:Txt K mg t):dJ P w K mg base (CX1 P w) 3 t.aBL t.lZ ["many","thing"] (spF K (cj mg) 2 oZ):=
 bH (k:=2) (f:=lZ) T.aBS aEJ λ n _ _ _ _ _ _ _=>
  (aK (du (SW.st (oE (fL (eN (iu (aC 1) T.bM T.dD))) (kY (yq (dZ T.fP (aD (aC 1) aG)) aJ))))
   (aN (au fJ))
   bT)
  (aN (au (fB (az (qX T) T.pN (aD (aC 0) (aD (aL (aC 1) aJ) aG))) (fB (az (qX T) T.pN (aD (aC 0) (aD (aL (aC 1) aJ) aG))) (g8 (aOI (aL (aC 1) aJ) (aL (aC 1) aJ))))))))
theorem sW(T:Txt K mg t):dJ P w K mg base (CX1 P w) 3 t.vG t.iY ["near","thing"] (spF K (cj mg) 2 cN):=
 bH (k:=2) (f:=iY) T.pO aAa λ n _ _ _ _ _ _ _=>
  (aK (du (SW.st (oE (fL (eN (iu (aC 1) T.bM T.dD))) (kY (aAq (dZ T.fP (aD (aC 1) aG)) aJ))))
   (aN (au fJ))
   bT)
  (aK (jD (dU (aC 1)) (cu (ks:=[2]))
   (aN (du (fL (eN (az (qX T) T.pN (aD (dZ T.fP (aD (aC 0) aG)) (aD (aC 2) aG)))))
    (aN (au fJ))
    bT)))
  (aK (du (yq (aBe T.fP (aD (aEF T.aF3 (aD (aC 1) aG)) aG)) (dZ T.fP (aD (aC 1) aG)))
   (aN (au fJ))
   bT)
  (aK (jD (aB9 (aD aJ (aD (dZ T.fP (aD (aC 1) aG)) aG)) T.cg) (cu (ks:=[3]))
   (aN (du (yp (aL (aC 1) (aC 3)) (aL (aC 0) (aL (aC 1) (vg (aC 3) aJ))))
    (aN (au fJ))
    bT)))
  (aN (au fJ))))))
theorem aE0(T:Txt K mg t):dJ P w K mg base (CX1 P w) 3 t.aBJ t.lW ["_law_cell","_law_most"] (spF K (cj mg) 2 ju):=
 bH (k:=2) (f:=lW) T.aBQ aEG λ n _ _ _ _ _ _ _=>
  (aK (bU (i:=2) (eV (az (cG T) T.cT (aD (aC 0) (aD aJ (aD (aj (aC 1) aJ) aG))))))
  (aK (bU (i:=3) (eV (az (cG T) T.cT (aD (aC 0) (aD aJ (aD aJ aG))))))
  (aK (gh (i:=4) (eV (aL (jY (aD aJ (aD aJ (aD aJ (aD aJ (aD aJ (aD aJ (aD aJ (aD aJ (aD aJ aG)))))))))) (aC 3))))
  (aK (bU (i:=5) (eV (az (aCy T) T.aAM (aD (aC 0) (aD (aC 2) aG)))))
  (aK (jW (i:=6) (uT (vd aG)))
  (aK (bU (i:=7) (eV aJ))
  (aK (jD (gA (aD (aC 2) aG) T.cg) (cu (ks:=[8]))
   (aN (jD (gA (aD (aC 8) aG) T.cg) (cu (ks:=[9]))
    (aK (bU (i:=7) (eV (aj (aC 7) aJ)))
    (aK (bU (i:=10) (eV (aFL (az (cG T) T.cT (aD (aC 0) (aD (aC 7) (aD aJ aG)))) (iU 4))))
    (aK (du (aLX (aC 3) (aa (aD aJ (aD aJ aG))))
     (aN (bU (i:=10) (eV (aOH (uX (aC 8) (aj (aC 9) aJ)) (g8 (fB (uX (aC 3) aJ) (g8 (uX (aa (aD (aC 9) (aD (aC 8) aG))) (aa (aD aJ (aD (vg (aC 2) aJ) aG)))))))))))
     bT)
    (aK (du (aAq (aC 3) aJ)
     (aN (bU (i:=10) (eV (uX (aC 9) aJ))))
     bT)
    (aK (du (aAq (aC 3) aJ)
     (aN (bU (i:=10) (eV (fB (aC 10) (g8 (uX (qK (aj (aC 9) (aC 8)) aJ) aJ))))))
     bT)
    (aN (du (eN (aC 10))
     (aN (lO 6 (aa (aD (yO T.wz (aD (aL (aC 5) (aC 9)) (aD (aL (aC 5) (aC 8)) aG))) (aD (yP T.aDF (aD (aL (aC 5) (aC 9)) (aD (aL (aC 5) (aC 8)) aG))) aG)))))
     bT))))))))))
  (aN (au (aa (aD (aW (aC 2)) (aD (kI T.dD (aD (aBb T.qY T.aF3 (aD (qJ 6) aG)) aG)) aG))))))))))))
theorem sG(T:Txt K mg t):dJ P w K mg base (CX1 P w) 3 t.mX t.dI ["_law_cell","_law_spot","_law_parting","_law_many"] (spF K (cj mg) 4 cU):=
 bH (k:=2) (f:=dI) T.mq rZ λ n _ _ _ _ _ _ _=>
  (aK (bU (i:=4) (eV (az (cG T) T.cT (aD (aC 0) (aD (aC 1) (aD (aj (dZ T.fP (aD (aC 2) aG)) aJ) aG))))))
  (aK (bU (i:=5) (eV (aL (aj (aC 2) (aa (aD (aa aG) aG))) (aC 4))))
  (aK (du (eN (iu (aC 5) T.bM T.dD))
   (aN (gh (i:=6) (eV (az (xu T) T.qu (aD (aC 0) (aD (aj (aC 1) aJ) (aD (aC 5) (aD (aC 3) aG))))))))
   (aN (gh (i:=6) (eV (aL (jY (aD aJ (aD (aW (aC 3)) (aD fJ (aD tM (aD (aj (aW (aC 5)) aJ) (aD (aa (aD (aW (aC 5)) aG)) aG))))))) (az (cG T) T.cT (aD (aC 0) (aD (aj (aC 1) aJ) (aD aJ aG)))))))))
  (aK (jW (i:=7) (uT (vd (aD (aj (aj (aW (bN (aC 2) cM (bj (aC 4)))) (aa (aD (iU 6) aG))) (aW (bN (aC 2) (bj (aj (aC 4) aJ)) cM))) (aD (aj (aW (bN (aC 2) cM (bj (aC 4)))) (aW (bN (aC 2) (bj (aj (aC 4) aJ)) cM))) (aD (aj (aW (aC 2)) (aW (bN (aC 2) cM (bj aJ)))) aG))))))
  (aK (jW (i:=7) (uT (aEC (o7 7) (jY (aD (aW (zB (aC 2))) (aD (aBd T.wJ (aD (aW (aC 2)) aG)) (aD (aa (aD (aW (aC 2)) aG)) (aD tM (aD (aj (aW (aC 2)) (aa (aD (aa aG) aG))) aG)))))))))
  (aK (lO 7 (aj (aj (aW (bN (aC 2) cM (bj (aC 4)))) (aa (aD (iU 6) aG))) (aW (bN (aC 2) (bj (aC 4)) cM))))
  (aN (au (aL (o7 7) (az (cG T) T.cT (aD (aC 0) (aD (aj (aC 1) aJ) (aD aJ aG)))))))))))))
theorem wI(T:Txt K mg t):dJ P w K mg base (CX1 P w) 3 t.pX t.eU ["_law_web_here"] (spF K (cj mg) 1 gU):=
 bH (k:=2) (f:=eU) T.pZ vp λ n _ _ _ _ _ _ _=>
  (aK (jW (i:=1) (uT (vd aG)))
  (aK (jW (i:=2) (aLV (aLW (N:=["_law_place"]) (js:=[none]) (ks:=[0]) (gA (aD (aL (aC 0) aJ) aG) T.cg) bJ eO (aa (aD (aW (aC 0)) aG)))))
  (aK (bU (i:=3) (eV aJ))
  (aK (aC8 (yr (aC 3) (dZ T.fP (aD (qJ 2) aG)))
   (aK (gh (i:=4) (eV (aW (aL (qJ 2) (aC 3)))))
   (aK (aAr 2 (gj (N:=["_law_other","_law_row"]) (js:=[none,some 4]) (ks:=[0]) (dU (az (ww T) T.uL (aD (aC 0) (aD (aL (aC 4) (n8 aJ)) aG)))) bJ (tL (SW.st (aHH (aFH (aC 0) (aL (aC 1) aJ)) (aFF (yp (aC 0) (aC 1)))))) (aj (aW (aC 1)) (aa (aD (aW (aC 0)) aG)))))
   (aK (du (eN (az (wu T) T.uK (aD (aC 0) (aD (iU 4) aG))))
    (aN (lO 1 (iU 4)))
    bT)
   (aN (bU (i:=3) (eV (aj (aC 3) aJ))))))))
  (aN (au (o7 1)))))))
theorem wH(T:Txt K mg t):dJ P w K mg base (CX1 P w) 3 t.pW t.eQ ["_law_web_here","_law_thing"] (spF K (cj mg) 2 gQ):=
 bH (k:=2) (f:=eQ) T.pY vo λ n _ _ _ _ _ _ _=>
  (aK (du (SW.st (oE (fL (eN (iu (aC 1) T.bM T.dD))) (oE (yq (dZ T.fP (aD (aC 1) aG)) aJ) (kY (fL (eN (o8 T.uo (aD (gj (N:=["_law_part"]) (js:=[none]) (ks:=[0]) (dU (aC 1)) bJ eO (iu (aC 0) T.bM T.dD)) aG))))))))
   (aN (au fJ))
   bT)
  (aK (du (SW.st (oE (fL (eN (o8 T.uo (aD (gj (N:=["_law_way","_law_web_here"]) (js:=[none,some 0]) (ks:=[0]) (dU (aL (aC 1) aJ)) bJ eO (az (aCz T) T.aAN (aD (aC 1) (aD (aC 0) aG)))) aG)))) (kY (fL (eN (o8 T.uo (aD (gj (N:=["_law_ring","_law_web_here"]) (js:=[none,some 0]) (ks:=[0]) (dU (aL (aC 1) aJ)) bJ eO (az (wu T) T.uK (aD (aC 1) (aD (aC 0) aG)))) aG)))))))
   (aN (au fJ))
   bT)
  (aN (au (fB (az (sV T) T.pM (aD (aL (aC 1) aJ) aG)) (fB (az (sV T) T.pM (aD (aL (aC 1) aJ) aG)) (g8 (az (xx T) T.qw (aD (aj (aL (aC 1) aJ) (aL (aC 1) aJ)) (aD (aL (aC 0) aJ) aG))))))))))
theorem sH(T:Txt K mg t):dJ P w K mg base (CX1 P w) 4 t.mY t.cF ["many","thing"] (spF K (cj mg) 2 cV):=
 bH (k:=3) (f:=cF) T.my rm λ n _ _ _ _ _ _ _=>
  (aK (du (fL (eN (iu (aC 1) T.bM T.dD)))
   (aN (au fJ))
   bT)
  (aK (jD (dU (aC 1)) (cu (ks:=[2]))
   (aN (du (fL (eN (az (aE3 T) T.aBS (aD (aC 0) (aD (aC 2) aG)))))
    (aN (au fJ))
    bT)))
  (aN (au (az (ul T) T.qx (aD (aC 1) aG))))))
theorem aAc(T:Txt K mg t):dJ P w K mg base (CX1 P w) 4 t.vD t.gG ["near","thing"] (spF K (cj mg) 2 ie):=
 bH (k:=3) (f:=gG) T.vH aA9 λ n _ _ _ _ _ _ _=>
  (aN (au (fB (az (sW T) T.pO (aD (aC 0) (aD (aC 1) aG))) (fB (uX (aL (aC 1) aJ) (aBc T.wz (aD (aC 1) aG))) (g8 (aHX (aL (aC 1) aJ) (aL (aC 0) (aL (aC 1) (n8 aJ)))))))))
theorem yC(T:Txt K mg t):dJ P w K mg base (CX1 P w) 4 t.j9 t.fj ["near","thing"] (spF K (cj mg) 2 cJ):=
 bH (k:=3) (f:=fj) T.jb xm λ n _ _ _ _ _ _ _=>
  (aN (au (fB (az (sW T) T.pO (aD (aC 0) (aD (aC 1) aG))) (g8 (uX (aC 1) (az (xq T) T.qm (aD (aC 1) aG)))))))
theorem xr(T:Txt K mg t):dJ P w K mg base (CX1 P w) 4 t.qi t.fX ["_law_cell","_law_spot","_law_thing","_law_many"] (spF K (cj mg) 4 fu):=
 bH (k:=3) (f:=fX) T.qt xZ λ n _ _ _ _ _ _ _=>
  (aK (bU (i:=4) (eV (az (cG T) T.cT (aD (aC 0) (aD (aC 1) (aD (dZ T.fP (aD (aC 2) aG)) aG))))))
  (aK (gh (i:=5) (eV (az (sG T) T.mq (aD (aC 0) (aD (aj (aC 1) aJ) (aD (aL (aC 2) (aC 4)) (aD (aC 3) aG)))))))
  (aK (gh (i:=6) (eV (jY (aD (aj (aj (aW (bN (aC 2) cM (bj (aC 4)))) (aa (aD (iU 5) aG))) (aW (bN (aC 2) (bj (aj (aC 4) aJ)) cM))) (aD (aW (zB (aC 2))) (aD (aW (bN (aC 2) cM (bj (n8 aJ)))) (aD (aj (aW (aC 2)) (aa (aD (aa aG) aG))) (aD (aBd T.wJ (aD (aW (aC 2)) aG)) (aD tM aG)))))))))
  (aN (au (aL (iU 6) (aL (jY (aD aJ (aD aJ (aD aJ (aD aJ (aD aJ (aD aJ (aD aJ (aD aJ aG))))))))) (az (cG T) T.cT (aD (aC 0) (aD (aj (aC 1) aJ) (aD aJ aG)))))))))))
theorem sE(T:Txt K mg t):dJ P w K mg base (CX1 P w) 4 t.mW t.dH ["_law_cell","_law_web_here"] (spF K (cj mg) 2 dM):=
 bH (k:=3) (f:=dH) T.m8 rY λ n _ _ _ _ _ _ _=>
  (aK (gh (i:=2) (eV (aj (gj (N:=["_law_ring"]) (js:=[none]) (ks:=[0]) (dU (az (wI T) T.pZ (aD (aC 1) aG))) bJ eO (aa (aD (aW (aC 0)) (aD aJ aG)))) (gj (N:=["_law_way"]) (js:=[none]) (ks:=[0]) (dU (az (rz T) T.m7 (aD (aC 1) aG))) bJ (tL (aFH (dZ T.fP (aD (aC 0) aG)) aJ)) (aa (aD (aW (aC 0)) (aD aJ aG)))))))
  (aK (gh (i:=3) (eV (tO T.wJ T.cg (aL (aC 1) aJ))))
  (aK (aLz (aFU (aFU aMV)))
  (aK (jD (aHS (aD (iU 2) aG) T.aDG) (v9 (n:=2) (gO (cu (ks:=[5,6,7])) (gO (v9 (n:=2) (gO (cu (ks:=[5,6,7])) (gO (cu (ks:=[5,6,7])) rA))) rA)))
   (aN (du (SW.st (aHH (aAq (gj (N:=["_law_place","_law_left"]) (js:=[none,some 3]) (ks:=[0]) (dU (aC 6)) bJ (tL (yp (aC 0) (aC 1))) (aW (aC 0))) (jY aG)) (aFF (aAq (az (cG T) T.cT (aD (aC 0) (aD (aj aJ (qK (aC 5) aJ)) (aD aJ aG)))) aJ))))
    (aK (tK 4 (aC 7) (aW (aC 6)))
    (aN (gh (i:=3) (eV (gj (N:=["_law_place","_law_piece"]) (js:=[none,some 6]) (ks:=[0]) (dU (aC 3)) bJ (tL (yp (aC 0) (aC 1))) (aW (aC 0)))))))
    bT)))
  (aN (au (aa (aD (kI T.dD (aD (rB T.qY (aD (aj (aL (qJ 4) aJ) (gj (N:=["_law_place"]) (js:=[none]) (ks:=[0]) (dU (aC 3)) bJ eO (aa (aD (aW (aC 0)) aG)))) aG)) aG)) (aD (kI T.dD (aD (rB T.qY (aD (aL (qJ 4) aJ) aG)) aG)) aG)))))))))
theorem aDA(T:Txt K mg t):dJ P w K mg base (CX1 P w) 5 t.aAH t.jq ["many","thing"] (spF K (cj mg) 2 pP):=
 bH (k:=4) (f:=jq) T.aAO aCo λ n _ _ _ _ _ _ _=>
  (aN (au (fB (az (sH T) T.my (aD (aC 0) (aD (aC 1) aG))) (g8 (o8 T.uo (aD (gj (N:=["low","high"]) (js:=[none,none]) (ks:=[0,1]) (dU (aC 1)) (v9 (n:=2) (gO bJ (gO bJ rA))) eO (aFL (aC 0) (aC 1))) aG))))))
theorem aE2(T:Txt K mg t):dJ P w K mg base (CX1 P w) 5 t.rN t.lY ["near","thing"] (spF K (cj mg) 2 gZ):=
 bH (k:=4) (f:=lY) T.rO aEI λ n _ _ _ _ _ _ _=>
  (aN (au (fB (az (aAc T) T.vH (aD (aC 0) (aD (aC 1) aG))) (g8 (aFL (aL (aC 1) aJ) (aL (aC 1) (n8 aJ)))))))
theorem aGO(T:Txt K mg t):dJ P w K mg base (CX1 P w) 6 t.aD0 t.oO ["thing"] (spF K (cj mg) 1 vY):=
 bH (k:=5) (f:=oO) T.aD7 aGE λ n _ _ _ _ _ _ _=>
  (aK (du (SW.st (oE (fL (eN (iu (aC 0) T.bM T.dD))) (kY (yq (dZ T.fP (aD (aC 0) aG)) aJ))))
   (aN (au fJ))
   bT)
  (aN (au (fB (az (aE4 T) T.aBT (aD (aL (aC 0) aJ) aG)) (g8 (az (aDA T) T.aAO (aD (aL (aC 0) aJ) (aD (aL (aC 0) aJ) aG))))))))
theorem aAz(T:Txt K mg t):dJ P w K mg base (CX1 P w) 6 t.aD1 t.oR ["near","thing","goes"] (spF K (cj mg) 3 nD):=
 bH (k:=5) (f:=oR) T.aAQ aGF λ n _ _ _ _ _ _ _=>
  (aK (du (fL (eN (iu (aC 1) T.bM T.dD)))
   (aN (au fJ))
   bT)
  (aK (jD (dU (aC 1)) (cu (ks:=[3]))
   (aN (du (fL (eN (aHY (i:=2) (aC5 (yC T) (Nat.le_of_ble_eq_true rfl) T.pQ T.jb.F.kp T.jb.b (aC5 (aE2 T) (Nat.le_of_ble_eq_true rfl) T.zQ T.rO.F.kp T.rO.b aJ0)) (aD (aC 0) (aD (aC 3) aG)) (z8 (z8 (λ _ _ h=>aF9 h))))))
    (aN (au fJ))
    bT)))
  (aN (au (az (ul T) T.qx (aD (aC 1) aG))))))
theorem aBu(T:Txt K mg t):dJ P w K mg base (CX1 P w) 7 t.xQ t.jR ["thing"] (spF K (cj mg) 1 jV):=
 bH (k:=6) (f:=jR) T.xT aBl λ n _ _ _ _ _ _ _=>
  (aN (du (fL (eN (az (aGO T) T.aD7 (aD (aC 0) aG))))
   (aN (aHK rfl T.aKZ T.aK8 T.uP (aD vh aG)))
   bT))
theorem pG(T:Txt K mg t):dJ P w K mg base (CX1 P w) 8 t.xO t.jP ["web","thing"] (spF K (cj mg) 2 di):=
 bH (k:=7) (f:=jP) T.nT aBj λ n _ _ _ _ _ _ _=>
  (aK (aJ5 (az (aBu T) T.xT (aD (aC 0) aG)))
  (aK (du (SW.st (oE (fL (eN (iu (aC 1) T.bM T.dD))) (kY (yq (dZ T.fP (aD (aC 1) aG)) aJ))))
   (aN (au fJ))
   bT)
  (aK (aHL (aC 1) (v9 (n:=2) (gO (cu (ks:=[2,3])) (gO (cu (ks:=[2,3])) rA))))
  (aK (bU (i:=4) (eV (az (aDB T) T.aAP (aD (aC 0) aG))))
  (aN (au (fB (az (aAz T) T.aAQ (aD (aC 4) (aD (aC 2) (aD (aBg (v:=.ref t.j9) T.jb.m rfl (λ _ _=>.fn T.pQ)) aG)))) (fB (az (aAz T) T.aAQ (aD (aC 4) (aD (aC 3) (aD (aBg (v:=.ref t.rN) T.rO.m rfl (λ _ _=>.fn T.zQ)) aG)))) (g8 (az (aBt T) T.xR (aD (aL (aC 0) aJ) (aD (aj (aC 2) (aC 3)) aG))))))))))))
theorem aMs(T:Txt K mg t):dJ P w K mg base (CX1 P w) 9 t.aLd t.aAR ["_law_script"] (spF K (cj mg) 1 aJO):=
 bH (k:=8) (f:=aAR) T.aIu aMF λ n _ _ _ _ _ _ _=>
  (aK (jD (gA (aD (yP T.aDF (aD aJ (aD (yO T.wz (aD (dZ T.fP (aD (aC 0) aG)) (aD aJ aG))) aG))) aG) T.cg) (cu (ks:=[1]))
   (aK (bU (i:=2) (eV (az (zO T) T.sy (aD (aC 0) (aD (aC 1) aG)))))
   (aK (bU (i:=3) (eV (az (aE0 T) T.aBQ (aD (aC 2) (aD aJ aG)))))
   (aK (bU (i:=4) (eV (az (sE T) T.m8 (aD (aC 2) (aD (aC 3) aG)))))
   (aK (bU (i:=5) (eV (aa (aD (kI T.dD (aD (gj (N:=["_law_place"]) (js:=[none]) (ks:=[0]) (gA (aD (aL (aC 3) aJ) aG) T.cg) bJ eO (aa (aD (aW (aC 0)) aG))) aG)) (aD (aa aG) aG)))))
   (aK (jW (i:=6) (uT (vd (aD (aW (aC 4)) (aD (aW (aC 5)) (aD (az (aE1 T) T.aBR (aD (aC 2) aG)) (aD (aa (aD (aa aG) (aD (aa aG) aG))) aG)))))))
   (aK (bU (i:=7) (eV (vf T.dD T.cg (aL (aC 3) aJ))))
   (aK (jW (i:=6) (uT (aEC (o7 6) (jY (aD (aa (aD (aa aG) (aD (aa (aD (aW (aC 7)) aG)) aG))) (aD (aa (aD (aa aG) (aD (aa (aD (aW (bN (aC 7) cM (bj aJ))) (aD (aW (bN (aC 7) (bj aJ) cM)) aG))) aG))) aG))))))
   (aK (jW (i:=6) (uT (aEC (o7 6) (gj (N:=["_law_j","_law_cell","_law_parting","_law_web_here"]) (js:=[none,some 2,some 4,some 3]) (ks:=[0]) (gA (aD aJ aG) T.cg) bJ eO (az (xr T) T.qt (aD (aC 1) (aD (aj aJ (vm aJ (aC 0))) (aD (aC 2) (aD (aL (aC 3) aJ) aG)))))))))
   (aK (lO 6 (aa (aD (kI T.dD (aD (gj (N:=["_law_way"]) (js:=[none]) (ks:=[0]) (dU (aL (aC 4) aJ)) bJ eO (aW (zB (aC 0)))) aG)) (aD (aW (aL (aC 4) aJ)) aG))))
   (aK (lO 6 (aa (aD (aW (aL (aC 4) aJ)) (aD (kI T.dD (aD (gj (N:=["_law_ring"]) (js:=[none]) (ks:=[0]) (dU (aL (aC 4) aJ)) bJ eO (aj (aW (bN (aC 0) cM (bj aJ))) (aW (aMD (aC 0))))) aG)) aG))))
   (aK (lO 6 (aa (aD (aW (aL (aC 4) aJ)) (aD (kI T.dD (aD (gj (N:=["_law_ring"]) (js:=[none]) (ks:=[0]) (dU (aL (aC 4) aJ)) bJ eO (aj (aW (bN (aC 0) (bj aJ) cM)) (aW (bN (aC 0) cM (bj aJ))))) aG)) aG))))
   (aJ4 6 (aN (jD (dU (aC 6)) (cu (ks:=[8]))
    (aN (jD (gA (aD aJ aG) T.cg) (cu (ks:=[9]))
     (aK (bU (i:=10) (eV (az (pG T) T.nT (aD (aC 3) (aD (aC 8) aG)))))
     (aN (du (SW.st (oE (fL (eN (iu (aC 10) T.bM T.aE6))) (kY (yq (aC 10) (az (wH T) T.pY (aD (aC 3) (aD (aC 8) aG)))))))
      (aN (au fJ))
      bT))))))))))))))))))))
  (aK (bU (i:=11) (eV (aa (aD aJ (aD (kI T.dD (aD (gj (N:=["_law_place"]) (js:=[none]) (ks:=[0]) (gA (aD aJ aG) T.cg) bJ eO (aa (aD (aW (aC 0)) (aD (aj (aW (aC 0)) aJ) aG)))) aG)) aG)))))
  (aN (au (fB (aLY (az (pG T) T.nT (aD (aC 11) (aD (aa (aD (aa (aD (vf T.dD T.cg aJ) aG)) (aD (aa aG) aG))) aG))) fJ) (g8 (aLY (az (pG T) T.nT (aD (aC 11) (aD (aa (aD (aa aG) (aD (aa (aD (vf T.dD T.cg aJ) aG)) aG))) aG))) fJ)))))))
end
theorem aLm{K:PySem.W.Frag}{h:Heap}{mg:Str->Option Value}{tk_MOST_PLACES:Tok}{q_FewError:Addr}{q_NoWeb:Addr}(X:K.In h)(G:h.Ns mainGlobals mg)
  (h0:∃f d,Enr K "is_whole" tX f d)
  (h1:∃f d,Enr K "is_many" wG f d)
  (h2:∃f d,Enr K "is_place" tY f d)
  (h3:∃f d,Enr K "is_pair" wF f d)
  (h4:∃f d,Enr K "is_rising" qM f d)
  (h5:∃f d,Enr K "are_rising_pairs" jJ f d)
  (h6:∃f d,Enr K "are_ties" tZ f d)
  (h7:∃f d,Enr K "each_once" qO f d)
  (h8:∃f d,Enr K "is_web" zG f d)
  (h9:∃f d,Enr K "check_web" qP f d)
  (h10:∃f d,Enr K "all_tied" uA f d)
  (h11:∃f d,Enr K "goes_along" pA f d)
  (h12:∃f d,Enr K "goes_round" ou f d)
  (h13:∃f d,Enr K "is_wide" vz f d)
  (h14:∃f d,Enr K "all_go" zH f d)
  (h15:∃f d,Enr K "lesser_about" lz f d)
  (h16:∃f d,Enr K "goes_written" mH f d)
  (h17:∃f d,Enr K "is_ringed" qN f d)
  (h18:∃f d,Enr K "_law_cell_at" ni f d)
  (h19:∃f d,Enr K "_law_draw" tW f d)
  (h20:∃f d,Enr K "_law_whole" qL f d)
  (h21:∃f d,Enr K "_law_turn" tR f d)
  (h22:∃f d,Enr K "_law_web" vq f d)
  (h23:∃f d,Enr K "_law_odd" vy f d)
  (h24:∃f d,Enr K "_law_rising" o9 f d)
  (h25:∃f d,Enr K "_law_all_once" mG f d)
  (h26:∃f d,Enr K "_law_bent_row" mF f d)
  (h27:∃f d,Enr K "_law_bent_parting" jH f d)
  (h28:∃f d,Enr K "_law_bent_two" mD f d)
  (h29:∃f d,Enr K "_law_wide" tQ f d)
  (h30:∃f d,Enr K "_law_near" tU f d)
  (h31:∃f d,Enr K "_law_all_rings" kh f d)
  (h32:∃f d,Enr K "_law_goes" tV f d)
  (h33:∃f d,Enr K "_law_is_ringed" kZ f d)
  (h34:∃f d,Enr K "_law_two_way_ways" jF f d)
  (h35:∃f d,Enr K "_law_drawn_ringed" jG f d)
  (h36:∃f d,Enr K "law" aHZ f d)
  (kE:PySem.W.nsIn K mainGlobals "MOST_PLACES"=some (some (.int 60 tk_MOST_PLACES)))
  (y_FewError:PySem.W.nsIn K mainGlobals "FewError"=some (some (.ref q_FewError)))
  (o5:PySem.W.excIn K q_FewError [.type "ValueError",.type "Exception",.type "BaseException",.type "object"] "ValueError.__new__"=true)
  (y_NoWeb:PySem.W.nsIn K mainGlobals "NoWeb"=some (some (.ref q_NoWeb)))
  (uP:PySem.W.excIn K q_NoWeb [.type "ValueError",.type "Exception",.type "BaseException",.type "object"] "ValueError.__new__"=true)
  (z_all:PySem.W.nsIn K mainGlobals "all"=some none)
  (z_bool:PySem.W.nsIn K mainGlobals "bool"=some none)
  (z_enumerate:PySem.W.nsIn K mainGlobals "enumerate"=some none)
  (z_int:PySem.W.nsIn K mainGlobals "int"=some none)
  (z_isinstance:PySem.W.nsIn K mainGlobals "isinstance"=some none)
  (z_len:PySem.W.nsIn K mainGlobals "len"=some none)
  (z_list:PySem.W.nsIn K mainGlobals "list"=some none)
  (z_max:PySem.W.nsIn K mainGlobals "max"=some none)
  (z_min:PySem.W.nsIn K mainGlobals "min"=some none)
  (z_range:PySem.W.nsIn K mainGlobals "range"=some none)
  (z_set:PySem.W.nsIn K mainGlobals "set"=some none)
  (z_sorted:PySem.W.nsIn K mainGlobals "sorted"=some none)
  (z_tuple:PySem.W.nsIn K mainGlobals "tuple"=some none):
  ∃t,Txt K mg t:=by
 obtain⟨f0,d0,F0,a0⟩:=h0;have B0:=F0.binds (ps:=["thing"]) λ _ _ _ _ _ _ us hl=>by obtain⟨_,rfl⟩:=wL hl;rfl
 obtain⟨f1,d1,F1,a1⟩:=h1;have B1:=F1.binds (ps:=["thing"]) λ _ _ _ _ _ _ us hl=>by obtain⟨_,rfl⟩:=wL hl;rfl
 obtain⟨f2,d2,F2,a2⟩:=h2;have B2:=F2.binds (ps:=["many","thing"]) λ _ _ _ _ _ _ us hl=>by obtain⟨_,_,rfl⟩:=pH hl;rfl
 obtain⟨f3,d3,F3,a3⟩:=h3;have B3:=F3.binds (ps:=["many","thing"]) λ _ _ _ _ _ _ us hl=>by obtain⟨_,_,rfl⟩:=pH hl;rfl
 obtain⟨f4,d4,F4,a4⟩:=h4;have B4:=F4.binds (ps:=["things"]) λ _ _ _ _ _ _ us hl=>by obtain⟨_,rfl⟩:=wL hl;rfl
 obtain⟨f5,d5,F5,a5⟩:=h5;have B5:=F5.binds (ps:=["many","thing"]) λ _ _ _ _ _ _ us hl=>by obtain⟨_,_,rfl⟩:=pH hl;rfl
 obtain⟨f6,d6,F6,a6⟩:=h6;have B6:=F6.binds (ps:=["many","thing"]) λ _ _ _ _ _ _ us hl=>by obtain⟨_,_,rfl⟩:=pH hl;rfl
 obtain⟨f7,d7,F7,a7⟩:=h7;have B7:=F7.binds (ps:=["many","rows"]) λ _ _ _ _ _ _ us hl=>by obtain⟨_,_,rfl⟩:=pH hl;rfl
 obtain⟨f8,d8,F8,a8⟩:=h8;have B8:=F8.binds (ps:=["thing"]) λ _ _ _ _ _ _ us hl=>by obtain⟨_,rfl⟩:=wL hl;rfl
 obtain⟨f9,d9,F9,a9⟩:=h9;have B9:=F9.binds (ps:=["thing"]) λ _ _ _ _ _ _ us hl=>by obtain⟨_,rfl⟩:=wL hl;rfl
 obtain⟨f10,d10,F10,a10⟩:=h10;have B10:=F10.binds (ps:=["web"]) λ _ _ _ _ _ _ us hl=>by obtain⟨_,rfl⟩:=wL hl;rfl
 obtain⟨f11,d11,F11,a11⟩:=h11;have B11:=F11.binds (ps:=["near","thing"]) λ _ _ _ _ _ _ us hl=>by obtain⟨_,_,rfl⟩:=pH hl;rfl
 obtain⟨f12,d12,F12,a12⟩:=h12;have B12:=F12.binds (ps:=["near","thing"]) λ _ _ _ _ _ _ us hl=>by obtain⟨_,_,rfl⟩:=pH hl;rfl
 obtain⟨f13,d13,F13,a13⟩:=h13;have B13:=F13.binds (ps:=["near","thing"]) λ _ _ _ _ _ _ us hl=>by obtain⟨_,_,rfl⟩:=pH hl;rfl
 obtain⟨f14,d14,F14,a14⟩:=h14;have B14:=F14.binds (ps:=["near","thing","goes"]) λ _ _ _ _ _ _ us hl=>by obtain⟨_,_,_,rfl⟩:=aO5 hl;rfl
 obtain⟨f15,d15,F15,a15⟩:=h15;have B15:=F15.binds (ps:=["way"]) λ _ _ _ _ _ _ us hl=>by obtain⟨_,rfl⟩:=wL hl;rfl
 obtain⟨f16,d16,F16,a16⟩:=h16;have B16:=F16.binds (ps:=["near","thing"]) λ _ _ _ _ _ _ us hl=>by obtain⟨_,_,rfl⟩:=pH hl;rfl
 obtain⟨f17,d17,F17,a17⟩:=h17;have B17:=F17.binds (ps:=["web","thing"]) λ _ _ _ _ _ _ us hl=>by obtain⟨_,_,rfl⟩:=pH hl;rfl
 obtain⟨f18,d18,F18,a18⟩:=h18;have B18:=F18.binds (ps:=["_law_script","_law_k"]) λ _ _ _ _ _ _ us hl=>by obtain⟨_,_,rfl⟩:=pH hl;rfl
 obtain⟨f19,d19,F19,a19⟩:=h19;have B19:=F19.binds (ps:=["_law_cell","_law_k","_law_bound"]) λ _ _ _ _ _ _ us hl=>by obtain⟨_,_,_,rfl⟩:=aO5 hl;rfl
 obtain⟨f20,d20,F20,a20⟩:=h20;have B20:=F20.binds (ps:=["_law_found"]) λ _ _ _ _ _ _ us hl=>by obtain⟨_,rfl⟩:=wL hl;rfl
 obtain⟨f21,d21,F21,a21⟩:=h21;have B21:=F21.binds (ps:=["_law_cell","_law_many"]) λ _ _ _ _ _ _ us hl=>by obtain⟨_,_,rfl⟩:=pH hl;rfl
 obtain⟨f22,d22,F22,a22⟩:=h22;have B22:=F22.binds (ps:=["_law_cell","_law_most"]) λ _ _ _ _ _ _ us hl=>by obtain⟨_,_,rfl⟩:=pH hl;rfl
 obtain⟨f23,d23,F23,a23⟩:=h23;have B23:=F23.binds (ps:=["_law_cell"]) λ _ _ _ _ _ _ us hl=>by obtain⟨_,rfl⟩:=wL hl;rfl
 obtain⟨f24,d24,F24,a24⟩:=h24;have B24:=F24.binds (ps:=["_law_row"]) λ _ _ _ _ _ _ us hl=>by obtain⟨_,rfl⟩:=wL hl;rfl
 obtain⟨f25,d25,F25,a25⟩:=h25;have B25:=F25.binds (ps:=["_law_rows","_law_many"]) λ _ _ _ _ _ _ us hl=>by obtain⟨_,_,rfl⟩:=pH hl;rfl
 obtain⟨f26,d26,F26,a26⟩:=h26;have B26:=F26.binds (ps:=["_law_cell","_law_spot","_law_row","_law_many"]) λ _ _ _ _ _ _ us hl=>by obtain⟨_,_,_,_,rfl⟩:=aNH hl;rfl
 obtain⟨f27,d27,F27,a27⟩:=h27;have B27:=F27.binds (ps:=["_law_cell","_law_spot","_law_parting","_law_many"]) λ _ _ _ _ _ _ us hl=>by obtain⟨_,_,_,_,rfl⟩:=aNH hl;rfl
 obtain⟨f28,d28,F28,a28⟩:=h28;have B28:=F28.binds (ps:=["_law_cell","_law_spot","_law_thing","_law_many"]) λ _ _ _ _ _ _ us hl=>by obtain⟨_,_,_,_,rfl⟩:=aNH hl;rfl
 obtain⟨f29,d29,F29,a29⟩:=h29;have B29:=F29.binds (ps:=["_law_web_here","_law_thing"]) λ _ _ _ _ _ _ us hl=>by obtain⟨_,_,rfl⟩:=pH hl;rfl
 obtain⟨f30,d30,F30,a30⟩:=h30;have B30:=F30.binds (ps:=["_law_web_here","_law_place"]) λ _ _ _ _ _ _ us hl=>by obtain⟨_,_,rfl⟩:=pH hl;rfl
 obtain⟨f31,d31,F31,a31⟩:=h31;have B31:=F31.binds (ps:=["_law_web_here"]) λ _ _ _ _ _ _ us hl=>by obtain⟨_,rfl⟩:=wL hl;rfl
 obtain⟨f32,d32,F32,a32⟩:=h32;have B32:=F32.binds (ps:=["_law_web_here","_law_thing"]) λ _ _ _ _ _ _ us hl=>by obtain⟨_,_,rfl⟩:=pH hl;rfl
 obtain⟨f33,d33,F33,a33⟩:=h33;have B33:=F33.binds (ps:=["_law_web_here","_law_thing"]) λ _ _ _ _ _ _ us hl=>by obtain⟨_,_,rfl⟩:=pH hl;rfl
 obtain⟨f34,d34,F34,a34⟩:=h34;have B34:=F34.binds (ps:=["_law_web_here"]) λ _ _ _ _ _ _ us hl=>by obtain⟨_,rfl⟩:=wL hl;rfl
 obtain⟨f35,d35,F35,a35⟩:=h35;have B35:=F35.binds (ps:=["_law_cell","_law_web_here"]) λ _ _ _ _ _ _ us hl=>by obtain⟨_,_,rfl⟩:=pH hl;rfl
 obtain⟨f36,d36,F36,a36⟩:=h36;have B36:=F36.binds (ps:=["_law_script"]) λ _ _ _ _ _ _ us hl=>by obtain⟨_,rfl⟩:=wL hl;rfl
 exact⟨⟨f0,_,f1,_,f2,_,f3,_,f4,_,f5,_,f6,_,f7,_,f8,_,f9,_,f10,_,f11,_,f12,_,f13,_,f14,_,f15,_,f16,_,f17,_,f18,_,f19,_,f20,_,f21,_,f22,_,f23,_,f24,_,f25,_,f26,_,f27,_,f28,_,f29,_,f30,_,f31,_,f32,_,f33,_,f34,_,f35,_,f36,_,_,q_FewError,q_NoWeb⟩,⟨⟨F0,PySem.W.mg_of X G a0,B0⟩,⟨F1,PySem.W.mg_of X G a1,B1⟩,⟨F2,PySem.W.mg_of X G a2,B2⟩,⟨F3,PySem.W.mg_of X G a3,B3⟩,⟨F4,PySem.W.mg_of X G a4,B4⟩,⟨F5,PySem.W.mg_of X G a5,B5⟩,⟨F6,PySem.W.mg_of X G a6,B6⟩,⟨F7,PySem.W.mg_of X G a7,B7⟩,⟨F8,PySem.W.mg_of X G a8,B8⟩,⟨F9,PySem.W.mg_of X G a9,B9⟩,⟨F10,PySem.W.mg_of X G a10,B10⟩,⟨F11,PySem.W.mg_of X G a11,B11⟩,⟨F12,PySem.W.mg_of X G a12,B12⟩,⟨F13,PySem.W.mg_of X G a13,B13⟩,a13,⟨F14,PySem.W.mg_of X G a14,B14⟩,⟨F15,PySem.W.mg_of X G a15,B15⟩,⟨F16,PySem.W.mg_of X G a16,B16⟩,a16,⟨F17,PySem.W.mg_of X G a17,B17⟩,⟨F18,PySem.W.mg_of X G a18,B18⟩,⟨F19,PySem.W.mg_of X G a19,B19⟩,⟨F20,PySem.W.mg_of X G a20,B20⟩,⟨F21,PySem.W.mg_of X G a21,B21⟩,⟨F22,PySem.W.mg_of X G a22,B22⟩,⟨F23,PySem.W.mg_of X G a23,B23⟩,⟨F24,PySem.W.mg_of X G a24,B24⟩,⟨F25,PySem.W.mg_of X G a25,B25⟩,⟨F26,PySem.W.mg_of X G a26,B26⟩,⟨F27,PySem.W.mg_of X G a27,B27⟩,⟨F28,PySem.W.mg_of X G a28,B28⟩,⟨F29,PySem.W.mg_of X G a29,B29⟩,⟨F30,PySem.W.mg_of X G a30,B30⟩,⟨F31,PySem.W.mg_of X G a31,B31⟩,⟨F32,PySem.W.mg_of X G a32,B32⟩,⟨F33,PySem.W.mg_of X G a33,B33⟩,⟨F34,PySem.W.mg_of X G a34,B34⟩,⟨F35,PySem.W.mg_of X G a35,B35⟩,⟨F36,PySem.W.mg_of X G a36,B36⟩,PySem.W.mg_of X G kE,⟨_,rfl⟩,PySem.W.mg_of X G y_FewError,(by unfold cj;rw[PySem.W.mg_of X G y_FewError]),o5,PySem.W.mg_of X G y_NoWeb,(by unfold cj;rw[PySem.W.mg_of X G y_NoWeb]),uP,PySem.W.mg_none_of X G z_all,PySem.W.mg_none_of X G z_bool,PySem.W.mg_none_of X G z_enumerate,PySem.W.mg_none_of X G z_int,PySem.W.mg_none_of X G z_isinstance,PySem.W.mg_none_of X G z_len,PySem.W.mg_none_of X G z_list,PySem.W.mg_none_of X G z_max,PySem.W.mg_none_of X G z_min,PySem.W.mg_none_of X G z_range,PySem.W.mg_none_of X G z_set,PySem.W.mg_none_of X G z_sorted,PySem.W.mg_none_of X G z_tuple⟩⟩
theorem aNf{l:PySem.W.OpenLaw}{w:World}{K:PySem.W.Frag}{h:Heap}{mg:Str->Option Value}{fa:Addr}(X:K.In h)(G:h.Ns mainGlobals mg)(hfa:mg "law"=some (.ref fa))(ht:∃t,Txt K mg t):
  ∃fd:FuncData,(∀(s:Shared) (v:Value),BindsTo s fd ⟨[v],[]⟩ [("_law_script",v)])/\∀base:Heap,K.In base->base.Ns mainGlobals mg->dJ l.prog w K mg base (CX1 l.prog w) 9 fa fd ["_law_script"] (aFI K):=by
 obtain⟨t,T⟩:=ht;have e:=hfa.symm.trans T.aIu.m;cases e;refine⟨t.aAR,λ s v=>?_,λ base _ _=>(aMs T).imp (aK6 aIR)⟩;obtain⟨oc,od,kV,doc,pm,an,cdv,ct,osl,e,lk,hcd⟩:=T.aIu.F.ex;rw[e];exact .of_eq rfl
theorem walk{l:PySem.W.OpenLaw}{q:Program}{loose:List Str}{XP:(Str->Option Value)->Heap->Prop}{YP:World->Heap->Prop}{d:DefRec}{K:Params->PySem.W.Frag}(hn:l.most=some 63)(hdf:d.params.defaults=[])
  (hY:∀(w:World) (h:Heap),YP w h->(K w.params).In h)
  (F:∀(w:World) (mg:Str->Option Value) (fa:Addr) (h:Heap),(K w.params).In h->h.Ns mainGlobals mg->mg d.name=some (.ref fa)->
   ∃fd:FuncData,(∀(s:Shared) (u:Value),BindsTo s fd ⟨[u],[]⟩ [("_law_script",u)])/\∀base:Heap,(K w.params).In base->base.Ns mainGlobals mg->dJ l.prog w (K w.params) mg base (CX1 l.prog w) 9 fa fd ["_law_script"] (aFI (K w.params))):
  PySem.W.WalkO q loose XP YP l.row.toRowW d [] (λ f vs=>PySem.call f vs):=
 L2.aJW (n:=63) (k:=9) (x:="_law_script") (CX:=λ w=>CX1 l.prog w) (sp:=λ w=>aFI (K w.params)) hn (by decide) hdf ⟨rfl,by decide,by decide⟩ hY F (λ _ _ a ns hl hO hS=>⟨a,ns,rfl,aME hO hS,hl,λ _=>rfl⟩) λ _ _ _ _ _ ⟨_,_,_,_,_,_,_,_,_,_,_,_,_,z⟩=>z
end VL.My
open PySem PySem.W PyProof.Rows
set_option maxRecDepth 100000 in
set_option maxHeartbeats 0 in
theorem PySem.Challenge.cw_fewways_k67_ringed_partings_looked_at_holds : PySem.Challenge.rw_fewways_k67_ringed_partings_looked_at.Holds := by
 w_on; o_law; k_head; (case hw=>w_witness2)
 k_fill
 refine VL.My.walk (l:=PySem.Challenge.rw_fewways_k67_ringed_partings_looked_at) rfl rfl (fun w h Y=>PySem.W.kIn_of Y) ?F
 case F =>
  intro w mg fa h KX G hmg
  refine VL.My.aNf KX G hmg ?T
  case T =>
   refine' VL.My.aLm KX G (VL.enr ?a0 ?l0 ?c0 ?k0) (VL.enr ?a1 ?l1 ?c1 ?k1) (VL.enr ?a2 ?l2 ?c2 ?k2) (VL.enr ?a3 ?l3 ?c3 ?k3) (VL.enr ?a4 ?l4 ?c4 ?k4) (VL.enr ?a5 ?l5 ?c5 ?k5) (VL.enr ?a6 ?l6 ?c6 ?k6) (VL.enr ?a7 ?l7 ?c7 ?k7) (VL.enr ?a8 ?l8 ?c8 ?k8) (VL.enr ?a9 ?l9 ?c9 ?k9) (VL.enr ?a10 ?l10 ?c10 ?k10) (VL.enr ?a11 ?l11 ?c11 ?k11) (VL.enr ?a12 ?l12 ?c12 ?k12) (VL.enr ?a13 ?l13 ?c13 ?k13) (VL.enr ?a14 ?l14 ?c14 ?k14) (VL.enr ?a15 ?l15 ?c15 ?k15) (VL.enr ?a16 ?l16 ?c16 ?k16) (VL.enr ?a17 ?l17 ?c17 ?k17) (VL.enr ?a18 ?l18 ?c18 ?k18) (VL.enr ?a19 ?l19 ?c19 ?k19) (VL.enr ?a20 ?l20 ?c20 ?k20) (VL.enr ?a21 ?l21 ?c21 ?k21) (VL.enr ?a22 ?l22 ?c22 ?k22) (VL.enr ?a23 ?l23 ?c23 ?k23) (VL.enr ?a24 ?l24 ?c24 ?k24) (VL.enr ?a25 ?l25 ?c25 ?k25) (VL.enr ?a26 ?l26 ?c26 ?k26) (VL.enr ?a27 ?l27 ?c27 ?k27) (VL.enr ?a28 ?l28 ?c28 ?k28) (VL.enr ?a29 ?l29 ?c29 ?k29) (VL.enr ?a30 ?l30 ?c30 ?k30) (VL.enr ?a31 ?l31 ?c31 ?k31) (VL.enr ?a32 ?l32 ?c32 ?k32) (VL.enr ?a33 ?l33 ?c33 ?k33) (VL.enr ?a34 ?l34 ?c34 ?k34) (VL.enr ?a35 ?l35 ?c35 ?k35) (VL.enr ?a36 ?l36 ?c36 ?k36) ?kE ?y_FewError ?o5 ?y_NoWeb ?uP ?z_all ?z_bool ?z_enumerate ?z_int ?z_isinstance ?z_len ?z_list ?z_max ?z_min ?z_range ?z_set ?z_sorted ?z_tuple
   (case y_FewError=>k_is); (case o5=>k_exc)
   (case y_NoWeb=>k_is); (case uP=>k_exc)
   any_goals k_is
