import PyProof.Rows.All
import Wide.All
import OpenK.AllK
import Wide.FinOn
import Lean
import PyProof.EqAt
import PyProof.EqKinds
import PyProof.TupleCall
import KE.LcSums
import PySem.Challenge.RW_fewways_k31_forests_known
noncomputable section
namespace PySem.W.Fast
theorem tw14566454239731237753:True:=⟨⟩
theorem tw13183682278014794457:True:=⟨⟩
theorem tw13933571223802173049:True:=⟨⟩
theorem tw3341838408443373113:True:=⟨⟩
theorem tw5835346145333516985:True:=⟨⟩
theorem tw13592786388491055705:True:=⟨⟩
theorem tw5003716612251477305:True:=⟨⟩
theorem tw6740936139892048185:True:=⟨⟩
theorem tw1407962564138742041:True:=⟨⟩
theorem tw8166670896885546329:True:=⟨⟩
theorem tw3646830996555365544:True:=⟨⟩
theorem tw4076934743306870120:True:=⟨⟩
theorem tw14368049886018476392:True:=⟨⟩
theorem tw2144446469657563816:True:=⟨⟩
theorem tw6595827340597481096:True:=⟨⟩
theorem tw3497166048626300776:True:=⟨⟩
theorem tw5965928984241902376:True:=⟨⟩
theorem tw15435055911971301768:True:=⟨⟩
theorem tw13525895956857146267:True:=⟨⟩
theorem tw8500990891028097083:True:=⟨⟩
theorem tw12168309798828377051:True:=⟨⟩
theorem tw1058321556025363899:True:=⟨⟩
theorem tw13839590534771018075:True:=⟨⟩
theorem tw4981652473389701467:True:=⟨⟩
theorem tw13063502124752490043:True:=⟨⟩
theorem tw9579249729270448667:True:=⟨⟩
theorem tw13829172333522514203:True:=⟨⟩
theorem tw448689889948069482:True:=⟨⟩
theorem tw14661229075172679498:True:=⟨⟩
theorem tw3626552725460767562:True:=⟨⟩
theorem tw16278035752713986506:True:=⟨⟩
theorem tw13926424329551093418:True:=⟨⟩
theorem tw6181938005513226826:True:=⟨⟩
theorem tw11526410184524419370:True:=⟨⟩
theorem tw65778603840076042:True:=⟨⟩
theorem tw2965404180220144010:True:=⟨⟩
theorem tw16925303571932264458:True:=⟨⟩
theorem tw1500595724701050090:True:=⟨⟩
theorem tw13027243699945311466:True:=⟨⟩
theorem tw15405171961070742698:True:=⟨⟩
theorem tw3901835050835090602:True:=⟨⟩
theorem tw5099853112450360405:True:=⟨⟩
theorem tw2225873738530785269:True:=⟨⟩
theorem tw14638271005008461589:True:=⟨⟩
theorem tw17730558010949192053:True:=⟨⟩
theorem tw2762886832855908885:True:=⟨⟩
theorem tw2334425316447489525:True:=⟨⟩
theorem tw17845029352283635189:True:=⟨⟩
theorem tw12981653403257109845:True:=⟨⟩
theorem tw14009059808345521205:True:=⟨⟩
theorem tw11162137224499308756:True:=⟨⟩
theorem tw7948415087778526388:True:=⟨⟩
theorem tw3606548377723141012:True:=⟨⟩
theorem tw44072136019191668:True:=⟨⟩
theorem tw6844070402230135348:True:=⟨⟩
theorem tw11065655808633462548:True:=⟨⟩
theorem tw9828896237516644020:True:=⟨⟩
theorem tw109713809334340116:True:=⟨⟩
theorem tw8222085649665785591:True:=⟨⟩
theorem tw14792415575036348919:True:=⟨⟩
theorem tw4880183562117584503:True:=⟨⟩
theorem tw14049783268203749847:True:=⟨⟩
theorem tw14366725689202048471:True:=⟨⟩
theorem tw16994490935546037431:True:=⟨⟩
theorem tw16351890878079437975:True:=⟨⟩
theorem tw5730834123663768855:True:=⟨⟩
theorem tw6921092806686346519:True:=⟨⟩
theorem tw15491217290808401686:True:=⟨⟩
theorem tw1481173592616461302:True:=⟨⟩
theorem tw15870398669752727062:True:=⟨⟩
theorem tw2725049435967210198:True:=⟨⟩
theorem tw8374282777676007766:True:=⟨⟩
theorem tw6211094081139163542:True:=⟨⟩
theorem tw1476715600847514742:True:=⟨⟩
theorem tw671659254301458742:True:=⟨⟩
theorem tw15906841580151565558:True:=⟨⟩
theorem tw10702794250654175446:True:=⟨⟩
theorem tw5524178702480129633:True:=⟨⟩
theorem tw3256758514345147681:True:=⟨⟩
theorem tw10080804598283872673:True:=⟨⟩
theorem tw4092821724494701633:True:=⟨⟩
theorem tw6821171810486448833:True:=⟨⟩
theorem tw12602202426559368001:True:=⟨⟩
theorem tw12474382326375551425:True:=⟨⟩
theorem tw8669228202011343233:True:=⟨⟩
theorem tw5378801118574405808:True:=⟨⟩
theorem tw3395419489813780272:True:=⟨⟩
theorem tw3047444974578386960:True:=⟨⟩
theorem tw2894742649385692720:True:=⟨⟩
theorem tw14989876769191607792:True:=⟨⟩
theorem tw10342188554551835344:True:=⟨⟩
theorem tw17271072457518838384:True:=⟨⟩
theorem tw13841244996280383952:True:=⟨⟩
theorem tw6011762181067327920:True:=⟨⟩
theorem tw10238290362068209251:True:=⟨⟩
theorem tw1691520977328886339:True:=⟨⟩
theorem tw17880527800181158595:True:=⟨⟩
theorem tw16974428303424973443:True:=⟨⟩
theorem tw13878607895670960451:True:=⟨⟩
theorem tw3351781331736310019:True:=⟨⟩
theorem tw13469514089936808195:True:=⟨⟩
theorem tw3407718103079735395:True:=⟨⟩
theorem tw9460797345921418339:True:=⟨⟩
theorem tw18235323097722765379:True:=⟨⟩
theorem tw276699911888833603:True:=⟨⟩
theorem tw6689870210303734851:True:=⟨⟩
theorem tw8055970797673005347:True:=⟨⟩
theorem tw9244138534710638403:True:=⟨⟩
theorem tw12278896379508722723:True:=⟨⟩
theorem tw7526990592782655570:True:=⟨⟩
theorem tw9427055300841693234:True:=⟨⟩
theorem tw1684483558057078770:True:=⟨⟩
theorem tw8511256062247015250:True:=⟨⟩
theorem tw4901844659171367666:True:=⟨⟩
theorem tw16474896359378137650:True:=⟨⟩
theorem tw4560652955780212210:True:=⟨⟩
theorem tw6435717094472459442:True:=⟨⟩
theorem tw3766093064073374738:True:=⟨⟩
theorem tw885235210805311709:True:=⟨⟩
theorem tw2178127125812038781:True:=⟨⟩
theorem tw404768227839387773:True:=⟨⟩
theorem tw13991463075055593501:True:=⟨⟩
theorem tw12911901638297024541:True:=⟨⟩
theorem tw10724200382242750621:True:=⟨⟩
theorem tw11915658093020797021:True:=⟨⟩
theorem tw2669101596698787837:True:=⟨⟩
theorem tw10006389217955621885:True:=⟨⟩
theorem tw10176809806583338941:True:=⟨⟩
theorem tw10449224635021181885:True:=⟨⟩
theorem tw5970724829684496285:True:=⟨⟩
theorem tw14600159980216958589:True:=⟨⟩
theorem tw2400039608151762460:True:=⟨⟩
theorem tw2901965546993543420:True:=⟨⟩
theorem tw12599437485316584668:True:=⟨⟩
theorem tw13509060390267805756:True:=⟨⟩
theorem tw11001834526648549084:True:=⟨⟩
theorem tw4378205649872884412:True:=⟨⟩
theorem tw316106862638572127:True:=⟨⟩
theorem tw7512304614243039679:True:=⟨⟩
theorem tw9174846743566499455:True:=⟨⟩
theorem tw4044846308616047807:True:=⟨⟩
theorem tw15025539919037665471:True:=⟨⟩
theorem tw4232268802885147871:True:=⟨⟩
theorem tw7397474902739439455:True:=⟨⟩
theorem tw7113925777024428063:True:=⟨⟩
theorem tw2982540127466286783:True:=⟨⟩
theorem tw9547717239660750719:True:=⟨⟩
theorem tw10557531130282841854:True:=⟨⟩
theorem tw2507464402630350558:True:=⟨⟩
theorem tw6611324090328641982:True:=⟨⟩
theorem tw7701930843879424670:True:=⟨⟩
theorem tw9362721441775454302:True:=⟨⟩
theorem tw5264120560334277662:True:=⟨⟩
theorem tw6530393015448812798:True:=⟨⟩
theorem tw15331694611294683294:True:=⟨⟩
theorem tw11214891714522792798:True:=⟨⟩
theorem tw10307589355954988734:True:=⟨⟩
theorem tw11225416496325099422:True:=⟨⟩
theorem tw14193735650712259486:True:=⟨⟩
theorem tw6175904592841021054:True:=⟨⟩
theorem tw11160222221480432905:True:=⟨⟩
theorem tw11869680979109899433:True:=⟨⟩
theorem tw4291547449297958985:True:=⟨⟩
theorem tw16937440065963224073:True:=⟨⟩
theorem tw2617480687638376137:True:=⟨⟩
theorem tw3093052821034355625:True:=⟨⟩
theorem tw12563752730290640521:True:=⟨⟩
theorem tw17918974099695474505:True:=⟨⟩
theorem tw8986531300507156009:True:=⟨⟩
theorem tw2355949419053534985:True:=⟨⟩
theorem tw5345993151350337993:True:=⟨⟩
theorem tw7619121161606783561:True:=⟨⟩
theorem tw3570238069693224233:True:=⟨⟩
theorem tw292473496909516073:True:=⟨⟩
theorem tw5970625483357128201:True:=⟨⟩
theorem tw11646151361964075209:True:=⟨⟩
theorem tw18051369688495929545:True:=⟨⟩
theorem tw7445059619513667721:True:=⟨⟩
theorem tw1883077847672232073:True:=⟨⟩
theorem tw16357060952441360745:True:=⟨⟩
theorem tw11066008608982319433:True:=⟨⟩
theorem tw12495047232617355864:True:=⟨⟩
theorem tw15593609598130849080:True:=⟨⟩
theorem tw17096783920888329176:True:=⟨⟩
theorem tw16148172361159118392:True:=⟨⟩
theorem tw15310190339188510264:True:=⟨⟩
theorem tw5190481207860772312:True:=⟨⟩
theorem tw11043901049246300267:True:=⟨⟩
theorem tw18202692464560210347:True:=⟨⟩
theorem tw12805696349790977323:True:=⟨⟩
theorem tw12398928486843818522:True:=⟨⟩
theorem tw4892724799530627738:True:=⟨⟩
theorem tw3642024635693253114:True:=⟨⟩
theorem tw3638693937997992410:True:=⟨⟩
theorem tw18056652225164433530:True:=⟨⟩
theorem tw13015164649878171738:True:=⟨⟩
theorem tw18385944505892285466:True:=⟨⟩
theorem tw883022222284871898:True:=⟨⟩
theorem tw2494782104825649306:True:=⟨⟩
theorem tw259202166745828218:True:=⟨⟩
theorem tw15688092226518963098:True:=⟨⟩
theorem tw13873494436139083845:True:=⟨⟩
theorem tw8848418804840176165:True:=⟨⟩
theorem tw12682177140396733989:True:=⟨⟩
theorem tw8326659952913147397:True:=⟨⟩
theorem tw372948369049264325:True:=⟨⟩
theorem tw7269058859904495749:True:=⟨⟩
theorem tw14989442279450887525:True:=⟨⟩
theorem tw14200694719305727236:True:=⟨⟩
theorem tw15015773952857641892:True:=⟨⟩
theorem tw9084388917120972836:True:=⟨⟩
theorem tw18115949518525625060:True:=⟨⟩
theorem tw9188810289869782660:True:=⟨⟩
theorem tw1207997309039530852:True:=⟨⟩
theorem tw4380045958694116132:True:=⟨⟩
theorem tw6866061709292453636:True:=⟨⟩
theorem tw11791105705957521156:True:=⟨⟩
theorem tw17761812648231678436:True:=⟨⟩
theorem tw1212994371529416388:True:=⟨⟩
theorem tw10545500291660293348:True:=⟨⟩
theorem tw11472264831079202948:True:=⟨⟩
theorem tw11008118140469011812:True:=⟨⟩
theorem tw13229866982881051399:True:=⟨⟩
theorem tw13854377530890608615:True:=⟨⟩
theorem tw17865999263288753767:True:=⟨⟩
theorem tw17636743700606372423:True:=⟨⟩
theorem tw15296341788035140391:True:=⟨⟩
theorem tw2797378252051516199:True:=⟨⟩
theorem tw6543883882985755143:True:=⟨⟩
theorem tw2560261681495672519:True:=⟨⟩
theorem tw15602598323382903975:True:=⟨⟩
theorem tw12646254896486798439:True:=⟨⟩
theorem tw9512969319530089543:True:=⟨⟩
theorem tw14830367076492051463:True:=⟨⟩
theorem tw13843734817917193382:True:=⟨⟩
theorem tw17353120977162541222:True:=⟨⟩
theorem tw16074206265981732934:True:=⟨⟩
theorem tw14036745607185865638:True:=⟨⟩
theorem tw10491060043247097766:True:=⟨⟩
theorem tw14763016339715551686:True:=⟨⟩
theorem tw11722360815466354310:True:=⟨⟩
theorem tw10841828082171097574:True:=⟨⟩
theorem tw2035266666107197862:True:=⟨⟩
theorem tw16768833959873061286:True:=⟨⟩
theorem tw2998280601255498054:True:=⟨⟩
theorem tw10209263021769062438:True:=⟨⟩
theorem tw14726366828741678609:True:=⟨⟩
theorem tw13940356841237010481:True:=⟨⟩
theorem tw1677222978086892817:True:=⟨⟩
theorem tw10928074113161587889:True:=⟨⟩
theorem tw13193435735350420337:True:=⟨⟩
theorem tw3308066293340730385:True:=⟨⟩
theorem tw7840260539276053137:True:=⟨⟩
theorem tw17481719653180630577:True:=⟨⟩
theorem tw18129395089746589233:True:=⟨⟩
theorem tw7325050943125060977:True:=⟨⟩
theorem tw5034281234586601376:True:=⟨⟩
theorem tw470211437839147680:True:=⟨⟩
theorem tw3813984395244590944:True:=⟨⟩
theorem tw11945597756412988928:True:=⟨⟩
theorem tw8239603804886246080:True:=⟨⟩
theorem tw9907611649218918816:True:=⟨⟩
theorem tw12346870929918790272:True:=⟨⟩
theorem tw16402570938409244192:True:=⟨⟩
theorem tw13311049594208296192:True:=⟨⟩
theorem tw5101576304326180064:True:=⟨⟩
theorem tw9891480253256616384:True:=⟨⟩
theorem tw14315498923935106867:True:=⟨⟩
theorem tw8564526112534205875:True:=⟨⟩
theorem tw9440333306516091347:True:=⟨⟩
theorem tw11020906582273536019:True:=⟨⟩
theorem tw14433455745686258355:True:=⟨⟩
theorem tw16362156232169040563:True:=⟨⟩
theorem tw16180679131025897634:True:=⟨⟩
theorem tw3021450689197528674:True:=⟨⟩
theorem tw5167535067054719522:True:=⟨⟩
theorem tw7029117035541586466:True:=⟨⟩
theorem tw16799632016393446658:True:=⟨⟩
theorem tw6217352695699067266:True:=⟨⟩
theorem tw5366622153804699010:True:=⟨⟩
theorem tw13687447939592400834:True:=⟨⟩
theorem tw14725131586417556781:True:=⟨⟩
theorem tw17134931418351768877:True:=⟨⟩
theorem tw386144093871298605:True:=⟨⟩
theorem tw8483527005569176621:True:=⟨⟩
theorem tw14288196181635654701:True:=⟨⟩
theorem tw13086414893416814477:True:=⟨⟩
theorem tw11524209963281519693:True:=⟨⟩
theorem tw5071361572567027789:True:=⟨⟩
theorem tw12911169561191386829:True:=⟨⟩
theorem tw2424745902060411565:True:=⟨⟩
theorem tw7260989354960387469:True:=⟨⟩
theorem tw11434920556735730188:True:=⟨⟩
theorem tw5581601555655303404:True:=⟨⟩
theorem tw12525702702797016524:True:=⟨⟩
theorem tw13506610513348168140:True:=⟨⟩
theorem tw8622859521821241420:True:=⟨⟩
theorem tw1484439759049396332:True:=⟨⟩
theorem tw5594511746991900396:True:=⟨⟩
theorem tw2830749025826630188:True:=⟨⟩
theorem tw12982216922105823628:True:=⟨⟩
theorem tw614830316949878351:True:=⟨⟩
theorem tw7965376666924368399:True:=⟨⟩
theorem tw4132658850110415343:True:=⟨⟩
theorem tw11503067323208911279:True:=⟨⟩
theorem tw18324446204853982639:True:=⟨⟩
theorem tw2431079298656975407:True:=⟨⟩
theorem tw7002242076946583087:True:=⟨⟩
theorem tw11971084771330865327:True:=⟨⟩
theorem tw2461679786877688207:True:=⟨⟩
theorem tw13857249405162519951:True:=⟨⟩
theorem tw17008005381466209359:True:=⟨⟩
theorem tw5418332152489693263:True:=⟨⟩
theorem tw3290252229964823759:True:=⟨⟩
theorem tw4375211790682740559:True:=⟨⟩
theorem tw8662404825858745167:True:=⟨⟩
theorem tw4401415610071412495:True:=⟨⟩
theorem tw12885852404632653583:True:=⟨⟩
theorem tw9020703780670986927:True:=⟨⟩
theorem tw5929304209977666447:True:=⟨⟩
theorem tw3303020477959940846:True:=⟨⟩
theorem tw12758979520780284558:True:=⟨⟩
theorem tw9707831202665872974:True:=⟨⟩
theorem tw16953167946656659726:True:=⟨⟩
theorem tw8088491067289134190:True:=⟨⟩
theorem tw13232176592637941774:True:=⟨⟩
theorem tw17013588367723954318:True:=⟨⟩
theorem tw13645568511855964302:True:=⟨⟩
theorem tw15922553860079315022:True:=⟨⟩
theorem tw2132888301769717742:True:=⟨⟩
theorem tw2202278351503635342:True:=⟨⟩
theorem tw17414197167840817774:True:=⟨⟩
theorem tw7982036883414155895:True:=⟨⟩
theorem tw10057032602885551226:True:=⟨⟩
end PySem.W.Fast
set_option bootstrap.genMatcherCode false
set_option compiler.extract_closed false
set_option Elab.async false
set_option linter.all false
set_option maxRecDepth 100000
namespace L2
open PySem PySem.Spec PyProof.Rows
abbrev Key:=Sum Int Str
def aHQ:Key->Value->Bool
 | .inl k,v=>Value.isInt k v
 | .inr x,v=>Value.isStrOf x v
def aKY(w:World):Key->Int
 | .inl k=>hashInt k
 | .inr x=>hashStr w x
theorem cC:∀{k:Key} {v:Value},aHQ k v=true->(∃i t,k=Sum.inl i/\v=Value.int i t)\/(∃x t,k=Sum.inr x/\v=Value.str x t)
 | .inl i,v,h=>by
  obtain⟨t,e⟩:=Value.isInt_shape (k:=i) (v:=v) h;exact .inl ⟨i,t,rfl,e⟩
 | .inr x,v,h=>by
  obtain⟨t,e⟩:=Value.isStrOf_shape (x:=x) (v:=v) h;exact .inr ⟨x,t,rfl,e⟩
theorem aIc(a b:Int):decide ((Sum.inl a:Key)=Sum.inl b)=(a==b):=by
 by_cases e:a=b
 ·subst e;simp
 ·have h:¬(Sum.inl a:Key)=Sum.inl b:=λ q=>e (Sum.inl.inj q)
  rw[decide_eq_false h];exact(beq_eq_false_iff_ne.mpr e).symm
theorem aI9(a b:Str):decide ((Sum.inr a:Key)=Sum.inr b)=decide (a=b):=by
 by_cases e:a=b
 ·subst e;simp
 ·have h:¬(Sum.inr a:Key)=Sum.inr b:=λ q=>e (Sum.inr.inj q)
  rw[decide_eq_false h,decide_eq_false e]
theorem aIb(a:Int)(b:Str):decide ((Sum.inl a:Key)=Sum.inr b)=false:=decide_eq_false (λ q=>nomatch q)
theorem aIa(a:Str)(b:Int):decide ((Sum.inr a:Key)=Sum.inl b)=false:=decide_eq_false (λ q=>nomatch q)
def xO(prog:Program)(w:World):PySem.KeyKind prog w Key where
 is:=aHQ
 hash:=aKY w
 inj:=λ v a b ha hb=>by
  rcases cC ha with ⟨i,t,rfl,rfl⟩|⟨x,t,rfl,rfl⟩
  ·rcases cC hb with ⟨j,u,rfl,e⟩|⟨y,u,rfl,e⟩
   ·injection e with e1 _;rw[e1]
   ·exact nomatch e
  ·rcases cC hb with ⟨j,u,rfl,e⟩|⟨y,u,rfl,e⟩
   ·exact nomatch e
   ·injection e with e1 _;rw[e1]
 byValue:=λ k v h=>by
  rcases cC h with ⟨i,t,rfl,rfl⟩|⟨x,t,rfl,rfl⟩<;>rfl
 pyHash:=λ hv h=>by
  rcases cC hv with ⟨i,t,rfl,rfl⟩|⟨x,t,rfl,rfl⟩
  ·exact wpAny_pyHash_int h
  ·exact wpAny_pyHash_str h
 eqBool:=λ hu hv h=>by
  rcases cC hu with ⟨i,t,rfl,rfl⟩|⟨x,t,rfl,rfl⟩
  ·rcases cC hv with ⟨j,u,rfl,rfl⟩|⟨y,u,rfl,rfl⟩
   ·rw[aIc]at h;exact wpAny_eqBool_int h
   ·rw[aIb]at h;exact SeqAt.EqAt.int_str i t y u _ _ _ _ h
  ·rcases cC hv with ⟨j,u,rfl,rfl⟩|⟨y,u,rfl,rfl⟩
   ·rw[aIa]at h;exact SeqAt.EqAt.str_int x t j u _ _ _ _ h
   ·rw[aI9]at h;exact wpAny_eqBool_str h
 «strs»:=λ k x t v h=>by
  rcases cC h with ⟨i,u,rfl,e⟩|⟨y,u,rfl,e⟩
  ·exact nomatch e
  ·injection e with e1 _
   subst e1;cases v<;>rfl
inductive V where
 |non|bl (b:Bool)|int (i:Int)|str (x:Str)|byt (b:Array UInt8)|flt (b:UInt64)|ref (a:Addr)|ty (n:String)
 deriving DecidableEq
def RelV:V->Value->Prop
 | .non,u=>u=Value.none
 | .bl b,u=>u=Value.bool b
 | .int i,u=>∃t,u=Value.int i t
 | .str x,u=>∃t,u=Value.str x t
 | .byt b,u=>∃t,u=Value.bytes b t
 | .flt b,u=>∃t,u=Value.float b t
 | .ref a,u=>u=Value.ref a
 | .ty n,u=>u=Value.type n
abbrev Vals:List V->List Value->Prop:=Paired RelV
theorem Vals.length{xs:List V}{us:List Value}(r:Vals xs us):xs.length=us.length:=Paired.length r
theorem Vals.get:∀{xs:List V} {us:List Value} {i:Nat} {x:V},Vals xs us->xs[i]? =some x->∃u,us[i]? =some u/\RelV x u
 |_,_,_,_,.nil,e=>by simp at e
 |_,_,0,_,.cons r _,e=>by simp at e;subst e;exact⟨_,rfl,r⟩
 |_,_,i+1,x,.cons _ t,e=>by
  obtain⟨u,h1,h2⟩:=Vals.get (i:=i) (x:=x) t (by simpa using e);exact⟨u,by simpa using h1,h2⟩
theorem Vals.set{x:V}{u:Value}(r:RelV x u):∀{xs:List V} {us:List Value} (i:Nat),Vals xs us->Vals (xs.set i x) (us.set i u)
 |_,_,_,.nil=>.nil
 |_,_,0,.cons _ t=>.cons r t
 |_,_,i+1,.cons q t=>.cons q (Vals.set r i t)
theorem Vals.append:∀{xs ys:List V} {us ws:List Value},Vals xs us->Vals ys ws->Vals (xs++ys) (us++ws)
 |_,_,_,_,.nil,s=>s
 |_,_,_,_,.cons r t,s=>.cons r (Vals.append t s)
theorem Vals.take:∀{xs:List V} {us:List Value} (n:Nat),Vals xs us->Vals (xs.take n) (us.take n)
 |_,_,0,_=>.nil
 |_,_,_+1,.nil=>.nil
 |_,_,n+1,.cons r t=>.cons r (Vals.take n t)
theorem Vals.drop:∀{xs:List V} {us:List Value} (n:Nat),Vals xs us->Vals (xs.drop n) (us.drop n)
 |_,_,0,r=>r
 |_,_,_+1,.nil=>.nil
 |_,_,n+1,.cons _ t=>Vals.drop n t
def aCl:Option V->Option Value->Prop
 |some v,some u=>RelV v u
 |none,none=>True
 |_,_=>False
def KV{κ:Type}:List (κ×V)->List (κ×Value)->Prop:=Paired λ(p:κ×V) (q:κ×Value)=>p.1=q.1/\RelV p.2 q.2
def kV:Key->V
 | .inl i=>.int i
 | .inr x=>.str x
inductive HO where
 |lst (xs:List V)
 |tup (xs:List V)
 |dK (kvs:List (Key×V))|dT (kvs:List (List Key×V))
 |set (S:Int->Bool) (n:Nat)
 |ins (C dx:Addr) (fs:List (Str×V))
 |own (x:Addr)
 |xd (fs:List (Str×V))
 |met (f x:Addr)
 |rng (lo hi:Int)
 |frz (o:Obj) (u:HO)
 |tbl (ps:Array Value)
 |ext (φ:Heap->Prop)
abbrev Hp:=Addr->Option HO
def upd(H:Hp)(a:Addr)(o:HO):Hp:=λ b=>if b=a then some o else H b
theorem ao{H:Hp}{a:Addr}{o:HO}:upd H a o a=some o:=by unfold upd;rw[if_pos rfl]
theorem aa{H:Hp}{a b:Addr}{o:HO}(h:b≠a):upd H a o b=H b:=by unfold upd;rw[if_neg h]
theorem bZ{H:Hp}{a b:Addr}{o:HO}(h:H a=some o)(h':H b=none):a≠b:=by
 intro e;subst e;rw[h]at h';cases h'
section
variable(P:Program)(w:World)
def cX(H:Hp)(h:Heap)(a:Addr):HO->Prop
 | .lst xs=>xs.length<=sizeLine/\∃(its:List Value) (n:Nat),Vals xs its/\h.get? a=some {cls:=.type "list",data:=.seq its.toArray n}
 | .tup xs=>xs.length<=sizeLine/\∃its:List Value,Vals xs its/\IsTup h a its.toArray
 | .dK kvs=>kvs.length<=sizeLine/\(a==sysModules)=false/\∃vs,KV kvs vs/\h.DictOf (xO P w) a vs
 | .dT kvs=>kvs.length<=sizeLine/\(a==sysModules)=false/\∃xs:List (List Key×Addr×Value),
   Paired (λ(p:List Key×V) (q:List Key×Addr×Value)=>p.1=q.1/\H q.2.1=some (.tup (p.1.map kV))/\RelV p.2 q.2.2) kvs xs/\
   ∃o es ep,h.get? a=some o/\o.ExactDict/\o.data= .dict es ep/\es.toList=xs.map (entryOfKey (tupleKind (xO P w)))/\(xs.map (·.1)).Nodup
 | .set S n=>h.SetOf (intKind P w) a S n
 | .ins C dx fs=>H dx=some (.own a)/\fs.length<=1000/\dx≠a/\h.get? a=some (PySem.W.instObj C dx)/\
   ∃mA,h.Ns1 dx mA/\(∀f,aCl (fs.lookup f) (mA f))/\PySem.Within mA (fs.map (·.1))
 | .own _=>∃o,h.get? a=some o
 | .xd fs=>∃mA,h.Ns1 a mA/\∀f,aCl (fs.lookup f) (mA f)
 | .rng lo hi=>∃t u v,h.get? a=some {cls:=.type "range",data:=.fields #[.int lo t,.int hi u,.int 1 v]}
 | .frz o u=>h.get? a=some o/\cX H h a u
 | .tbl ps=>h.get? a=some {cls:=.none,data:=.fields ps}
 | .met f x=>h.get? a=some (PySem.W.methodObj (.ref f) (.ref x))
 | .ext φ=>φ h/\(∃o,h.get? a=some o)/\∀h1 h2:Heap,φ h1->(∀o,h1.get? a=some o->h2.get? a=some o)->φ h2
def HOk(H:Hp)(h:Heap):Prop:=∀a o,H a=some o->cX P w H h a o
end
section
variable{P:Program}{w:World}{H H':Hp}{h h':Heap}{a:Addr}{o:HO}
theorem cX.lt(x:cX P w H h a o):a<h.objs.size:=by
 cases o with
 |lst xs=>obtain⟨_,_,_,_,e⟩:=x;exact Heap.lt_size e
 |tup xs=>obtain⟨_,_,_,p⟩:=x;exact p.lt
 |dK kvs=>obtain⟨_,_,_,_,o,_,_,e,_⟩:=x;exact Heap.lt_size e
 |dT kvs=>obtain⟨_,_,_,_,o,_,_,e,_⟩:=x;exact Heap.lt_size e
 |set S n=>obtain⟨o,_,_,_,e,_⟩:=x;exact Heap.lt_size e
 |ins C dx fs=>obtain⟨_,_,_,e,_⟩:=x;exact Heap.lt_size e
 |own y=>obtain⟨_,e⟩:=x;exact Heap.lt_size e
 |xd fs=>obtain⟨_,⟨_,_,_,e,_⟩,_⟩:=x;exact Heap.lt_size e
 |rng lo hi=>obtain⟨_,_,_,e⟩:=x;exact Heap.lt_size e
 |frz ob u=>obtain⟨e,_⟩:=x;exact Heap.lt_size e
 |tbl ps=>exact Heap.lt_size (show h.get? a=some _ from x)
 |met f y=>exact Heap.lt_size (show h.get? a=some _ from x)
 |ext φ=>obtain⟨_,⟨_,e⟩,_⟩:=x;exact Heap.lt_size e
theorem Paired.mapP{α β:Type}{F G:α->β->Prop}:∀{l₁:List α} {l₂:List β},Paired F l₁ l₂->(∀a b,F a b->G a b)->Paired G l₁ l₂
 |_,_,.nil,_=>.nil
 |_,_,.cons r t,f=>.cons (f _ _ r) (Paired.mapP t f)
theorem cX.stay(x:cX P w H h a o)(k:∀b u,(b=a\/H b=some (.own a))->h.get? b=some u->h'.get? b=some u)
  (ho:∀b,H b=some (.own a)->H' b=some (.own a))(ht:∀b xs,H b=some (.tup xs)->H' b=some (.tup xs)):cX P w H' h' a o:=by
 induction o with
 |lst xs=>obtain⟨z,its,n,r,e⟩:=x;exact⟨z,its,n,r,k _ _ (.inl rfl) e⟩
 |tup xs=>obtain⟨z,its,r,ob,e,c⟩:=x;exact⟨z,its,r,ob,k _ _ (.inl rfl) e,c⟩
 |dK kvs=>obtain⟨z,y,vs,r,ob,es,ep,e,c⟩:=x;exact⟨z,y,vs,r,ob,es,ep,k _ _ (.inl rfl) e,c⟩
 |dT kvs=>
  obtain⟨z,y,xs,r,ob,es,ep,e,c⟩:=x;exact⟨z,y,xs,Paired.mapP r λ p q z=>⟨z.1,ht _ _ z.2.1,z.2.2⟩,ob,es,ep,k _ _ (.inl rfl) e,c⟩
 |set S n=>obtain⟨ob,es,ep,t,e,c⟩:=x;exact⟨ob,es,ep,t,k _ _ (.inl rfl) e,c⟩
 |ins C dx fs=>
  obtain⟨d,z,ne,e,mA,⟨od,es,ep,e2,c⟩,r⟩:=x;exact⟨ho _ d,z,ne,k _ _ (.inl rfl) e,mA,⟨od,es,ep,k _ _ (.inr d) e2,c⟩,r⟩
 |own y=>obtain⟨ob,e⟩:=x;exact⟨ob,k _ _ (.inl rfl) e⟩
 |xd fs=>obtain⟨mA,⟨od,es,ep,e,c⟩,r⟩:=x;exact⟨mA,⟨od,es,ep,k _ _ (.inl rfl) e,c⟩,r⟩
 |rng lo hi=>obtain⟨t,u,v,e⟩:=x;exact⟨t,u,v,k _ _ (.inl rfl) e⟩
 |frz ob u ih=>obtain⟨e,q⟩:=x;exact⟨k _ _ (.inl rfl) e,ih q⟩
 |tbl ps=>
  have e:h.get? a=some {cls:=.none,data:=.fields ps}:=x;show h'.get? a=some {cls:=.none,data:=.fields ps};exact k a _ (.inl rfl) e
 |met f y=>
  have e:h.get? a=some (PySem.W.methodObj (.ref f) (.ref y)):=x;show h'.get? a=some (PySem.W.methodObj (.ref f) (.ref y));exact k a _ (.inl rfl) e
 |ext φ=>obtain⟨p,⟨o,e⟩,st⟩:=x;exact⟨st _ _ p λ o q=>k _ _ (.inl rfl) q,⟨o,k _ _ (.inl rfl) e⟩,st⟩
theorem HOk.lt(x:HOk P w H h)(e:H a=some o):a<h.objs.size:=(x a o e).lt
theorem HOk.fresh(x:HOk P w H h)(e:h.objs.size<=a):H a=none:=by
 cases q:H a with
 |none=>rfl
 |some u=>exact absurd (Nat.lt_of_lt_of_le (x.lt q) e) (Nat.lt_irrefl _)
theorem HOk.kept(x:HOk P w H h)(k:∀b u,h.get? b=some u->h'.get? b=some u):HOk P w H h':=λ a o e=>
 (x a o e).stay (λ b u _ q=>k b u q) (λ _ q=>q) λ _ _ q=>q
theorem HOk.laid(x:HOk P w H h)(k:∀b u,h.get? b=some u->h'.get? b=some u)(hp:h.objs.size<=a)(new:cX P w (upd H a o) h' a o):HOk P w (upd H a o) h':=λ b u e=>by
 have hn:=x.fresh hp;by_cases hb:b=a
 ·subst hb;rw[ao]at e;cases e;exact new
 ·rw[aa hb]at e
  exact(x b u e).stay (λ c v _ q=>k c v q) (λ c q=>by rw[aa (bZ q hn)];exact q) λ c xs q=>by rw[aa (bZ q hn)];exact q
end
def Rd(H:Hp)(a:Addr)(u:HO):Prop:=H a=some u\/∃o,H a=some (.frz o u)
theorem Rd.ok{P:Program}{w:World}{H:Hp}{h:Heap}{a:Addr}{u:HO}(r:Rd H a u)(x:HOk P w H h):cX P w H h a u:=by
 rcases r with r|⟨o,r⟩
 ·exact x a u r
 ·obtain⟨_,q⟩:=x a _ r
  exact q
def Mut:Option HO->Prop
 |some (.lst _)=>True
 |some (.dK _)=>True
 |some (.dT _)=>True
 |some (.set _ _)=>True
 |some (.ins _ _ _)=>True
 |some (.ext _)=>True
 |_=>False
section
variable{P:Program}{w:World}{H:Hp}{h h':Heap}{x e:Addr}{o':HO}
theorem HOk.write(ok:HOk P w H h)(mu:Mut (H x))(he:e=x\/H e=some (.own x))(k:∀b u,b≠e->h.get? b=some u->h'.get? b=some u)(heo:∃u,h'.get? e=some u)
  (new:cX P w (upd H x o') h' x o'):HOk P w (upd H x o') h':=λ b u q=>by
 have nown:∀c y,H c=some (.own y)->c≠x:=λ c y r z=>by subst z;rw[r]at mu;exact mu
 have ntup:∀c xs,H c=some (.tup xs)->c≠x:=λ c xs r z=>by subst z;rw[r]at mu;exact mu
 by_cases hb:b=x
 ·subst hb;rw[ao]at q;cases q;exact new
 ·rw[aa hb]at q
  by_cases hbe:b=e
  ·have q':H b=some (.own x):=by
    rcases he with z|z
    ·exact absurd (hbe.trans z) hb
    ·rw[hbe];exact z
   rw[q]at q';cases q';obtain⟨v,hv⟩:=heo;exact⟨v,by rw[hbe];exact hv⟩
  ·refine(ok b u q).stay (λ c v hc r=>k c v ?_ r) (λ c r=>by rw[aa (nown c b r)];exact r) λ c xs r=>by rw[aa (ntup c xs r)];exact r
   rcases hc with rfl|hc
   ·exact hbe
   ·rintro rfl
    rcases he with z|z
    ·exact nown c b hc z
    ·rw[hc]at z;cases z;exact hb rfl
end
structure Un(fs ex:List Addr)(H H':Hp)(h h':Heap):Prop where
 keep:∀b o,h.get? b=some o->H b=none->b∉fs->b∉ex->h'.get? b=some o
 slot:∀b o,h.get? b=some o->H b=none->b∈fs->b∉ex->∃sl,h'.get? b=some {o with slots:=sl}
 free:∀b o,h.get? b=some o->H b=none->b∉ex->H' b=none
 there:∀b o,h.get? b=some o->b∉ex->∃o',h'.get? b=some o'
 tups:∀b xs,H b=some (.tup xs)->H' b=some (.tup xs)
 frzs:∀b o u,H b=some (.frz o u)->H' b=some (.frz o u)
 tbls:∀b ps,H b=some (.tbl ps)->∃more,H' b=some (.tbl (ps++more))
section
variable{fs fs' ex ex':List Addr}{H H1 H2:Hp}{h h1 h2 h':Heap}{a x e:Addr}{o:HO}
theorem Un.any(u:Un fs ex H H1 h h1){b:Addr}{ob:Obj}(q:h.get? b=some ob)(n:H b=none)(hx:b∉ex):∃sl,h1.get? b=some {ob with slots:=sl}:=by
 by_cases hb:b∈fs
 ·exact u.slot b ob q n hb hx
 ·exact⟨ob.slots,u.keep b ob q n hb hx⟩
theorem Un.kept(k:∀b u,h.get? b=some u->h'.get? b=some u):Un fs ex H H h h':=
 ⟨λ b ob q _ _ _=>k b ob q,λ b ob q _ _ _=>⟨ob.slots,k b ob q⟩,λ _ _ _ n _=>n,λ b ob q _=>⟨ob,k b ob q⟩,λ _ _ q=>q,λ _ _ _ q=>q,λ _ ps q=>⟨#[],by rw[q];simp⟩⟩
theorem Un.refl:Un fs ex H H h h:=Un.kept λ _ _ q=>q
theorem Un.laid(k:∀b u,h.get? b=some u->h'.get? b=some u)(hp:h.objs.size<=a)(hn:H a=none):Un fs ex H (upd H a o) h h' where
 keep:=λ b u q _ _ _=>k b u q
 slot:=λ b u q _ _ _=>⟨u.slots,k b u q⟩
 free:=λ b u q n _=>by rw[aa (Nat.ne_of_lt (Nat.lt_of_lt_of_le (Heap.lt_size q) hp))];exact n
 there:=λ b u q _=>⟨u,k b u q⟩
 tups:=λ b xs q=>by rw[aa (bZ q hn)];exact q
 frzs:=λ b u xs q=>by rw[aa (bZ q hn)];exact q
 tbls:=λ b ps q=>⟨#[],by rw[aa (bZ q hn),q];simp⟩
theorem Un.write(mu:Mut (H x))(he:e=x\/H e=some (.own x))(k:∀b u,b≠e->h.get? b=some u->h'.get? b=some u)(heo:∃u,h'.get? e=some u):Un fs ex H (upd H x o) h h':=by
 have hx:∀b,H b=none->b≠x:=λ b n z=>by subst z;rw[n]at mu;exact mu
 have hb:∀b,H b=none->b≠e:=λ b n z=>by
  subst z;rcases he with r|r
  ·exact hx b n r
  ·rw[n]at r;cases r
 have hm:∀b u,H b=some u->¬Mut (some u)->b≠x:=λ b u q nm z=>by subst z;rw[q]at mu;exact nm mu
 refine⟨λ b u q n _ _=>k b u (hb b n) q,λ b u q n _ _=>⟨u.slots,k b u (hb b n) q⟩,λ b u q n _=>by rw[aa (hx b n)];exact n,λ b u q _=>?_,
  λ b xs q=>by rw[aa (hm b _ q λ z=>z)];exact q,λ b u xs q=>by rw[aa (hm b _ q λ z=>z)];exact q,λ b ps q=>⟨#[],by rw[aa (hm b _ q λ z=>z),q];simp⟩⟩
 by_cases hbe:b=e
 ·subst hbe;exact heo
 ·exact⟨u,k b u hbe q⟩
theorem Un.mono(u:Un fs ex H H1 h h1)(hs:∀b∈fs,b∈fs')(hx:∀b∈ex,b∈ex'):Un fs' ex' H H1 h h1:=
 ⟨λ b ob q n hb he=>u.keep b ob q n (λ z=>hb (hs b z)) λ z=>he (hx b z),λ _ _ q n _ he=>u.any q n λ z=>he (hx _ z),λ b ob q n he=>u.free b ob q n λ z=>he (hx b z),λ b ob q he=>u.there b ob q λ z=>he (hx b z),u.tups,u.frzs,u.tbls⟩
end
def trk(h:Heap)(H:Hp):List Addr:=(List.range h.objs.size).filter λ a=>(H a).isSome
def aE1(h:Heap)(H:Hp):Heap:=PySem.W.hideAll h (trk h H)
theorem aC6(h:Heap)(H:Hp):(aE1 h H).objs.size=h.objs.size:=PySem.W.hideAll_size _ _
theorem aE0{h:Heap}{H:Hp}{b:Addr}{o:Obj}(e:h.get? b=some o)(n:H b=none):(aE1 h H).get? b=some o:=
 PySem.W.hideAll_get _ e λ hm=>by
  have q:(H b).isSome=true:=(List.mem_filter.mp hm).2;rw[n]at q;simp at q
theorem aFv{h:Heap}{H:Hp}{b:Addr}{o:Obj}(e:(aE1 h H).get? b=some o):h.get? b=some o/\H b=none:=by
 have e':h.get? b=some o:=PySem.W.of_hideAll (trk h H) e;refine⟨e',?_⟩;cases q:H b with
 |none=>rfl
 |some x=>
  have hm:b∈trk h H:=List.mem_filter.mpr ⟨List.mem_range.mpr (Heap.lt_size e'),by simp[q]⟩;have z:(aE1 h H).get? b=none:=PySem.W.hideAll_none (trk h H) hm;rw[z]at e;cases e
def aGl(g h:Heap)(L:Addr):List (Addr×Obj):=(List.range h.objs.size).filterMap λ a=>if a=L\/(g.get? a).isSome=true then none else(h.get? a).map λ o=>(a,o)
def rest(g h:Heap)(L d:Addr):List (Addr×Obj):=(aGl g h L).filter λ p=>decide (p.1≠d)
structure Mod(K:PySem.W.Frag)(mg:Str->Option Value)(base:Heap):Prop where
 kin:K.In base
 glob:base.Ns mainGlobals mg
 blt:∃mb,base.Ns builtinsNs mb/\∀x:Str,x≠"__name__"->mb x=bootBuiltins x
 nolimit:base.NoLimit
structure Cx where
 prog:Program
 w:World
 K:PySem.W.Frag
 mg:Str->Option Value
 base:Heap
 A:Around
 N:List Str
 s₀:Shared
 H₀:Hp
 env:Env
 outer:List Env
 stack:List Env
 ex:List Addr
 fn:Str->Bool
 calm:Bool
 pn:List (Addr×Obj)
 xe:Value->Shared->Prop
 ta:List (Addr×Obj):=[]
 tq:Str:=""
def frs(l:List Env):List Addr:=l.filterMap (·.frame)
abbrev Cx.fs(X:Cx):List Addr:=frs X.outer
def Vis(sc:Scope)(x:Str):Prop:=sc.names.lookup x=some .local\/sc.names.lookup x=some .cell\/sc.names.lookup x=some .free
def Loc(sc:Scope)(x:Str):Prop:=sc.names.lookup x=some .local\/sc.names.lookup x=some .cell
def Look(env:Env)(h:Heap)(m:Str->Option Value)(x:Str)(u:Value):Prop:=
 (env.kindOf x=some .local/\m x=some u)\/((env.kindOf x=some .cell\/env.kindOf x=some .free)/\∃c,env.cells.lookup x=some c/\h.IsCell c (some u))
structure Cx.Ok(X:Cx):Prop where
 mod:Mod X.K X.mg X.base
 kind:X.env.scope.kind= .function
 glob:X.env.globals=mainGlobals
 blt:X.env.builtins=builtinsNs
 above:X.s₀.heap.objs.size<=X.env.locals
 inj:∀x y c,X.env.cells.lookup x=some c->X.env.cells.lookup y=some c->x=y
 has:∀x,(X.env.kindOf x=some .cell\/X.env.kindOf x=some .free)->∃c,X.env.cells.lookup x=some c
 cab:∀x c,X.fn x=true->X.env.cells.lookup x=some c->X.s₀.heap.objs.size<=c
 hd:X.calm=true->X.A.handled=none
 frames:X.A.frames=some X.stack
 stk:X.stack=X.outer\/(X.stack=X.env::X.outer/\X.env.frame=some X.env.locals)
 exf:∀b∈X.ex,b≠X.env.locals/\∀x c,X.env.cells.lookup x=some c->c≠b
 bs:∀b o,X.base.get? b=some o->X.s₀.heap.get? b=some o/\X.H₀ b=none
 bsz:X.base.objs.size<=X.s₀.heap.objs.size
 noex:∀b o,X.base.get? b=some o->b∉X.ex
 exfs:∀b∈X.ex,b∉X.fs
 funs:X.s₀.heap.FunFrames X.base X.outer
 frf:∀b∈X.fs,X.H₀ b=none
def aHW(q:Str)(oc:Obj):Prop:=∃vs t,oc.data= .fields vs/\vs[1]? =some (.str q t)
def TabOk(q:Str)(H:Hp)(ps:Array Value):Prop:=TriplesOk ps.toList/\∀pos cv,codeAmong pos ps.toList=some cv->∃c' oc,cv= .ref c'/\H c'=some (.frz oc (.own c'))/\aHW q oc
theorem TabOk.mono(t:TabOk q H ps)(f:∀b o u,H b=some (.frz o u)->H' b=some (.frz o u)):TabOk q H' ps:=⟨t.1,λ pos cv hc=>let⟨c',oc,z,a,b⟩:=t.2 pos cv hc;⟨c',oc,z,f _ _ _ a,b⟩⟩
structure Inv(X:Cx)(pins:List (Addr×Obj))(σ:List (Option V))(H:Hp)(s:Shared):Prop where
 ok:X.Ok
 os:s.os=X.s₀.os
 bare:AllBare s.gens
 base:Un X.fs X.ex X.H₀ H X.s₀.heap s.heap
 loc:∃m,s.heap.Ns X.env.locals m/\∀(i:Nat) (x:Str) (v:V),X.N[i]? =some x->σ[i]? =some (some v)->Vis X.env.scope x->∃u,RelV v u/\Look X.env s.heap m x u
 cell:∀x c,X.env.cells.lookup x=some c->∃v,s.heap.IsCell c v
 free:H X.env.locals=none
 freeC:∀x c,X.env.cells.lookup x=some c->H c=none
 pin:∀p∈X.pn++pins,s.heap.get? p.1=some p.2/\H p.1=none/\p.1≠X.env.locals/\p.1∉X.fs/\∀v,p.2.data≠.cell v
 hok:HOk X.prog X.w H s.heap
 len:σ.length=X.N.length
 tab:∀p∈X.ta,H p.1=none/\p.1≠X.env.locals/\p.1∉X.fs/\(∀q∈X.pn++pins,q.1≠p.1)/\∃ps,s.heap.get? p.1=some {cls:=.none,data:=.fields ps}/\TabOk X.tq H ps
section
variable{X:Cx}{pins:List (Addr×Obj)}{σ:List (Option V)}{H H':Hp}{s:Shared}{h':Heap}
theorem Cx.Ok.nofr(ok:X.Ok){b:Addr}{o:Obj}(e:X.base.get? b=some o):b∉X.fs:=λ hb=>by
 have:=(ok.funs.mem hb).1
 rw[e]at this;cases this
theorem Inv.bs(I:Inv X pins σ H s):∀b o,X.base.get? b=some o->s.heap.get? b=some o/\H b=none:=λ b o e=>
 ⟨I.base.keep b o (I.ok.bs b o e).1 (I.ok.bs b o e).2 (I.ok.nofr e) (I.ok.noex b o e),I.base.free b o (I.ok.bs b o e).1 (I.ok.bs b o e).2 (I.ok.noex b o e)⟩
theorem Inv.bk(I:Inv X pins σ H s):∀b o,X.base.get? b=some o->s.heap.get? b=some o:=λ b o e=>(I.bs b o e).1
theorem Inv.mod(I:Inv X pins σ H s):Mod X.K X.mg X.base:=I.ok.mod
theorem Inv.kIn(I:Inv X pins σ H s):X.K.In s.heap:=I.ok.mod.kin.keeps I.bk
theorem Inv.fr(I:Inv X pins σ H s):∃m,Fr X.base X.env.locals s.heap m:=
 let⟨m,hn,_⟩:=I.loc
 ⟨m,hn,I.bk,Nat.le_trans I.ok.bsz I.ok.above⟩
theorem Inv.lt(I:Inv X pins σ H s):X.env.locals<s.heap.objs.size:=let⟨_,hn,_⟩:=I.loc;hn.lt
theorem Inv.sz(I:Inv X pins σ H s):X.s₀.heap.objs.size<=s.heap.objs.size:=Nat.le_trans I.ok.above (Nat.le_of_lt I.lt)
theorem Inv.nofs(I:Inv X pins σ H s){a:Addr}(h:s.heap.objs.size<=a):a∉X.fs:=λ hb=>by
 obtain⟨_,o,ho,_⟩:=I.ok.funs.mem hb;exact absurd (Nat.lt_of_lt_of_le (Heap.lt_size ho) (Nat.le_trans I.sz h)) (Nat.lt_irrefl _)
theorem Inv.cne(I:Inv X pins σ H s):∀x c,X.env.cells.lookup x=some c->c≠X.env.locals:=λ x c e z=>by
 obtain⟨v,o,ho,hd⟩:=I.cell x c e;obtain⟨m,⟨o',es,ep,ho',hd',_⟩,_⟩:=I.loc;rw[z,ho']at ho;cases ho;rw[hd']at hd;cases hd
theorem Inv.funs(I:Inv X pins σ H s):s.heap.FunFrames X.base X.outer:=by
 have all:∀(l:List Env),(∀b∈frs l,b∈X.fs)->X.s₀.heap.FunFrames X.base l->s.heap.FunFrames X.base l:=by
  intro l;induction l with
  |nil=>intro _ _;trivial
  |cons env r ih=>
   intro hs hl;obtain⟨hk,⟨L,o,hf,hn,ho,hd⟩,hr⟩:=hl;have hL:L∈X.fs:=hs L (by unfold frs;rw[List.filterMap_cons,hf];exact List.mem_cons_self);obtain⟨sl,e⟩:=I.base.slot L o ho (I.ok.frf L hL) hL λ z=>I.ok.exfs L z hL
   exact⟨hk,⟨L,_,hf,hn,e,hd⟩,ih (λ b hb=>hs b (by unfold frs;rw[List.filterMap_cons,hf];exact List.mem_cons_of_mem _ hb)) hr⟩
 exact all X.outer (λ _ hb=>hb) I.ok.funs
theorem Inv.stack(I:Inv X pins σ H s):s.heap.FunFrames X.base X.stack:=by
 rcases I.ok.stk with e|⟨e,hf⟩
 ·rw[e];exact I.funs
 ·rw[e]
  obtain⟨m,hn,_⟩:=I.loc;refine .cons (by rw[I.ok.kind];decide) hf hn ?_ I.funs;exact Heap.get?_none_of_le (Nat.le_trans I.ok.bsz I.ok.above)
theorem Inv.stkSub(I:Inv X pins σ H s):∀b∈frs X.stack,b∈X.env.locals::X.fs:=λ b hb=>by
 rcases I.ok.stk with e|⟨e,hf⟩
 ·rw[e]at hb;exact List.mem_cons_of_mem _ hb
 ·rw[e]at hb
  unfold frs at hb;rw[List.filterMap_cons,hf]at hb;exact hb
theorem Inv.stkFree(I:Inv X pins σ H s):∀b∈frs X.stack,H b=none:=λ b hb=>by
 rcases List.mem_cons.mp (I.stkSub b hb)with e|hb
 ·rw[e];exact I.free
 ·obtain⟨_,o,ho,_⟩:=I.ok.funs.mem hb
  exact I.base.free b o ho (I.ok.frf b hb) λ z=>I.ok.exfs b z hb
theorem Inv.step{g':Array GenState}{t':Nat}{d':Drawn}{ch:List Addr}(I:Inv X pins σ H s)
  (hch:∀b∈ch,(b∈X.ex\/X.s₀.heap.objs.size<=b)/\b≠X.env.locals/\(∀x c,X.env.cells.lookup x=some c->c≠b)/\∀p∈X.ta++(X.pn++pins),p.1≠b)
  (keep:∀b o,b≠X.env.locals->b∉X.fs->b∉ch->s.heap.get? b=some o->H b=none->h'.get? b=some o)
  (slot:∀b o,b≠X.env.locals->b∈X.fs->b∉ch->s.heap.get? b=some o->H b=none->∃sl,h'.get? b=some {o with slots:=sl})(free:∀b o,b∉ch->s.heap.get? b=some o->H b=none->H' b=none)
  (there:∀b o,b∉ch->s.heap.get? b=some o->∃o',h'.get? b=some o')
  (tups:∀b xs,H b=some (.tup xs)->H' b=some (.tup xs))(frzs:∀b o u,H b=some (.frz o u)->H' b=some (.frz o u))(tbls:∀b ps,H b=some (.tbl ps)->∃more,H' b=some (.tbl (ps++more)))
  (ns:∀m,s.heap.Ns X.env.locals m->h'.Ns X.env.locals m)(hok:HOk X.prog X.w H' h')(hg:AllBare g'):
  Inv X pins σ H' {s with heap:=h',gens:=g',drawn:=d',toks:=t'}:=by
 have neL:∀b o,X.s₀.heap.get? b=some o->b≠X.env.locals:=λ b o e=>Nat.ne_of_lt (Nat.lt_of_lt_of_le (Heap.lt_size e) I.ok.above)
 have neC:∀b o,X.s₀.heap.get? b=some o->b∉X.ex->b∉ch:=λ b o e hx hb=>by
  rcases(hch b hb).1 with z|z
  ·exact hx z
  ·exact absurd (Nat.lt_of_lt_of_le (Heap.lt_size e) z) (Nat.lt_irrefl _)
 have cellK:∀x c,X.env.cells.lookup x=some c->∀v,s.heap.IsCell c v->h'.IsCell c v:=λ x c e v ⟨o,ho,hd⟩=>by
  have nch:c∉ch:=λ z=>(hch c z).2.2.1 x c e rfl
  by_cases hc:c∈X.fs
  ·obtain⟨sl,q⟩:=slot c o (I.cne x c e) hc nch ho (I.freeC x c e)
   exact⟨_,q,hd⟩
  ·exact⟨o,keep c o (I.cne x c e) hc nch ho (I.freeC x c e),hd⟩
 refine⟨I.ok,I.os,hg,⟨λ b o e n hb hx=>?_,λ b o e n hb hx=>?_,λ b o e n hx=>?_,λ b o e hx=>?_,λ b xs e=>tups b xs (I.base.tups b xs e),λ b o xs e=>frzs b o xs (I.base.frzs b o xs e),λ b ps e=>?_⟩,?_,λ x c e=>?_,?_,λ x c e=>?_,λ p hp=>?_,hok,I.len,λ p hp=>?_⟩
 ·exact keep b o (neL b o e) hb (neC b o e hx) (I.base.keep b o e n hb hx) (I.base.free b o e n hx)
 ·obtain⟨sl,e1⟩:=I.base.slot b o e n hb hx
  obtain⟨sl',e2⟩:=slot b _ (neL b o e) hb (neC b o e hx) e1 (I.base.free b o e n hx);exact⟨sl',e2⟩
 ·obtain⟨o',e1⟩:=I.base.there b o e hx
  exact free b o' (neC b o e hx) e1 (I.base.free b o e n hx)
 ·obtain⟨o',e1⟩:=I.base.there b o e hx
  exact there b o' (neC b o e hx) e1
 ·obtain⟨m1,e1⟩:=I.base.tbls b ps e
  obtain⟨m2,e2⟩:=tbls b _ e1;exact⟨m1++m2,by rw[e2,Array.append_assoc]⟩
 ·obtain⟨m,hn,hl⟩:=I.loc
  refine⟨m,ns m hn,λ i x v e1 e2 e3=>?_⟩;obtain⟨u,r,l⟩:=hl i x v e1 e2 e3;refine⟨u,r,?_⟩;rcases l with l|⟨k,c,e,z⟩
  ·exact .inl l
  ·exact .inr ⟨k,c,e,cellK x c e _ z⟩
 ·obtain⟨v,z⟩:=I.cell x c e
  exact⟨v,cellK x c e v z⟩
 ·obtain⟨m,⟨o,_,_,ho,_⟩,_⟩:=I.loc
  exact free _ o (λ z=>(hch _ z).2.1 rfl) ho I.free
 ·obtain⟨v,o,ho,hd⟩:=I.cell x c e
  exact free c o (λ z=>(hch c z).2.2.1 x c e rfl) ho (I.freeC x c e)
 ·obtain⟨e,n,ne,nf,d⟩:=I.pin p hp
  have nch:p.1∉ch:=λ z=>(hch p.1 z).2.2.2 p (List.mem_append_right _ hp) rfl
  exact⟨keep p.1 p.2 ne nf nch e n,free p.1 p.2 nch e n,ne,nf,d⟩
 ·obtain⟨n,ne,nf,np,ps,e,t⟩:=I.tab p hp
  have nch:p.1∉ch:=λ z=>(hch p.1 z).2.2.2 p (List.mem_append_left _ hp) rfl
  exact⟨free p.1 _ nch e n,ne,nf,np,ps,keep p.1 _ ne nf nch e n,t.mono frzs⟩
theorem Inv.pinL(I:Inv X pins σ H s)(hp:p∈X.ta++(X.pn++pins)):p.1<s.heap.objs.size:=by
 rcases List.mem_append.mp hp with z|z
 ·obtain⟨_,_,_,_,_,e,_⟩:=I.tab p z
  exact Heap.lt_size e
 ·exact Heap.lt_size (I.pin p z).1
theorem Inv.un{t':Nat}(I:Inv X pins σ H s)(u:Un X.fs [] H H' s.heap h')(hok:HOk X.prog X.w H' h'):Inv X pins σ H' {s with heap:=h',toks:=t'}:=by
 obtain⟨m,⟨o,es,ep,ho,r⟩,_⟩:=id I.loc;obtain⟨sl,hL⟩:=u.any ho I.free (by simp);exact I.step (g':=s.gens) (d':=s.drawn) (ch:=[]) (λ _ z=>nomatch z) (λ b o _ hb _ e n=>u.keep b o e n hb (by simp)) (λ b o _ hb _ e n=>u.slot b o e n hb (by simp)) (λ b o _ e n=>u.free b o e n (by simp)) (λ b o _ e=>u.there b o e (by simp)) u.tups u.frzs u.tbls (λ m' hm=>by
  obtain⟨o',es',ep',ho',r'⟩:=hm;rw[ho]at ho';cases ho';exact⟨_,es',ep',hL,r'⟩) hok I.bare
theorem Inv.call{g':Array GenState}{t':Nat}{d':Drawn}{ch:List Addr}(I:Inv X pins σ H s)(u:Un (frs X.stack) ch H H' s.heap h')(hok:HOk X.prog X.w H' h')(hg:AllBare g')
  (hch:∀b∈ch,(b∈X.ex\/X.s₀.heap.objs.size<=b)/\b≠X.env.locals/\(∀x c,X.env.cells.lookup x=some c->c≠b)/\∀p∈X.ta++(X.pn++pins),p.1≠b):
  Inv X pins σ H' {s with heap:=h',gens:=g',drawn:=d',toks:=t'}:=by
 obtain⟨m,⟨o,es,ep,ho,r⟩,_⟩:=id I.loc;obtain⟨sl,hL⟩:=u.any ho I.free λ z=>(hch _ z).2.1 rfl
 exact I.step (ch:=ch) hch (λ b o hL hb hc e n=>u.keep b o e n (λ z=>(List.mem_cons.mp (I.stkSub b z)).elim hL hb) hc) (λ b o _ _ hc e n=>u.any e n hc) (λ b o hc e n=>u.free b o e n hc) (λ b o hc e=>u.there b o e hc) u.tups u.frzs u.tbls (λ m' hm=>by
  obtain⟨o',es',ep',ho',r'⟩:=hm;rw[ho]at ho';cases ho';exact⟨_,es',ep',hL,r'⟩) hok hg
theorem Inv.turned{t':Nat}{it:Addr}(I:Inv X pins σ H s)(k:∀b o,b≠it->s.heap.get? b=some o->h'.get? b=some o)(hn:H it=none)(hL:it≠X.env.locals)
  (h1:it∈X.ex\/X.s₀.heap.objs.size<=it)(h2:∀x c,X.env.cells.lookup x=some c->c≠it)(h3:∀p∈X.ta++(X.pn++pins),p.1≠it):Inv X pins σ H {s with heap:=h',toks:=t'}:=by
 have nit:∀b u,H b=some u->b≠it:=λ b u e z=>by rw[z,hn]at e;cases e
 refine I.step (g':=s.gens) (d':=s.drawn) (ch:=[it]) (λ b hb=>?_) (λ b o _ _ hc e _=>k b o (λ z=>hc (by simp[z])) e) (λ b o _ _ hc e _=>⟨o.slots,k b o (λ z=>hc (by simp[z])) e⟩) (λ _ _ _ _ n=>n)
  (λ b o hc e=>⟨o,k b o (λ z=>hc (by simp[z])) e⟩) (λ _ _ e=>e) (λ _ _ _ e=>e) (λ b ps e=>⟨#[],by rw[e];simp⟩) (λ m hm=>?_) (λ b u e=>?_) I.bare
 ·have e:b=it:=by simpa using hb
  subst e;exact⟨h1,hL,h2,h3⟩
 ·obtain⟨o,es,ep,ho,r⟩:=hm
  exact⟨o,es,ep,k _ o (Ne.symm hL) ho,r⟩
 ·refine(I.hok b u e).stay (λ c v hc q=>k c v ?_ q) (λ _ q=>q) λ _ _ q=>q
  rcases hc with z|z
  ·rw[z];exact nit b u e
  ·exact nit c _ z
theorem Inv.tok(I:Inv X pins σ H s)(t:Nat):Inv X pins σ H {s with toks:=t}:=I.un (h':=s.heap) (t':=t) Un.refl I.hok
theorem Inv.kept{t':Nat}(I:Inv X pins σ H s)(k:∀b u,s.heap.get? b=some u->h'.get? b=some u):Inv X pins σ H {s with heap:=h',toks:=t'}:=I.un (Un.kept k) (I.hok.kept k)
theorem Inv.laid{a:Addr}{o:HO}{t':Nat}(I:Inv X pins σ H s)(k:∀b u,s.heap.get? b=some u->h'.get? b=some u)(hp:s.heap.objs.size<=a)(new:cX X.prog X.w (upd H a o) h' a o):
  Inv X pins σ (upd H a o) {s with heap:=h',toks:=t'}:=I.un (Un.laid k hp (I.hok.fresh hp)) (I.hok.laid k hp new)
theorem Inv.write{x e:Addr}{o:HO}{t':Nat}(I:Inv X pins σ H s)(mu:Mut (H x))(he:e=x\/H e=some (.own x))(k:∀b u,b≠e->s.heap.get? b=some u->h'.get? b=some u)(heo:∃u,h'.get? e=some u)
  (new:cX X.prog X.w (upd H x o) h' x o):Inv X pins σ (upd H x o) {s with heap:=h',toks:=t'}:=I.un (Un.write mu he k heo) (I.hok.write mu he k heo new)
theorem Inv.weak{σ':List (Option V)}(I:Inv X pins σ H s)(hl:σ'.length=σ.length)(w:∀(i:Nat) v,σ'[i]? =some (some v)->σ[i]? =some (some v)):Inv X pins σ' H s:=
 ⟨I.ok,I.os,I.bare,I.base,let⟨m,hn,hl'⟩:=I.loc;⟨m,hn,λ i x v e1 e2 e3=>hl' i x v e1 (w i v e2) e3⟩,I.cell,I.free,I.freeC,I.pin,I.hok,hl.trans I.len,I.tab⟩
theorem Inv.pins_of{pins':List (Addr×Obj)}(I:Inv X pins σ H s)(h:∀p∈pins',s.heap.get? p.1=some p.2/\H p.1=none/\p.1≠X.env.locals/\p.1∉X.fs/\∀v,p.2.data≠.cell v)(h2:∀q∈pins',∀p∈X.ta,q.1≠p.1):Inv X pins' σ H s:=
 ⟨I.ok,I.os,I.bare,I.base,I.loc,I.cell,I.free,I.freeC,λ p hp=>(List.mem_append.mp hp).elim (λ z=>I.pin p (List.mem_append_left _ z)) (h p),I.hok,I.len,λ p hp=>let⟨a,b,c,d,e⟩:=I.tab p hp;⟨a,b,c,λ q hq=>(List.mem_append.mp hq).elim (λ z=>d q (List.mem_append_left _ z)) (λ z=>h2 q z p hp),e⟩⟩
theorem tH{N:List Str}(hN:N.Nodup){i j:Nat}{x:Str}(a:N[i]? =some x)(b:N[j]? =some x):i=j:=by
 obtain⟨h1,e1⟩:=List.getElem?_eq_some_iff.mp a;obtain⟨h2,e2⟩:=List.getElem?_eq_some_iff.mp b;exact(List.getElem_inj hN).mp (e1.trans e2.symm)
theorem vC{M:Model}{A:Around}{E:Value->Shared->Prop}{i:Nat}{x:Str}{v:V}{u:Value}{Q:Unit->Shared->Prop}(I:Inv X pins σ H s)(hN:X.N.Nodup)(hi:X.N[i]? =some x)(hx:Loc X.env.scope x)(r:RelV v u)
  (h:∀s',Inv X pins (σ.set i (some v)) H s'->(∃a,Heap.SameBut a s.heap s'.heap/\(a=X.env.locals\/X.env.cells.lookup x=some a))->Q () s')(hf:X.fn x=true\/X.env.scope.names.lookup x=some .local:=by first|exact .inl rfl|exact .inr rfl|assumption):wpAny M A (storeName X.env x u) Q E s:=by
 obtain⟨m,hn,hl⟩:=id I.loc;have hcls:(X.env.scope.kind== .class||(X.env.scope.kind== .module&&X.env.locals !=X.env.globals))=false:=by rw[I.ok.kind];rfl
 have hiσ:i<σ.length:=by rw[I.len];exact(List.getElem?_eq_some_iff.mp hi).1
 have cne:=I.cne;have tracked:∀{a:Addr} {h':Heap},(∃o,s.heap.get? a=some o/\H a=none)->Heap.SameBut a s.heap h'->HOk X.prog X.w H h':=λ{a h'} ha hs b ob e=>by
  obtain⟨_,_,hfree⟩:=ha;refine(I.hok b ob e).stay (λ c w' hc q=>(hs.2 c ?_).trans q) (λ _ q=>q) λ _ _ q=>q
  rintro rfl;rcases hc with rfl|hc
  ·rw[hfree]at e;cases e
  ·rw[hfree]at hc;cases hc
 rcases hx with hk|hk
 ·refine wpAny_storeName_local hk hn (λ h' hn' hs=>?_) hcls
  obtain⟨oL,_,_,hoL,_⟩:=id hn;refine h _ ⟨I.ok,I.os,I.bare,⟨λ b o e n hb hx=>?_,λ b o e n hb hx=>?_,I.base.free,λ b o e hx=>?_,I.base.tups,I.base.frzs,I.base.tbls⟩,⟨_,hn',λ j y v' e1 e2 e3=>?_⟩,λ y c e=>?_,I.free,I.freeC,λ p hp=>?_,tracked ⟨oL,hoL,I.free⟩ hs,by simpa using I.len,λ p hp=>?_⟩ ⟨_,hs,.inl rfl⟩
  ·exact(hs.2 b (Nat.ne_of_lt (Nat.lt_of_lt_of_le (Heap.lt_size e) I.ok.above))).trans (I.base.keep b o e n hb hx)
  ·obtain⟨sl,e1⟩:=I.base.slot b o e n hb hx
   exact⟨sl,(hs.2 b (Nat.ne_of_lt (Nat.lt_of_lt_of_le (Heap.lt_size e) I.ok.above))).trans e1⟩
  ·obtain⟨o',e1⟩:=I.base.there b o e hx
   exact⟨o',(hs.2 b (Nat.ne_of_lt (Nat.lt_of_lt_of_le (Heap.lt_size e) I.ok.above))).trans e1⟩
  ·by_cases hj:j=i
   ·subst hj
    rw[hi]at e1;cases e1;rw[List.getElem?_set_self hiσ]at e2;cases e2;exact⟨u,r,.inl ⟨hk,by simp⟩⟩
   ·rw[List.getElem?_set_ne (Ne.symm hj)]at e2
    obtain⟨u',r',q⟩:=hl j y v' e1 e2 e3;refine⟨u',r',?_⟩;rcases q with ⟨k,e⟩|⟨k,c,e,z⟩
    ·refine .inl ⟨k,?_⟩
     have:y≠x:=λ e=>hj (tH hN e1 (e▸hi))
     simp[this,e]
    ·exact .inr ⟨k,c,e,z.sameBut hs (cne y c e)⟩
  ·obtain⟨w',z⟩:=I.cell y c e
   exact⟨w',z.sameBut hs (cne y c e)⟩
  ·obtain⟨e,n,ne,nf,d⟩:=I.pin p hp
   exact⟨(hs.2 p.1 ne).trans e,n,ne,nf,d⟩
  ·obtain⟨n,ne,nf,np,ps,e,t⟩:=I.tab p hp
   exact⟨n,ne,nf,np,ps,(hs.2 p.1 ne).trans e,t⟩
 ·have hfn:X.fn x=true:=by
   rcases hf with z|z
   ·exact z
   ·rw[z]at hk;cases hk
  obtain⟨c,hc⟩:=I.ok.has x (.inl hk);obtain⟨w',z⟩:=I.cell x c hc;refine wpAny_storeName_cell I.ok.kind hk hc z (λ h' hc' hs=>?_);obtain⟨oc,hoc,hocd⟩:=id z;refine h {s with heap:=h'} ⟨I.ok,I.os,I.bare,⟨λ b o e n hb hx=>?_,λ b o e n hb hx=>?_,I.base.free,λ b o e hx=>?_,I.base.tups,I.base.frzs,I.base.tbls⟩,⟨m,hn.sameBut hs (Ne.symm (cne x c hc)),λ j y v' e1 e2 e3=>?_⟩,λ y c' e=>?_,I.free,I.freeC,λ p hp=>?_,tracked ⟨oc,hoc,I.freeC x c hc⟩ hs,by simpa using I.len,λ p hp=>?_⟩ ⟨c,hs,.inr hc⟩
  ·exact(hs.2 b (Nat.ne_of_lt (Nat.lt_of_lt_of_le (Heap.lt_size e) (I.ok.cab x c hfn hc)))).trans (I.base.keep b o e n hb hx)
  ·obtain⟨sl,e1⟩:=I.base.slot b o e n hb hx
   exact⟨sl,(hs.2 b (Nat.ne_of_lt (Nat.lt_of_lt_of_le (Heap.lt_size e) (I.ok.cab x c hfn hc)))).trans e1⟩
  ·obtain⟨o',e1⟩:=I.base.there b o e hx
   exact⟨o',(hs.2 b (Nat.ne_of_lt (Nat.lt_of_lt_of_le (Heap.lt_size e) (I.ok.cab x c hfn hc)))).trans e1⟩
  ·by_cases hj:j=i
   ·subst hj
    rw[hi]at e1;cases e1;rw[List.getElem?_set_self hiσ]at e2;cases e2;exact⟨u,r,.inr ⟨.inl hk,c,hc,hc'⟩⟩
   ·rw[List.getElem?_set_ne (Ne.symm hj)]at e2
    obtain⟨u',r',q⟩:=hl j y v' e1 e2 e3;refine⟨u',r',?_⟩;rcases q with q|⟨k,c',e,z'⟩
    ·exact .inl q
    ·refine .inr ⟨k,c',e,z'.sameBut hs ?_⟩
     rintro rfl;exact hj (tH hN e1 (I.ok.inj _ _ _ e hc▸hi))
  ·by_cases hcc:c'=c
   ·subst hcc;exact⟨_,hc'⟩
   ·obtain⟨w2,z2⟩:=I.cell y c' e
    exact⟨w2,z2.sameBut hs hcc⟩
  ·obtain⟨e,n,ne,nf,d⟩:=I.pin p hp
   refine⟨(hs.2 p.1 ?_).trans e,n,ne,nf,d⟩;intro q;rw[q,hoc]at e;have q':oc=p.2:=Option.some.inj e;exact d w' (by rw[<-q'];exact hocd)
  ·obtain⟨n,ne,nf,np,ps,e,t⟩:=I.tab p hp
   refine⟨n,ne,nf,np,ps,(hs.2 p.1 ?_).trans e,t⟩;intro q;rw[q,hoc]at e;rw[Option.some.inj e]at hocd;cases hocd
theorem n8{M:Model}{A:Around}{E:Value->Shared->Prop}{i:Nat}{x:Str}{v:V}{u:Value}{Q:Unit->Shared->Prop}(I:Inv X pins σ H s)(hN:X.N.Nodup)(hi:X.N[i]? =some x)(hx:Loc X.env.scope x)(r:RelV v u)
  (h:∀s',Inv X pins (σ.set i (some v)) H s'->Q () s')(hf:X.fn x=true\/X.env.scope.names.lookup x=some .local:=by first|exact .inl rfl|exact .inr rfl|assumption):wpAny M A (storeName X.env x u) Q E s:=
 vC I hN hi hx r (λ s' I' _=>h s' I') hf
theorem Inv.call'{s':Shared}{ch:List Addr}(I:Inv X pins σ H s)(ho:s'.os=s.os)(u:Un (frs X.stack) ch H H' s.heap s'.heap)(hok:HOk X.prog X.w H' s'.heap)(hg:AllBare s'.gens)
  (hch:∀b∈ch,(b∈X.ex\/X.s₀.heap.objs.size<=b)/\b≠X.env.locals/\(∀x c,X.env.cells.lookup x=some c->c≠b)/\∀p∈X.ta++(X.pn++pins),p.1≠b):Inv X pins σ H' s':=by
 obtain⟨h',g',d',t',o'⟩:=s';have e:o'=s.os:=ho;subst e;exact I.call (g':=g') (t':=t') (d':=d') u hok hg hch
end
abbrev XK:=Value->Option Addr->Hp->Prop
abbrev St:=List (Option V)
abbrev VK:=V->Hp->Prop
abbrev TE:=St->Hp->VK->Prop
abbrev TT:=St->Hp->(Bool->Hp->Prop)->Prop
abbrev TA:=St->Hp->(List V->Hp->Prop)->Prop
structure Ends where
 nx:St->Hp->Prop
 rt:VK
 bk:St->Hp->Prop:=λ _ _=>False
 ct:St->Hp->Prop:=λ _ _=>False
abbrev TS:=Ends->St->Hp->Prop
def EP(X:Cx)(pins:List (Addr×Obj))(σ:St)(Q:VK)(u:Value)(s':Shared):Prop:=∃v H',Inv X pins σ H' s'/\RelV v u/\Q v H'
def TP(X:Cx)(pins:List (Addr×Obj))(σ:St)(Q:Bool->Hp->Prop)(b:Bool)(s':Shared):Prop:=∃H',Inv X pins σ H' s'/\Q b H'
def AP(X:Cx)(pins:List (Addr×Obj))(σ:St)(Q:List V->Hp->Prop)(us:List Value)(s':Shared):Prop:=∃vs H',Inv X pins σ H' s'/\Vals vs us/\Q vs H'
def SP(X:Cx)(pins:List (Addr×Obj))(D:Ends)(f:Flow)(s':Shared):Prop:=
 match f with
 | .next=>∃σ' H',Inv X pins σ' H' s'/\D.nx σ' H'
 | .brk=>∃σ' H',Inv X pins σ' H' s'/\D.bk σ' H'
 | .cont=>∃σ' H',Inv X pins σ' H' s'/\D.ct σ' H'
 | .ret u=>∃v σ' H',Inv X pins σ' H' s'/\RelV v u/\D.rt v H'
def PE(X:Cx)(e:Expr)(t:TE):Prop:=
 ∀(pins:List (Addr×Obj)) (s:Shared) (σ:St) (H:Hp) (Q:VK),Inv X pins σ H s->t σ H Q->wpAny (model X.prog X.w) X.A (eval e X.env) (EP X pins σ Q) X.xe s
def PT(X:Cx)(e:Expr)(t:TT):Prop:=
 ∀(pins:List (Addr×Obj)) (s:Shared) (σ:St) (H:Hp) (Q:Bool->Hp->Prop),Inv X pins σ H s->t σ H Q->wpAny (model X.prog X.w) X.A (isTrue e X.env (eval e X.env)) (TP X pins σ Q) X.xe s
def PW(X:Cx)(e:Expr)(t:TT):Prop:=
 ∀(whole:Sem Value) (pins:List (Addr×Obj)) (s:Shared) (σ:St) (H:Hp) (Q:Bool->Hp->Prop),Inv X pins σ H s->t σ H Q->wpAny (model X.prog X.w) X.A (isTrue e X.env whole) (TP X pins σ Q) X.xe s
theorem PW.pt{X:Cx}{e:Expr}{t:TT}(h:PW X e t):PT X e t:=h _
def PA(X:Cx)(es:List Expr)(t:TA):Prop:=
 ∀(pos:Pos) (pins:List (Addr×Obj)) (s:Shared) (σ:St) (H:Hp) (Q:List V->Hp->Prop),Inv X pins σ H s->t σ H Q->wpAny (model X.prog X.w) X.A (spliced (backTo pos (starEach es X.env))) (AP X pins σ Q) X.xe s
def PS(X:Cx)(st:Stmt)(t:TS):Prop:=
 ∀(pins:List (Addr×Obj)) (s:Shared) (σ:St) (H:Hp) (D:Ends),Inv X pins σ H s->t D σ H->wpAny (model X.prog X.w) X.A (exec st X.env) (SP X pins D) X.xe s
def PSs(X:Cx)(st:List Stmt)(t:TS):Prop:=
 ∀(pins:List (Addr×Obj)) (s:Shared) (σ:St) (H:Hp) (D:Ends),Inv X pins σ H s->t D σ H->wpAny (model X.prog X.w) X.A (execs st X.env) (SP X pins D) X.xe s
theorem thn{α:Type}{t:Sem α}{Q Q':α->Shared->Prop}{M:Model}{A:Around}{E:Value->Shared->Prop}{s:Shared}(h:wpAny M A t Q E s)(hQ:∀a s,Q a s->Q' a s):wpAny M A t Q' E s:=wpAny_mono h hQ λ _ _ x=>x
section
variable{X:Cx}
theorem bin{a b:Expr}{ta tb:TE}(ha:PE X a ta)(hb:PE X b tb){pins:List (Addr×Obj)}{s:Shared}{σ:St}{H:Hp}{R:V->V->Hp->Prop}(I:Inv X pins σ H s)(h:ta σ H λ x H1=>tb σ H1 λ y H2=>R x y H2)
  {α:Type}{Q:α->Shared->Prop}{f:Value->Value->Sem α}
  (hf:∀v u s2 x y H2,Inv X pins σ H2 s2->RelV x v->RelV y u->R x y H2->wpAny (model X.prog X.w) X.A (f v u) Q X.xe s2):
  wpAny (model X.prog X.w) X.A (eval a X.env) (λ v s₁=>wpAny (model X.prog X.w) X.A (eval b X.env) (λ u s₂=>wpAny (model X.prog X.w) X.A (f v u) Q X.xe s₂) X.xe s₁) X.xe s:=by
 refine thn (ha pins s σ H _ I h) λ v s1 ⟨x,H1,I1,r1,q1⟩=>?_
 refine thn (hb pins s1 σ H1 _ I1 q1) λ u s2 ⟨y,H2,I2,r2,q2⟩=>?_
 exact hf v u s2 x y H2 I2 r1 r2 q2
def km(i:Nat):TE:=λ σ H Q=>∃v,σ[i]? =some (some v)/\Q v H
def tC(v:V):TE:=λ _ H Q=>Q v H
theorem fD{i:Nat}{x:Str}{pos:Pos}(hN:X.N[i]? =some x)(hv:Vis X.env.scope x)(hd:(x==("__debug__":Str))=false:=by decide)(hcd:(x==("__classdict__":Str))=false:=by decide):PE X (.Name x pos) (km i):=by
 intro pins s σ H Q I h;obtain⟨v,e,h⟩:=h;obtain⟨m,hn,hl⟩:=I.loc;obtain⟨u,r,l⟩:=hl i x v hN e hv;have fin:EP X pins σ Q u s:=⟨v,H,I,r,h⟩;rcases l with ⟨hk,hm⟩|⟨hk,c,hc,hcell⟩
 ·exact wpAny_Name (wpAny_loadName_local I.ok.kind hk hn hm fin) hd
 ·rcases hk with hk|hk
  ·exact wpAny_Name (wpAny_loadName_cell I.ok.kind hk hc hcell fin) hd
  ·exact wpAny_Name (wpAny_loadName_free I.ok.kind hk hc hcell fin hcd) hd
theorem aA0{i j pos}:PE X (.Constant (.int i) j pos) (tC (.int i)):=λ _ _ _ H _ I h=>wpAny_Constant_int ⟨.int i,H,I.tok _,⟨_,rfl⟩,h⟩
theorem aDg{b j pos}:PE X (.Constant (.bool b) j pos) (tC (.bl b)):=λ _ _ _ H _ I h=>Constant_bool ⟨.bl b,H,I,rfl,h⟩
theorem dI{x j pos}:PE X (.Constant (.str x) j pos) (tC (.str x)):=λ _ _ _ H _ I h=>Calls.Constant_str ⟨.str x,H,I.tok _,⟨_,rfl⟩,h⟩
def Gl(X:Cx)(x:Str):Prop:=X.env.kindOf x=some .globalImplicit
theorem lz{E:Value->Shared->Prop}{pins:List (Addr×Obj)}{s:Shared}{σ:St}{H:Hp}{x:Str}{u:Value}{pos:Pos}{Q:Value->Shared->Prop}(I:Inv X pins σ H s)(hg:Gl X x)(hm:X.mg x=some u)(h:Q u s)
  (hd:(x==("__debug__":Str))=false:=by decide):wpAny (model X.prog X.w) X.A (eval (.Name x pos) X.env) Q E s:=
 Calls.Name_function_global I.ok.kind hg (Calls.loadGlobal_global (by rw[I.ok.glob];exact I.mod.glob.keeps I.bk) hm h) hd
theorem pQ{E:Value->Shared->Prop}{pins:List (Addr×Obj)}{s:Shared}{σ:St}{H:Hp}{x:Str}{u:Value}{pos:Pos}{Q:Value->Shared->Prop}(I:Inv X pins σ H s)(hg:Gl X x)(hm:X.mg x=none)(hv:bootBuiltins x=some u)(h:Q u s)
  (hn:x≠"__name__":=by decide)(hd:(x==("__debug__":Str))=false:=by decide):wpAny (model X.prog X.w) X.A (eval (.Name x pos) X.env) Q E s:=by
 obtain⟨mb,h1,h2⟩:=I.mod.blt;exact Calls.Name_function_global I.ok.kind hg (Calls.loadGlobal_builtin (by rw[I.ok.glob];exact I.mod.glob.keeps I.bk) hm (by rw[I.ok.blt];exact h1.keeps I.bk) ((h2 x hn).trans hv) h) hd
theorem cW{x:Str}{v:V}{u:Value}{pos:Pos}(hg:Gl X x)(hm:X.mg x=some u)(r:RelV v u)(hd:(x==("__debug__":Str))=false:=by decide):PE X (.Name x pos) (tC v):=
 λ _ _ _ H _ I h=>lz I hg hm ⟨v,H,I,r,h⟩ hd
theorem aB5{x:Str}{v:V}{u:Value}{pos:Pos}(hg:Gl X x)(hm:X.mg x=none)(hv:bootBuiltins x=some u)(r:RelV v u)(hn:x≠"__name__":=by decide)(hd:(x==("__debug__":Str))=false:=by decide):PE X (.Name x pos) (tC v):=
 λ _ _ _ H _ I h=>pQ I hg hm hv ⟨v,H,I,r,h⟩ hn hd
def t2I(ta tb:TE)(k:Int->Int->Hp->Prop):St->Hp->Prop:=λ σ H=>ta σ H λ x H1=>tb σ H1 λ y H2=>∃i j,x= .int i/\y= .int j/\k i j H2
variable{a b:Expr}{ta tb:TE}{pos:Pos}
def PC(X:Cx)(op:CmpOp)(a b:Expr)(t:TE):Prop:=
 ∀(pins:List (Addr×Obj)) (s:Shared) (σ:St) (H:Hp) (Q:VK),Inv X pins σ H s->t σ H Q->
  wpAny (model X.prog X.w) X.A (eval a X.env) (λ v s₁=>wpAny (model X.prog X.w) X.A (eval b X.env) (λ u s₂=>wpAny (model X.prog X.w) X.A (compareOp op v u) (EP X pins σ Q) X.xe s₂) X.xe s₁) X.xe s
theorem aDt(b:Expr){op:CmpOp}(h:op≠.In)(h2:op≠.NotIn):behindInMarks op b=false:=by
 have e1:(op==CmpOp.In)=false:=by cases op<;>first|rfl|exact absurd rfl h
 have e2:(op==CmpOp.NotIn)=false:=by cases op<;>first|rfl|exact absurd rfl h2
 cases b<;>simp[behindInMarks,e1,e2]
def aJP(p:Int->Int->Bool)(ta tb:TE):TE:=λ σ H Q=>t2I ta tb (λ i j H2=>Q (.bl (p i j)) H2) σ H
abbrev aKM:TE->TE->TE:=aJP λ i j=>!decide (i=j)
theorem aII{op:CmpOp}{p:Int->Int->Bool}(ha:PE X a ta)(hb:PE X b tb)
  (rule:∀(i j:Int) (t u:Tok) (Q:Value->Shared->Prop) (s:Shared),Q (.bool (p i j)) s->wpAny (model X.prog X.w) X.A (compareOp op (.int i t) (.int j u)) Q X.xe s):PC X op a b (aJP p ta tb):=by
 intro pins s σ H Q I h;refine bin ha hb I h λ v u s2 x y H2 I2 rx ry q=>?_
 obtain⟨i,j,rfl,rfl,q⟩:=q;obtain⟨t,rfl⟩:=rx;obtain⟨t',rfl⟩:=ry;exact rule i j t t' _ s2 ⟨.bl _,H2,I2,rfl,q⟩
theorem aIH(ha:PE X a ta)(hb:PE X b tb):PC X .NotEq a b (aKM ta tb):=aII ha hb λ _ _ _ _ _ _ h=>ne_int (by rw[bne,Bool.beq_eq_decide_eq];exact h)
def tB(t:TE):TT:=λ σ H Q=>t σ H λ x H1=>∃c,x= .bl c/\Q c H1
theorem aHr{op:CmpOp}{t:TE}(h:PC X op a b t)(h1:behindInMarks op b=false:=by first|exact aDt _ (by decide) (by decide)|rfl):PT X (.Compare a [op] [b] pos) (tB t):=by
 intro pins s σ H Q I hw;refine wpAny_isTrue_Compare1 (thn (h pins s σ H _ I hw) λ v s1 h1=>thn h1 λ u s2 h2=>thn h2 λ c s3 ⟨x,H1,I1,r1,q1⟩=>?_) h1;obtain⟨d,rfl,q⟩:=q1;cases r1;exact wpAny_truthy_bool ⟨H1,I1,q⟩
theorem aD1{e:Expr}{t:TE}(h:PE X e t)(he:∀whole,isTrue e X.env whole=(do let v <-whole;standAt e.pos;holding [v] (truthy v)):=by intro _;rfl):PT X e (tB t):=by
 intro pins s σ H Q I hw;refine isTrue_plain (thn (h pins s σ H _ I hw) λ v s1 ⟨x,H1,I1,r1,q1⟩=>?_) (he _);obtain⟨d,rfl,q⟩:=q1;cases r1;exact wpAny_truthy_bool ⟨H1,I1,q⟩
variable{tA tB':TT}{rest:List Expr}
def tOr(t u:TT):TT:=λ σ H Q=>t σ H λ c H1=>if c=true then Q true H1 else u σ H1 Q
def aKL(t:TT):TT:=λ σ H Q=>t σ H λ c H1=>Q (!c) H1
theorem aD0(ha:PT X a tA):PW X (.BoolOp .Or [a] pos) tA:=by
 intro wh pins s σ H Q I h;refine isTrue_or (thn (ha pins s σ H Q I h) λ c s1 e=>?_);cases c with
 |false=>exact isTrue_or_nil e
 |true=>exact e
theorem aHI(ha:PT X a tA)(hb:PW X (.BoolOp .Or (b::rest) pos) tB'):PW X (.BoolOp .Or (a::b::rest) pos) (tOr tA tB'):=by
 intro wh pins s σ H Q I h;refine isTrue_or (thn (ha pins s σ H _ I h) λ c s1 ⟨H1,I1,q1⟩=>?_);cases c with
 |true=>exact⟨H1,I1,q1⟩
 |false=>exact hb wh pins s1 σ H1 Q I1 q1
theorem aAX(ha:PT X a tA):PT X (.UnaryOp .Not a pos) (aKL tA):=by
 intro pins s σ H Q I h;exact isTrue_not (ha pins s σ H (λ c H1=>Q (!c) H1) I h)
def aJQ(ta tb:TE):TE:=λ σ H Q=>ta σ H λ x H1=>∃c,x= .bl c/\if c=true then tb σ H1 Q else Q (.bl false) H1
def aJN(ta:TE):TE:=λ σ H Q=>ta σ H λ x H1=>∃c,x= .bl c/\Q (.bl (!c)) H1
theorem aIC{op}{t:TE}(h:PE X a t):PE X (.BoolOp op [a] pos) t:=λ pins s σ H Q I hw=>BoolOp_one (h pins s σ H Q I hw)
theorem aIG(ha:PE X a ta)(hb:PE X (.BoolOp .And (b::rest) pos) tb):PE X (.BoolOp .And (a::b::rest) pos) (aJQ ta tb):=by
 intro pins s σ H Q I h;refine BoolOp_and (thn (ha pins s σ H _ I h) λ v s1 ⟨x,H1,I1,r1,q1⟩=>?_);obtain⟨c,rfl,q1⟩:=q1;cases r1;refine wpAny_truthy_bool ?_;cases c with
 |true=>exact hb pins s1 σ H1 Q I1 q1
 |false=>exact⟨.bl false,H1,I1,rfl,q1⟩
theorem aID(ha:PE X a ta):PE X (.UnaryOp .Not a pos) (aJN ta):=by
 intro pins s σ H Q I h;refine UnaryOp_ (thn (ha pins s σ H _ I h) λ v s1 ⟨x,H1,I1,r1,q1⟩=>?_);obtain⟨c,rfl,q1⟩:=q1;cases r1;exact not_of (wpAny_truthy_bool ⟨.bl (!c),H1,I1,rfl,q1⟩)
end
def SqL(K:PySem.W.Frag)(H:Hp)(a:Addr)(xs:List V):Prop:=
 Rd H a (.lst xs)\/
  ∃(o:Obj) (its:Array Value) (n:Nat),K.lookup a=some o/\o.cls= .type "list"/\o.dict=none/\o.data= .seq its n/\its.size<=sizeLine/\Vals xs its.toList
def SqT(K:PySem.W.Frag)(H:Hp)(a:Addr)(xs:List V):Prop:=
 Rd H a (.tup xs)\/
  ∃(o:Obj) (its:Array Value) (n:Nat),K.lookup a=some o/\o.cls= .type "tuple"/\o.data= .seq its n/\its.size<=sizeLine/\Vals xs its.toList
def aK1:Value->Option V
 | .none=>some .non
 | .bool b=>some (.bl b)
 | .int i _=>some (.int i)
 | .str x _=>some (.str x)
 | .bytes b _=>some (.byt b)
 | .float b _=>some (.flt b)
 | .ref a=>some (.ref a)
 | .type n=>some (.ty n)
 |_=>none
theorem RelV.abs{x:V}{u:Value}(r:RelV x u):aK1 u=some x:=by
 cases x with
 |non=>cases r;rfl
 |bl _=>cases r;rfl
 |int _=>obtain⟨t,rfl⟩:=r;rfl
 |str _=>obtain⟨t,rfl⟩:=r;rfl
 |byt _=>obtain⟨t,rfl⟩:=r;rfl
 |flt _=>obtain⟨t,rfl⟩:=r;rfl
 |ref _=>cases r;rfl
 |ty _=>cases r;rfl
theorem RelV.inj{x y:V}{u:Value}(r:RelV x u)(q:RelV y u):x=y:=Option.some.inj (r.abs.symm.trans q.abs)
theorem Vals.inj:∀{xs ys:List V} {us:List Value},Vals xs us->Vals ys us->xs=ys
 |_,_,_,.nil,.nil=>rfl
 |_,_,_,.cons r t,.cons r' t'=>by rw[r.inj r',Vals.inj t t']
section
variable{X:Cx}{pins:List (Addr×Obj)}{σ:St}{H:Hp}{s:Shared}{a:Addr}{xs ys:List V}
theorem SqL.of{K:PySem.W.Frag}(h:H a=some (.lst xs)):SqL K H a xs:=.inl (.inl h)
theorem SqT.of{K:PySem.W.Frag}(h:H a=some (.tup xs)):SqT K H a xs:=.inl (.inl h)
theorem Inv.list(I:Inv X pins σ H s)(h:SqL X.K H a xs):∃its:List Value,Vals xs its/\PlainL s.heap a its.toArray/\xs.length<=sizeLine:=by
 rcases h with h|⟨o,its,n,hk,hc,hd,hs,hz,r⟩
 ·obtain⟨z,its,n,r,e⟩:=h.ok I.hok
  exact⟨its,r,⟨_,n,e,rfl,rfl,rfl⟩,z⟩
 ·refine⟨its.toList,r,⟨o,n,I.kIn a o hk,hc,hd,by simpa using hs⟩,?_⟩
  have e:=r.length;simp only[Array.length_toList]at e;omega
theorem Inv.tuple(I:Inv X pins σ H s)(h:SqT X.K H a xs):∃its:List Value,Vals xs its/\IsTup s.heap a its.toArray/\xs.length<=sizeLine:=by
 rcases h with h|⟨o,its,n,hk,hc,hs,hz,r⟩
 ·obtain⟨z,its,r,p⟩:=h.ok I.hok
  exact⟨its,r,p,z⟩
 ·refine⟨its.toList,r,⟨o,I.kIn a o hk,hc,n,by simpa using hs⟩,?_⟩
  have e:=r.length;simp only[Array.length_toList]at e;omega
theorem Inv.list_inj(I:Inv X pins σ H s)(h:SqL X.K H a xs)(h':SqL X.K H a ys):xs=ys:=by
 obtain⟨its,r,⟨o,n,e,_,_,d⟩,_⟩:=I.list h;obtain⟨its',r',⟨o',n',e',_,_,d'⟩,_⟩:=I.list h';rw[e]at e';cases e';rw[d]at d';injection d' with d1 _
 have:its=its':=by simpa using congrArg Array.toList d1
 subst this;exact r.inj r'
theorem Inv.tuple_inj(I:Inv X pins σ H s)(h:SqT X.K H a xs)(h':SqT X.K H a ys):xs=ys:=by
 obtain⟨its,r,⟨o,e,_,n,d⟩,_⟩:=I.tuple h;obtain⟨its',r',⟨o',e',_,n',d'⟩,_⟩:=I.tuple h';rw[e]at e';cases e';rw[d]at d';injection d' with d1 _
 have:its=its':=by simpa using congrArg Array.toList d1
 subst this;exact r.inj r'
end
section
variable{X:Cx}{pins:List (Addr×Obj)}{σ:St}{H:Hp}{s:Shared}{E:Value->Shared->Prop}
end
section
variable{X:Cx}{st:Stmt}{rest:List Stmt}{t u:TS}{e:Expr}{te:TE}{pos:Pos}
def aJO:TS:=λ D σ H=>D.nx σ H
def aKK(t u:TS):TS:=λ D σ H=>t {D with nx:=u D} σ H
theorem w6:PSs X [] aJO:=λ _ _ σ H _ I h=>wpAny_execs_nil ⟨σ,H,I,h⟩
theorem dN(h1:PS X st t)(h2:PSs X rest u):PSs X (st::rest) (aKK t u):=by
 intro pins s σ H D I h;refine wpAny_execs_cons (thn (h1 pins s σ H {D with nx:=u D} I h) λ f s1 q=>?_);cases f with
 |next=>
  obtain⟨σ',H',I',q⟩:=q;exact h2 pins s1 σ' H' D I' q
 |ret v=>exact q
 |brk=>exact q
 |cont=>exact q
theorem jo(h1:PS X st t):PSs X [st] t:=by
 intro pins s σ H D I h;refine wpAny_execs_cons (thn (h1 pins s σ H D I h) λ f s1 q=>?_);cases f with
 |next=>exact wpAny_execs_nil q
 |ret v=>exact q
 |brk=>exact q
 |cont=>exact q
theorem Inv.quiet{pins:List (Addr×Obj)}{σ:St}{H:Hp}{s:Shared}(I:Inv X pins σ H s):interactive X.env=false:=by simp[interactive,I.ok.kind]
def rT(te:TE):TS:=λ D σ H=>te σ H λ _ H1=>D.nx σ H1
theorem lq(he:PE X e te)(hs:swapsWith e none pos.line X.env=pure false:=by rfl):PS X (.Expr e pos) (rT te):=by
 intro pins s σ H D I h;exact wpAny_Expr_any (thn (he pins s σ H _ I h) λ v s1 ⟨x,H1,I1,r1,q1⟩=>⟨σ,H1,I1,q1⟩) I.quiet hs
def aH6(te:TE):TS:=λ D σ H=>te σ H D.rt
theorem sY(he:PE X e te):PS X (.Return (some e) pos) (aH6 te):=by
 intro pins s σ H D I h;exact wpAny_Return_some (thn (he pins s σ H _ I h) λ v s1 ⟨x,H1,I1,r1,q1⟩=>⟨x,σ,H1,I1,r1,q1⟩)
def aKP(c:TT)(t u:TS):TS:=λ D σ H=>c σ H λ b H1=>if b=true then t D σ H1 else u D σ H1
theorem aD6{c:Expr}{a b:List Stmt}{tc:TT}(hc:PT X c tc)(ha:PSs X a t)(hb:PSs X b u):PS X (.If c a b pos) (aKP tc t u):=by
 intro pins s σ H D I h;refine wpAny_If (thn (hc pins s σ H _ I h) λ d s1 ⟨H1,I1,q1⟩=>?_);cases d with
 |true=>exact ha pins s1 σ H1 D I1 q1
 |false=>exact hb pins s1 σ H1 D I1 q1
end
abbrev TG:=V->St->Hp->(St->Hp->Prop)->Prop
abbrev TGs:=List V->St->Hp->(St->Hp->Prop)->Prop
def PG(X:Cx)(target:Expr)(t:TG):Prop:=
 ∀(pins:List (Addr×Obj)) (s:Shared) (σ:St) (H:Hp) (v:V) (u:Value) (Q:St->Hp->Prop),Inv X pins σ H s->RelV v u->t v σ H Q->
  wpAny (model X.prog X.w) X.A (assign target X.env u) (λ _ s'=>∃σ' H',Inv X pins σ' H' s'/\Q σ' H') X.xe s
def PGs(X:Cx)(ts:List Expr)(t:TGs):Prop:=
 ∀(pins:List (Addr×Obj)) (s:Shared) (σ:St) (H:Hp) (vs:List V) (us:List Value) (Q:St->Hp->Prop),Inv X pins σ H s->Vals vs us->t vs σ H Q->
  wpAny (model X.prog X.w) X.A (assignInOrder ((assignEach ts X.env).map (·.2)) us) (λ _ s'=>∃σ' H',Inv X pins σ' H' s'/\Q σ' H') X.xe s
abbrev aJA:=V->V->V->Hp->(Hp->Prop)->Prop
def aKE(X:Cx)(t:aJA):Prop:=
 ∀(pins:List (Addr×Obj)) (s:Shared) (σ:St) (H:Hp) (o i v:V) (ov iv u:Value) (Q:Hp->Prop),Inv X pins σ H s->RelV o ov->RelV i iv->RelV v u->t o i v H Q->
  wpAny (model X.prog X.w) X.A (setItem ov iv u) (λ _ s'=>∃H',Inv X pins σ H' s'/\Q H') X.xe s
abbrev TIp:=V->V->Hp->VK->Prop
def PIp(X:Cx)(op:Operator)(t:TIp):Prop:=
 ∀(pins:List (Addr×Obj)) (s:Shared) (σ:St) (H:Hp) (x y:V) (v u:Value) (Q:VK),Inv X pins σ H s->RelV x v->RelV y u->t x y H Q->
  wpAny (model X.prog X.w) X.A (inplaceOp op v u) (EP X pins σ Q) X.xe s
section
variable{X:Cx}{pos:Pos}
def mY(i:Nat):TG:=λ v σ H Q=>Q (σ.set i (some v)) H
theorem aFc{i:Nat}{x:Str}(hN:X.N.Nodup)(hi:X.N[i]? =some x)(hx:Loc X.env.scope x)(hf:X.fn x=true\/X.env.scope.names.lookup x=some .local:=by first|exact .inl rfl|exact .inr rfl|assumption):PG X (.Name x pos) (mY i):=by
 intro pins s σ H v u Q I r h;exact wpAny_assign_Name (n8 I hN hi hx r (λ s' I'=>⟨_,H,I',h⟩) hf)
def aIp:TGs:=λ vs σ H Q=>vs=[]/\Q σ H
def aEa(t:TG)(u:TGs):TGs:=λ vs σ H Q=>∃v r,vs=v::r/\t v σ H λ σ' H'=>u r σ' H' Q
theorem aFb:PGs X [] aIp:=by
 intro pins s σ H vs us Q I r h;obtain⟨e,h⟩:=h;subst e;cases r;exact assignInOrder_nil ⟨σ,H,I,h⟩
theorem aD9{e:Expr}{es:List Expr}{t:TG}{u:TGs}(h1:PG X e t)(h2:PGs X es u)
  (hs:(assignEach (e::es) X.env).map (·.2)=assign e X.env::(assignEach es X.env).map (·.2):=by rfl):PGs X (e::es) (aEa t u):=by
 intro pins s σ H vs us Q I r h;obtain⟨v,vr,e1,h⟩:=h;subst e1;cases r with
 |cons r rr=>
  rw[hs];refine assignInOrder_cons (thn (h1 pins s σ H _ _ _ I r h) λ _ s1 ⟨σ1,H1,I1,q1⟩=>?_);exact h2 pins s1 σ1 H1 _ _ Q I1 rr q1
def aG5(K:PySem.W.Frag)(n:Nat)(t:TGs):TG:=λ v σ H Q=>∃a xs,v= .ref a/\SqT K H a xs/\xs.length=n/\t xs σ H Q
theorem aHx{es:List Expr}{k:Nat}{t:TGs}{n:Nat}(hc:X.calm=true)(h:PGs X es t)
  (hn:(assignEach es X.env).length=n:=by rfl)(hst:(assignEach es X.env).findIdx? (·.1)=none:=by rfl):PG X (.Tuple es k pos) (aG5 X.K n t):=by
 intro pins s σ H v u Q I r hw;obtain⟨a,xs,e1,hq,hl,hw⟩:=hw;subst e1;cases r;obtain⟨its,rv,ht,hz⟩:=I.tuple hq;refine assign_Tuple_tuple (I.ok.hd hc) ht (by simp[hn,<-hl,rv.length]) hst λ h' hx=>?_
 have I1:Inv X pins σ H {s with heap:=h'}:=I.kept (t':=s.toks) λ b o e=>hx b o (Nat.ne_of_lt (Heap.lt_size e)) e
 exact h pins _ σ H xs _ Q I1 (by simpa using rv) hw
def aJx(to ti:TE)(t:aJA):TG:=λ v σ H Q=>to σ H λ o H1=>ti σ H1 λ i H2=>t o i v H2 λ H3=>Q σ H3
theorem aHy{o i:Expr}{to ti:TE}{t:aJA}(ho:PE X o to)(hi:PE X i ti)(hs:aKE X t)
  (ha:∀v,assign (.Subscript o i pos) X.env v=(do
   let ov <-holding [v] (eval o X.env);let iv <-holding [v,ov] (eval i X.env)
   standAt pos
   holding [v,ov,iv] (setItem ov iv v)
   release [v,ov,iv] []):=by intro _;rfl):PG X (.Subscript o i pos) (aJx to ti t):=by
 intro pins s σ H v u Q I r h;rw[ha];refine wpAny_bind (wpAny_holding (thn (ho pins s σ H _ I h) λ ov s1 ⟨x,H1,I1,r1,q1⟩=>?_));refine wpAny_bind (wpAny_holding (thn (hi pins s1 σ H1 _ I1 q1) λ iv s2 ⟨y,H2,I2,r2,q2⟩=>?_));refine wpAny_bind (wpAny_standAt (wpAny_bind (wpAny_holding (thn (hs pins s2 σ H2 x y v ov iv u _ I2 r1 r2 r q2) λ _ s3 ⟨H3,I3,q3⟩=>?_))));exact wpAny_release ⟨σ,H3,I3,q3⟩
def yO(te:TE)(g:TG):TS:=λ D σ H=>te σ H λ x H1=>g x σ H1 D.nx
theorem aD7{tg e:Expr}{te:TE}{g:TG}(he:PE X e te)(hg:PG X tg g)(hs:swapsWithSole [tg] e pos.line X.env=pure false:=by rfl)(hw:swappedStores [tg] e X.env=pure none:=by rfl)
  (h1:(assignEach [tg] X.env).map (·.2)=[assign tg X.env]:=by rfl):PS X (.Assign [tg] e pos) (yO te g):=by
 intro pins s σ H D I h;refine wpAny_Assign_stores (thn (he pins s σ H _ I h) λ v s1 ⟨x,H1,I1,r1,q1⟩=>?_) hs hw;rw[h1];exact thn (hg pins s1 σ H1 x v _ I1 r1 q1) λ _ s2 q=>q
theorem jq{i:Nat}{x:Str}{e:Expr}{te:TE}{pos':Pos}(hN:X.N.Nodup)(hi:X.N[i]? =some x)(hx:Loc X.env.scope x)(he:PE X e te)(hs:swapsWith e (some (.Name x pos')) pos.line X.env=pure false:=by rfl)(hf:X.fn x=true\/X.env.scope.names.lookup x=some .local:=by first|exact .inl rfl|exact .inr rfl|assumption):
  PS X (.Assign [.Name x pos'] e pos) (yO te (mY i)):=by
 intro pins s σ H D I h;refine wpAny_Assign_Name (thn (he pins s σ H _ I h) λ v s1 ⟨y,H1,I1,r1,q1⟩=>?_) hs;exact n8 I1 hN hi hx r1 (λ s2 I2=>⟨_,H1,I2,q1⟩) hf
def aKR(i:Nat)(te:TE)(ti:TIp):TS:=λ D σ H=>∃x,σ[i]? =some (some x)/\te σ H λ y H1=>ti x y H1 λ z H2=>D.nx (σ.set i (some z)) H2
theorem aHt{i:Nat}{x:Str}{e:Expr}{te:TE}{op:Operator}{ti:TIp}{pos':Pos}(hN:X.N.Nodup)(hi:X.N[i]? =some x)(hx:Loc X.env.scope x)(he:PE X e te)(ho:PIp X op ti)(hf:X.fn x=true\/X.env.scope.names.lookup x=some .local:=by first|exact .inl rfl|exact .inr rfl|assumption):
  PS X (.AugAssign (.Name x pos') op e pos) (aKR i te ti):=by
 intro pins s σ H D I h;obtain⟨v,e1,h⟩:=h;obtain⟨m,hn,hl⟩:=I.loc;have vis:Vis X.env.scope x:=by rcases hx with k|k;exact .inl k;exact .inr (.inl k)
 obtain⟨u,r,l⟩:=hl i x v hi e1 vis;refine wpAny_AugAssign_Name ?_;have go:wpAny (model X.prog X.w) X.A (eval e X.env) (λ w s₂=>wpAny (model X.prog X.w) X.A (inplaceOp op u w) (λ r s₃=>wpAny (model X.prog X.w) X.A (storeName X.env x r) (λ _=>SP X pins D .next) X.xe s₃) X.xe s₂) X.xe s:=by
  refine thn (he pins s σ H _ I h) λ w s1 ⟨y,H1,I1,r1,q1⟩=>?_
  refine thn (ho pins s1 σ H1 v y u w _ I1 r r1 q1) λ z s2 ⟨zv,H2,I2,r2,q2⟩=>?_
  exact n8 I2 hN hi hx r2 (λ s3 I3=>⟨_,H2,I3,q2⟩) hf
 rcases l with ⟨hk,hm⟩|⟨hk,c,hc,hcell⟩
 ·exact wpAny_loadName_local I.ok.kind hk hn hm go
 ·rcases hk with hk|hk
  ·exact wpAny_loadName_cell I.ok.kind hk hc hcell go
  ·rcases hx with k|k
   ·have:X.env.scope.names.lookup x=some .free:=hk
    rw[k]at this;cases this
   ·have:X.env.scope.names.lookup x=some .free:=hk
    rw[k]at this;cases this
def ipI(f:Int->Int->Int):TIp:=λ x y H Q=>∃i j,x= .int i/\y= .int j/\Q (.int (f i j)) H
theorem aIj:PIp X .Add (ipI λ i j=>i+j):=by
 intro pins s σ H x y v u Q I r1 r2 h;obtain⟨i,j,e1,e2,q⟩:=h;subst e1;subst e2;obtain⟨t,rfl⟩:=r1;obtain⟨t',rfl⟩:=r2;exact iadd_int ⟨.int _,H,I.tok _,⟨_,rfl⟩,q⟩
end
section
variable{X:Cx}{pos:Pos}
def aH5(c:TT)(tb:TS):TS:=λ D σ H=>∃W:Nat->St->Hp->Prop,(∃m,W m σ H)/\∀m σ H,W m σ H->
 c σ H λ b H1=>if b=true then∃N:St->Hp->Prop,(∀σ' H',N σ' H'->∃m',m'<m/\W m' σ' H')/\tb {D with nx:=N,ct:=N,bk:=D.nx} σ H1 else D.nx σ H1
theorem aD3{c:Expr}{body:List Stmt}{tc:TT}{tb:TS}(hp:PassesOwn (model X.prog X.w) X.A X.env X.xe)(hc:PT X c tc)(hb:PSs X body tb):PS X (.While c body [] pos) (aH5 tc tb):=by
 intro pins s σ H D I h;obtain⟨W,⟨m0,w0⟩,turn⟩:=h;refine wpAny_While (codeAny_whileLoop (λ n s'=>∃σ' H',Inv X pins σ' H' s'/\W n σ' H') ?_ m0 ⟨σ,H,I,w0⟩);rintro n s1 ⟨σ1,H1,I1,w1⟩;refine wpAny_passesOwn hp (thn (hc pins s1 σ1 H1 _ I1 (turn n σ1 H1 w1)) λ b s2 ⟨H2,I2,q2⟩=>?_);cases b with
 |true=>
  obtain⟨N,hN,q2⟩:=q2;rw[if_pos rfl];refine wpAny_passesOwn hp (thn (hb pins s2 σ1 H2 _ I2 q2) λ f s3 q3=>?_);cases f with
  |next=>
   obtain⟨σ3,H3,I3,n3⟩:=q3;obtain⟨m',hm,w3⟩:=hN σ3 H3 n3;exact⟨m',hm,σ3,H3,I3,w3⟩
  |cont=>
   obtain⟨σ3,H3,I3,n3⟩:=q3;obtain⟨m',hm,w3⟩:=hN σ3 H3 n3;exact⟨m',hm,σ3,H3,I3,w3⟩
  |brk=>exact q3
  |ret v=>exact q3
 |false=>
  rw[if_neg Bool.false_ne_true];exact wpAny_execs_nil ⟨σ1,H2,I2,q2⟩
end
structure It where
 go:Nat->Hp->Prop
 yld:Nat->Hp->V->Hp->Prop
 stop:Nat->Hp->Prop
def uX(X:Cx)(pins:List (Addr×Obj))(H:Hp)(b:Addr):Prop:=
 H b=none/\b≠X.env.locals/\b∉X.fs/\(b∈X.ex\/X.s₀.heap.objs.size<=b)/\(∀x c,X.env.cells.lookup x=some c->c≠b)/\∀p∈X.ta++(X.pn++pins),p.1≠b
theorem Inv.fpOk{X:Cx}{pins:List (Addr×Obj)}{σ:St}{H H':Hp}{s:Shared}{b:Addr}(I:Inv X pins σ H s)(hb:s.heap.objs.size<=b)(hn:H' b=none):uX X pins H' b:=by
 refine⟨hn,Nat.ne_of_gt (Nat.lt_of_lt_of_le I.lt hb),I.nofs hb,.inr (Nat.le_trans I.sz hb),λ x c e z=>?_,λ p hp z=>?_⟩
 ·obtain⟨v,q⟩:=I.cell x c e
  exact absurd (Nat.lt_of_lt_of_le q.lt (by rw[z];exact hb)) (Nat.lt_irrefl _)
 ·exact absurd (Nat.lt_of_lt_of_le (I.pinL hp) (by rw[z];exact hb)) (Nat.lt_irrefl _)
structure Turn(P:Program)(w:World)(K:PySem.W.Frag)(tg:Expr)(J:It)(fp:List Addr)(it:Addr)(tn:Nat->Heap->Prop):Prop where
 mem:it∈fp
 obj:∀i h,tn i h->∀b∈fp,∃o,h.get? b=some o/\∀v,o.data≠.cell v
 keep:∀i h h',tn i h->(∀b∈fp,∀o,h.get? b=some o->h'.get? b=some o)->tn i h'
 item:∀(X:Cx),X.prog=P->X.w=w->X.K=K->X.calm=true->∀(i:Nat) (pins:List (Addr×Obj)) (s:Shared) (σ:St) (H:Hp) (E:Value->Shared->Prop),Inv X pins σ H s->(∀b∈fp,uX X pins H b)->tn i s.heap->J.go i H->
  wpAny (model P w) X.A (pyNext (.ref it)) (λ r s1=>∃u,r=some u/\
   wpAny (model P w) X.A (letOwnedTupleGo tg (.ref it) u) (λ _ s2=>∃x H',Inv X pins σ H' s2/\RelV x u/\J.yld i H x H'/\tn (i+1) s2.heap/\∀b∈fp,H' b=none) E s1) E s
 done:∀(X:Cx),X.prog=P->X.w=w->X.K=K->X.calm=true->∀(i:Nat) (pins:List (Addr×Obj)) (s:Shared) (σ:St) (H:Hp) (E:Value->Shared->Prop),Inv X pins σ H s->(∀b∈fp,uX X pins H b)->tn i s.heap->J.stop i H->
  wpAny (model P w) X.A (pyNext (.ref it)) (λ r s1=>r=none/\Inv X pins σ H s1) E s
 self:∀(A:Around) (i:Nat) (s:Shared) (Q:Value->Shared->Prop) (E:Value->Shared->Prop),tn i s.heap->Q (.ref it) s->wpAny (model P w) A (pyIter (.ref it)) Q E s
abbrev TI:=St->Hp->(It->Hp->Prop)->Prop
def PIE(X:Cx)(pins:List (Addr×Obj))(σ:St)(tg:Expr)(R:It->Hp->Prop)(itv:Value)(s2:Shared):Prop:=
 ∃(it:Addr) (fp:List Addr) (tn:Nat->Heap->Prop) (J:It) (H':Hp),itv= .ref it/\Inv X pins σ H' s2/\Turn X.prog X.w X.K tg J fp it tn/\tn 0 s2.heap/\(∀b∈fp,uX X pins H' b)/\R J H'
def PI(X:Cx)(tg iter:Expr)(wi:TI):Prop:=
 ∀(pins:List (Addr×Obj)) (s:Shared) (σ:St) (H:Hp) (R:It->Hp->Prop),Inv X pins σ H s->wi σ H R->
  wpAny (model X.prog X.w) X.A (eval iter X.env) (λ v s1=>wpAny (model X.prog X.w) X.A (pyIter v) (PIE X pins σ tg R) X.xe s1) X.xe s
theorem aE6{M:Model}{A:Around}{E:Value->Shared->Prop}{s:Shared}{tg:Expr}{it:Addr}{u:Value}{o:Obj}{n:String}{vs:Array Value}{Q:Unit->Shared->Prop}(ho:s.heap.get? it=some o)(hc:o.cls= .type n)(hd:o.data= .fields vs)
    (hn:["enumerate","zip","dict_itemiterator","dict_reverseitemiterator","odict_iterator","itertools.zip_longest","itertools.pairwise"].contains n=false)(hQ:Q () s):wpAny M A (letOwnedTupleGo tg (.ref it) u) Q E s:=by
  unfold letOwnedTupleGo;cases tg<;>first
    |exact wpAny_pure hQ
    | (cases u <;> first
        |exact wpAny_pure hQ
        | (refine wpAny_bind (wpAny_load ho ?_)
           rw[hc,hd];show wpAny M A (if (["enumerate","zip","dict_itemiterator","dict_reverseitemiterator","odict_iterator","itertools.zip_longest","itertools.pairwise"].contains n&&vs[0]? ==some (rawInt _))=true then _ else _) Q E s;rw[if_neg (by intro h;rw[hn,Bool.false_and]at h;cases h)];exact wpAny_pure hQ))
def Itl(K:PySem.W.Frag)(a:Addr):It:=
 ⟨λ i H=>∃xs x,SqL K H a xs/\xs[i]? =some x,λ i H x H'=>H'=H/\∀xs,SqL K H a xs->xs[i]? =some x,λ i H=>∃xs,SqL K H a xs/\xs.length<=i⟩
def Itt(K:PySem.W.Frag)(a:Addr):It:=
 ⟨λ i H=>∃xs x,SqT K H a xs/\xs[i]? =some x,λ i H x H'=>H'=H/\∀xs,SqT K H a xs->xs[i]? =some x,λ i H=>∃xs,SqT K H a xs/\xs.length<=i⟩
def Itr(lo:Int)(n:Nat):It:=⟨λ i _=>i<n,λ i H x H'=>H'=H/\x= .int (lo+i),λ i _=>n<=i⟩
theorem aBw{P:Program}{w:World}{K:PySem.W.Frag}{tg:Expr}(a it:Addr):Turn P w K tg (Itl K a) [it] it (λ i h=>h.IsListIter it a i) where
 mem:=by simp
 obj:=λ i h st b hb=>by
  have e:b=it:=by simpa using hb
  subst e;obtain⟨o,e,c,d⟩:=st;exact⟨o,e,λ v z=>by rw[d]at z;cases z⟩
 keep:=λ i h h' st k=>st.at λ o e=>k it (by simp) o e
 item:=by
  intro X hP hw hK hc i pins s σ H E I hf st hg;subst hP hw hK;obtain⟨xs,x,hq,hx⟩:=hg;obtain⟨its,rv,p,hz⟩:=I.list hq;obtain⟨u,hu,ru⟩:=rv.get hx;obtain⟨f0,f1,f2,f3,f4,f5⟩:=hf it (by simp);refine wpAny_pyNext_list_item st p.isList (x:=u) (by simpa using hu) λ h' st' sb=>?_
  have I1:Inv X pins σ H {s with heap:=h'}:=I.turned (t':=s.toks) (λ b o hb e=>(sb.2 b hb).trans e) f0 f1 f3 f4 f5;obtain⟨o,e,c,d⟩:=id st';exact⟨u,rfl,aE6 (s:={s with heap:=h'}) e c d (by decide) ⟨x,H,I1,ru,⟨rfl,λ ys hy=>by rw[I.list_inj hy hq];exact hx⟩,st',λ b hb=>(hf b hb).1⟩⟩
 done:=by
  intro X hP hw hK hc i pins s σ H E I hf st hg;subst hP hw hK;obtain⟨xs,hq,hx⟩:=hg;obtain⟨its,rv,p,hz⟩:=I.list hq;obtain⟨f0,f1,f2,f3,f4,f5⟩:=hf it (by simp);have hl:=rv.length;exact wpAny_pyNext_list_end (I.ok.hd hc) st p.isList (by simp;omega) λ h' eb=>⟨rfl,I.turned (t':=s.toks) (λ b o hb e=>eb b o hb e) f0 f1 f3 f4 f5⟩
 self:=λ _ _ _ _ _ st h=>wpAny_pyIter_listiter st h
theorem aAA{P:Program}{w:World}{K:PySem.W.Frag}{tg:Expr}(a it:Addr):Turn P w K tg (Itt K a) [it] it (λ i h=>h.IsTupleIter it a i) where
 mem:=by simp
 obj:=λ i h st b hb=>by
  have e:b=it:=by simpa using hb
  subst e;obtain⟨o,e,c,d⟩:=st;exact⟨o,e,λ v z=>by rw[d]at z;cases z⟩
 keep:=λ i h h' st k=>st.at λ o e=>k it (by simp) o e
 item:=by
  intro X hP hw hK hc i pins s σ H E I hf st hg;subst hP hw hK;obtain⟨xs,x,hq,hx⟩:=hg;obtain⟨its,rv,p,hz⟩:=I.tuple hq;obtain⟨u,hu,ru⟩:=rv.get hx;obtain⟨f0,f1,f2,f3,f4,f5⟩:=hf it (by simp);refine wpAny_pyNext_tuple_item st (show s.heap.IsTuple a its.toArray from p) (x:=u) (by simpa using hu) λ h' st' sb=>?_
  have I1:Inv X pins σ H {s with heap:=h'}:=I.turned (t':=s.toks) (λ b o hb e=>(sb.2 b hb).trans e) f0 f1 f3 f4 f5;obtain⟨o,e,c,d⟩:=id st';exact⟨u,rfl,aE6 (s:={s with heap:=h'}) e c d (by decide) ⟨x,H,I1,ru,⟨rfl,λ ys hy=>by rw[I.tuple_inj hy hq];exact hx⟩,st',λ b hb=>(hf b hb).1⟩⟩
 done:=by
  intro X hP hw hK hc i pins s σ H E I hf st hg;subst hP hw hK;obtain⟨xs,hq,hx⟩:=hg;obtain⟨its,rv,p,hz⟩:=I.tuple hq;obtain⟨f0,f1,f2,f3,f4,f5⟩:=hf it (by simp);have hl:=rv.length;exact wpAny_pyNext_tuple_end (I.ok.hd hc) st (show s.heap.IsTuple a its.toArray from p) (by simp;omega) λ h' eb=>⟨rfl,I.turned (t':=s.toks) (λ b o hb e=>eb b o hb e) f0 f1 f3 f4 f5⟩
 self:=λ _ _ _ _ _ st h=>wpAny_pyIter_tupleiter st h
theorem aAB{P:Program}{w:World}{K:PySem.W.Frag}{tg:Expr}(it:Addr)(lo:Int)(n:Nat):Turn P w K tg (Itr lo n) [it] it (λ i h=>IsRangeIter h it (lo+(i:Nat)*1) ((n:Int)-(i:Nat)) 1) where
 mem:=by simp
 obj:=λ i h st b hb=>by
  have e:b=it:=by simpa using hb
  subst e;exact⟨_,st,λ v z=>by
   have z':Data.fields _=Data.cell v:=z;cases z'⟩
 keep:=λ i h h' st k=>k it (by simp) _ st
 item:=by
  intro X hP hw hK hc i pins s σ H E I hf st hg;subst hP hw hK;obtain⟨f0,f1,f2,f3,f4,f5⟩:=hf it (by simp);have W:=Walks.range (prog:=X.prog) (w:=X.w) (I.ok.hd hc) it lo 1 n;refine W.item i s _ _ hg st λ v h' tk hv st' kk=>?_
  obtain⟨t,rfl⟩:=hv;have I1:Inv X pins σ H {s with heap:=h',toks:=tk}:=I.turned (λ b o hb e=>kk b o (by simpa using hb) e) f0 f1 f3 f4 f5;refine⟨_,rfl,aE6 (s:={s with heap:=h',toks:=tk}) (n:="range_iterator") st' rfl rfl (by decide) ⟨.int (lo+i),H,I1,⟨t,?_⟩,⟨rfl,rfl⟩,st',λ b hb=>(hf b hb).1⟩⟩;rw[Int.mul_one]
 done:=by
  intro X hP hw hK hc i pins s σ H E I hf st hg;subst hP hw hK;obtain⟨f0,f1,f2,f3,f4,f5⟩:=hf it (by simp);exact wpAny_pyNext_range_end (I.ok.hd hc) st (by have:n<=i:=hg;omega) λ h' eb=>⟨rfl,I.turned (t':=s.toks) (λ b o hb e=>eb b o hb e) f0 f1 f3 f4 f5⟩
 self:=λ _ _ _ _ _ st h=>wpAny_pyIter_rangeiter st h
section
variable{X:Cx}{tg:Expr}
theorem yf{pins:List (Addr×Obj)}{σ:St}{H:Hp}{s:Shared}{R:It->Hp->Prop}{E:Value->Shared->Prop}{lo hi:Int}{t u v:Tok}{tk:Nat}(I:Inv X pins σ H s)(h1: -(2^62)<=lo)(h2:lo<2^62)(h3: -(2^62)<=hi)(h4:hi<2^62)
  (q:R (Itr lo (hi-lo).toNat) H):wpAny (model X.prog X.w) X.A (pyIter (.ref s.heap.objs.size)) (PIE X pins σ tg R) E {s with heap:=s.heap.push {cls:=.type "range",data:=.fields #[.int lo t,.int hi u,.int 1 v]},toks:=tk}:=by
 refine wpAny_pyIter_range (IsRange.new ..) (small_one h1 h2 h3 h4) ?_;have I1:Inv X pins σ H {s with heap:=s.heap.push {cls:=.type "range",data:=.fields #[.int lo t,.int hi u,.int 1 v]},toks:=tk}:=I.kept λ b o e=>Heap.get?_push_of_some _ e
 refine⟨(s.heap.push {cls:=.type "range",data:=.fields #[.int lo t,.int hi u,.int 1 v]}).objs.size,[(s.heap.push {cls:=.type "range",data:=.fields #[.int lo t,.int hi u,.int 1 v]}).objs.size],_,_,H,rfl,
  I1.kept (t':=tk) λ b o e=>Heap.get?_push_of_some _ e,aAB _ lo (hi-lo).toNat,?_,λ b hb=>?_,q⟩
 ·have e1:lo+((0:Nat):Int)*1=lo:=by simp
  have e2:(((hi-lo).toNat:Nat):Int)-((0:Nat):Int)=Builtin.Range.rangeSize lo hi 1:=by rw[rangeSize_one];split<;>omega
  show IsRangeIter _ _ (lo+((0:Nat):Int)*1) ((((hi-lo).toNat:Nat):Int)-((0:Nat):Int)) 1;rw[e1,e2];exact Heap.get?_push_size _ rfl
 ·have e:b=(s.heap.push {cls:=.type "range",data:=.fields #[.int lo t,.int hi u,.int 1 v]}).objs.size:=by simpa using hb
  subst e;exact I1.fpOk (Nat.le_refl _) (I1.hok.fresh (Nat.le_refl _))
def aJw(ta:TA):TI:=λ σ H R=>ta σ H λ vs H1=>∃j:Int,vs=[.int j]/\-(2^62)<=j/\j<2^62/\R (Itr 0 j.toNat) H1
def aJv(ta:TA):TI:=λ σ H R=>ta σ H λ vs H1=>∃i j:Int,vs=[.int i,.int j]/\(-(2^62)<=i/\i<2^62/\-(2^62)<=j/\j<2^62)/\R (Itr i (j-i).toNat) H1
theorem aCK{a:Expr}{ta:TA}{p pos:Pos}(hg:Gl X "range")(hm:X.mg "range"=none)(ha:PA X [a] ta)(hs:starEach [a] X.env=[(false,eval a X.env)]:=by rfl):PI X tg (.Call (.Name "range" p) [a] [] pos) (aJw ta):=by
 intro pins s σ H R I h;refine Call_ (pQ I hg hm boot_range (PyProof.Rows.callWith_type1 (thn (ha pos pins s σ H _ I h) λ us s1 ⟨vs,H1,I1,r1,q1⟩=>?_) hs rfl));obtain⟨j,e,q1,q2,q⟩:=q1;subst e;cases r1 with
 |cons r rr=>
  cases rr;obtain⟨t,rfl⟩:=r;exact call_range_1 (yf I1 (by omega) (by omega) q1 q2 (by simpa using q))
theorem aCJ{a b:Expr}{ta:TA}{p pos:Pos}(hg:Gl X "range")(hm:X.mg "range"=none)(ha:PA X [a,b] ta)(hs:starEach [a,b] X.env=[(false,eval a X.env),(false,eval b X.env)]:=by rfl)(hs2:starEach [b] X.env=[(false,eval b X.env)]:=by rfl):
  PI X tg (.Call (.Name "range" p) [a,b] [] pos) (aJv ta):=by
 intro pins s σ H R I h;refine Call_ (pQ I hg hm boot_range (PyProof.Rows.callWith_type1 (thn (ha pos pins s σ H _ I h) λ us s1 ⟨vs,H1,I1,r1,q1⟩=>?_) (by rw[hs,hs2]) (by rw[hs2];rfl)));obtain⟨i,j,e,⟨q1,q2,q3,q4⟩,q⟩:=q1;subst e;cases r1 with
 |cons r rr=>
  cases rr with
  |cons r' rr=>
   cases rr;obtain⟨t,rfl⟩:=r;obtain⟨t',rfl⟩:=r';exact call_range_2 (yf I1 q1 q2 q3 q4 q)
def aKQ(wi:TI)(g:TG)(tb:TS):TS:=λ D σ H=>wi σ H λ J H1=>∃W:Nat->Nat->St->Hp->Prop,(∃m,W 0 m σ H1)/\∀i m σ H,W i m σ H->
 (J.stop i H/\D.nx σ H)\/(J.go i H/\∃N:St->Hp->Prop,(∀σ' H',N σ' H'->∃m',m'<m/\W (i+1) m' σ' H')/\∀x H',J.yld i H x H'->g x σ H' λ σ2 H2=>tb {D with nx:=N,ct:=N,bk:=D.nx} σ2 H2)
def sr(fp:List Addr)(h:Heap):List (Addr×Obj):=fp.filterMap λ b=>(h.get? b).map λ o=>(b,o)
theorem nO{fp:List Addr}{h:Heap}{b:Addr}{o:Obj}(hb:b∈fp)(e:h.get? b=some o):(b,o)∈sr fp h:=List.mem_filterMap.mpr ⟨b,hb,by rw[e];rfl⟩
theorem vL{fp:List Addr}{h:Heap}{p:Addr×Obj}(hp:p∈sr fp h):p.1∈fp/\h.get? p.1=some p.2:=by
 obtain⟨b,hb,e⟩:=List.mem_filterMap.mp hp;cases q:h.get? b with
 |none=>rw[q]at e;cases e
 |some o=>
  rw[q]at e;have e':(b,o)=p:=Option.some.inj e;subst e';exact⟨hb,q⟩
theorem Inv.pinned{pins:List (Addr×Obj)}{σ:St}{H:Hp}{s:Shared}{fp:List Addr}(I:Inv X pins σ H s)(hf:∀b∈fp,uX X pins H b)(ho:∀b∈fp,∃o,s.heap.get? b=some o/\∀v,o.data≠.cell v):Inv X (pins++sr fp s.heap) σ H s:=
 I.pins_of (λ p hp=>(List.mem_append.mp hp).elim (λ z=>I.pin p (List.mem_append_right _ z)) λ z=>by
  obtain⟨hb,e⟩:=vL z;obtain⟨f0,f1,f2,_⟩:=hf p.1 hb;obtain⟨o,e',d⟩:=ho p.1 hb;rw[e]at e';cases e';exact⟨e,f0,f1,f2,d⟩) λ q hq p hp=>(List.mem_append.mp hq).elim (λ z=>(I.tab p hp).2.2.2.1 q (List.mem_append_right _ z)) λ z=>((hf q.1 (vL z).1).2.2.2.2.2 p (List.mem_append_left _ hp)).symm
theorem Inv.unpinned{pins pl:List (Addr×Obj)}{σ:St}{H:Hp}{s:Shared}(I:Inv X (pins++pl) σ H s):Inv X pins σ H s:=I.pins_of (λ p hp=>I.pin p (List.mem_append_right _ (List.mem_append_left _ hp))) λ q hq p hp=>(I.tab p hp).2.2.2.1 q (List.mem_append_right _ (List.mem_append_left _ hq))
theorem aHs{iter:Expr}{body:List Stmt}{wi:TI}{g:TG}{tb:TS}{pos:Pos}(hp:PassesOwn (model X.prog X.w) X.A X.env X.xe)(hc:X.calm=true)(hi:PI X tg iter wi)(hg:PG X tg g)(hb:PSs X body tb)
  (hs:∀x,foldedSetIterable iter X.env x=pure x:=by intro _;rfl):PS X (.For tg iter body [] pos) (aKQ wi g tb):=by
 intro pins s σ H D I h;refine wpAny_For (thn (hi pins s σ H _ I h) λ v s1 h1=>thn h1 λ itv s2 h2=>?_) hs;obtain⟨it,fp,tn,J,H2,e,I2,T,st2,f2,W,⟨m0,w0⟩,turn⟩:=h2;subst e;have stat:∀{H':Hp},(∀b∈fp,H' b=none)->∀b∈fp,uX X pins H' b:=λ hn b hb=>⟨hn b hb,(f2 b hb).2⟩
 refine codeAny_forLoop_any (λ n s'=>∃i σ' H',Inv X pins σ' H' s'/\tn i s'.heap/\(∀b∈fp,H' b=none)/\W i n σ' H') ?_ m0 ⟨0,σ,H2,I2,st2,λ b hb=>(f2 b hb).1,w0⟩;rintro n s3 ⟨i,σ3,H3,I3,st3,fr3,w3⟩;rcases turn i n σ3 H3 w3 with ⟨stop,qn⟩|⟨go,N,hN,step⟩
 ·refine wpAny_passesOwn hp (thn (T.done X rfl rfl rfl hc i pins s3 σ3 H3 X.xe I3 (stat fr3) st3 stop) λ r s4 ⟨hr,I4⟩=>?_)
  subst hr;exact wpAny_execs_nil ⟨σ3,H3,I4,qn⟩
 ·refine wpAny_passesOwn hp (thn (T.item X rfl rfl rfl hc i pins s3 σ3 H3 X.xe I3 (stat fr3) st3 go) λ r s4 ⟨u,hr,h4⟩=>?_)
  subst hr;refine wpAny_passesOwn hp (thn h4 λ _ s5 ⟨x,H5,I5,r5,y5,st5,fr5⟩=>?_);have I5':=I5.pinned (stat fr5) (T.obj _ _ st5);refine wpAny_passesOwn hp (thn (hg _ s5 σ3 H5 x u _ I5' r5 (step x H5 y5)) λ _ s6 ⟨σ6,H6,I6,q6⟩=>?_);refine wpAny_passesOwn hp (thn (hb _ s6 σ6 H6 _ I6 q6) λ f s7 q7=>?_);have again:∀{σ7:St} {H7:Hp},Inv X (pins++sr fp s5.heap) σ7 H7 s7->N σ7 H7->∃m,m<n/\∃i σ' H',Inv X pins σ' H' s7/\tn i s7.heap/\(∀b∈fp,H' b=none)/\W i m σ' H':=λ{σ7 H7} I7 n7=>by
   obtain⟨m',hm,w7⟩:=hN σ7 H7 n7;refine⟨m',hm,i+1,σ7,H7,I7.unpinned,T.keep _ _ _ st5 λ b hb o e=>(I7.pin (b,o) (List.mem_append_right _ (List.mem_append_right _ (nO hb e)))).1,λ b hb=>?_,w7⟩;obtain⟨o,e,d⟩:=T.obj _ _ st5 b hb;exact(I7.pin (b,o) (List.mem_append_right _ (List.mem_append_right _ (nO hb e)))).2.1
  cases f with
  |next=>obtain⟨σ7,H7,I7,n7⟩:=q7;exact again I7 n7
  |cont=>obtain⟨σ7,H7,I7,n7⟩:=q7;exact again I7 n7
  |brk=>obtain⟨σ7,H7,I7,q7⟩:=q7;exact⟨σ7,H7,I7.unpinned,q7⟩
  |ret v=>obtain⟨x7,σ7,H7,I7,r7,q7⟩:=q7;exact⟨x7,σ7,H7,I7.unpinned,r7,q7⟩
end
abbrev R2:=V->V->Hp->VK->Prop
def OpR(X:Cx)(f:Value->Value->Sem Value)(r:R2):Prop:=
 ∀(pins:List (Addr×Obj)) (s:Shared) (σ:St) (H:Hp) (x y:V) (v u:Value) (Q:VK),Inv X pins σ H s->RelV x v->RelV y u->r x y H Q->
  wpAny (model X.prog X.w) X.A (f v u) (EP X pins σ Q) X.xe s
def UnR(X:Cx)(f:Value->Sem Value)(r:V->Hp->VK->Prop):Prop:=
 ∀(pins:List (Addr×Obj)) (s:Shared) (σ:St) (H:Hp) (x:V) (v:Value) (Q:VK),Inv X pins σ H s->RelV x v->r x H Q->
  wpAny (model X.prog X.w) X.A (f v) (EP X pins σ Q) X.xe s
def bx(X:Cx)(f:Value)(r:List V->Hp->VK->Prop):Prop:=
 ∀(pins:List (Addr×Obj)) (s:Shared) (σ:St) (H:Hp) (xs:List V) (us:List Value) (Q:VK),Inv X pins σ H s->Vals xs us->r xs H Q->
  wpAny (model X.prog X.w) X.A (call f us) (EP X pins σ Q) X.xe s
def aK2(X:Cx)(r:V->Hp->(Bool->Hp->Prop)->Prop):Prop:=
 ∀(pins:List (Addr×Obj)) (s:Shared) (σ:St) (H:Hp) (x:V) (v:Value) (Q:Bool->Hp->Prop),Inv X pins σ H s->RelV x v->r x H Q->
  wpAny (model X.prog X.w) X.A (truthy v) (TP X pins σ Q) X.xe s
def tOp(r:R2)(ta tb:TE):TE:=λ σ H Q=>ta σ H λ x H1=>tb σ H1 λ y H2=>r x y H2 Q
def tUn(r:V->Hp->VK->Prop)(ta:TE):TE:=λ σ H Q=>ta σ H λ x H1=>r x H1 Q
def rI(C:Int->Int->Prop)(g:Int->Int->V):R2:=λ x y H Q=>∃i j,x= .int i/\y= .int j/\C i j/\Q (g i j) H
def rI0(g:Int->Int->V):R2:=λ x y H Q=>∃i j,x= .int i/\y= .int j/\Q (g i j) H
def rU(g:Int->V):V->Hp->VK->Prop:=λ x H Q=>∃i,x= .int i/\Q (g i) H
section
variable{X:Cx}{a b c:Expr}{ta tb tc:TE}{pos:Pos}
theorem aIx(ha:PE X a ta)(hb:PE X b tb){pins:List (Addr×Obj)}{s:Shared}{σ:St}{H:Hp}{R:V->V->Hp->Prop}(I:Inv X pins σ H s)
  (h:ta σ H λ x H1=>tb σ H1 λ y H2=>R x y H2){Q:Value->Shared->Prop}{f:Value->Value->Sem Value}
  (hf:∀v u s2 x y H2,Inv X pins σ H2 s2->RelV x v->RelV y u->R x y H2->wpAny (model X.prog X.w) X.A (f v u) Q X.xe s2):
  wpAny (model X.prog X.w) X.A (eval a X.env) (λ v s₁=>wpAny (model X.prog X.w) X.A (eval b X.env) (λ u s₂=>wpAny (model X.prog X.w) X.A (f v u) Q X.xe s₂) X.xe s₁) X.xe s:=by
 refine thn (ha pins s σ H _ I h) λ v s1 ⟨x,H1,I1,r1,q1⟩=>?_
 refine thn (hb pins s1 σ H1 _ I1 q1) λ u s2 ⟨y,H2,I2,r2,q2⟩=>?_
 exact hf v u s2 x y H2 I2 r1 r2 q2
theorem aDc{op:Operator}{r:R2}(ho:OpR X (binaryOp op) r)(ha:PE X a ta)(hb:PE X b tb):PE X (.BinOp a op b pos) (tOp r ta tb):=by
 intro pins s σ H Q I h;exact wpAny_BinOp (aIx ha hb I h λ v u s2 x y H2 I2 rx ry q=>ho pins s2 σ H2 x y v u Q I2 rx ry q)
theorem aJ8{op:UnaryOp}{r:V->Hp->VK->Prop}(ho:UnR X (unaryOp op) r)(ha:PE X a ta):PE X (.UnaryOp op a pos) (tUn r ta):=by
 intro pins s σ H Q I h;exact UnaryOp_ (thn (ha pins s σ H _ I h) λ v s1 ⟨x,H1,I1,r1,q1⟩=>ho pins s1 σ H1 x v Q I1 r1 q1)
theorem opI{f:Value->Value->Sem Value}{C:Int->Int->Prop}{g:Int->Int->Int}
  (rule:∀(i j:Int) (t u:Tok) (s:Shared) (Q:Value->Shared->Prop) (E:Value->Shared->Prop),C i j->Q (.int (g i j) s.toks) {s with toks:=s.toks+1}->wpAny (model X.prog X.w) X.A (f (.int i t) (.int j u)) Q E s):
  OpR X f (rI C λ i j=>.int (g i j)):=by
 intro pins s σ H x y v u Q I rx ry h;obtain⟨i,j,rfl,rfl,hc,q⟩:=h;obtain⟨t,rfl⟩:=rx;obtain⟨t',rfl⟩:=ry;exact rule i j t t' s _ _ hc ⟨.int (g i j),H,I.tok _,⟨_,rfl⟩,q⟩
theorem aJg{f:Value->Value->Sem Value}{g:Int->Int->Int}
  (rule:∀(i j:Int) (t u:Tok) (s:Shared) (Q:Value->Shared->Prop) (E:Value->Shared->Prop),Q (.int (g i j) s.toks) {s with toks:=s.toks+1}->wpAny (model X.prog X.w) X.A (f (.int i t) (.int j u)) Q E s):
  OpR X f (rI0 λ i j=>.int (g i j)):=by
 intro pins s σ H x y v u Q I rx ry h;obtain⟨i,j,rfl,rfl,q⟩:=h;obtain⟨t,rfl⟩:=rx;obtain⟨t',rfl⟩:=ry;exact rule i j t t' s _ _ ⟨.int (g i j),H,I.tok _,⟨_,rfl⟩,q⟩
theorem aFu{f:Value->Value->Sem Value}{g:Int->Int->Bool}
  (rule:∀(i j:Int) (t u:Tok) (s:Shared) (Q:Value->Shared->Prop) (E:Value->Shared->Prop),Q (.bool (g i j)) s->wpAny (model X.prog X.w) X.A (f (.int i t) (.int j u)) Q E s):
  OpR X f (rI0 λ i j=>.bl (g i j)):=by
 intro pins s σ H x y v u Q I rx ry h;obtain⟨i,j,rfl,rfl,q⟩:=h;obtain⟨t,rfl⟩:=rx;obtain⟨t',rfl⟩:=ry;exact rule i j t t' s _ _ ⟨.bl (g i j),H,I,rfl,q⟩
def aKG(i j:Int):Prop:=0<j/\j<1073741824
def aK4(i j:Int):Prop:=0<=j/\j<=1000000/\i.natAbs<2^64
def aGu(i j:Int):Prop:=(-(2^64)<i/\i<2^64)\/(-(2^64)<j/\j<2^64)
theorem aGu.ok{i j:Int}(h:aGu i j):IntMulOk i j:=by
 rcases h with ⟨h1,h2⟩|⟨h1,h2⟩
 ·exact .of_left (intBits_le_64 h1 h2)
 ·exact .of_right (intBits_le_64 h1 h2)
theorem aI1:OpR X (binaryOp .Add) (rI0 λ i j=>.int (i+j)):=aJg λ _ _ _ _ _ _ _ q=>add_int q
theorem aIN:OpR X (binaryOp .Sub) (rI0 λ i j=>.int (i-j)):=aJg λ _ _ _ _ _ _ _ q=>sub_int q
theorem aIR:OpR X (binaryOp .Mult) (rI aGu λ i j=>.int (i*j)):=opI λ _ _ _ _ _ _ _ hc q=>mul_int q hc.ok
theorem aFq:OpR X (binaryOp .FloorDiv) (rI aKG λ i j=>.int (i / j)):=opI λ i j _ _ _ _ _ hc q=>by
 have h1:(0:Int)<j:=hc.1;have h2:j<1073741824:=hc.2;exact floordiv_int (by omega) (by rw[Int.fdiv_eq_ediv_of_nonneg i (by omega)];exact q) (.inl (PyProof.noPylong_small (by omega)))
theorem aIS:OpR X (binaryOp .Mod) (rI (λ _ j=>0<j) λ i j=>.int (i%j)):=opI λ i j _ _ _ _ _ hc q=>by
 have h1:(0:Int)<j:=hc;exact mod_int' (by omega) (by rw[Int.fmod_eq_emod_of_nonneg i (by omega)];exact q)
theorem aIP:OpR X (binaryOp .Pow) (rI aK4 λ i j=>.int (i^j.toNat)):=opI λ _ _ _ _ _ _ _ hc q=>pow_int_small hc.1 hc.2.1 hc.2.2 q
theorem unI{f:Value->Sem Value}{g:Int->Int}
  (rule:∀(i:Int) (t:Tok) (s:Shared) (Q:Value->Shared->Prop) (E:Value->Shared->Prop),Q (.int (g i) s.toks) {s with toks:=s.toks+1}->wpAny (model X.prog X.w) X.A (f (.int i t)) Q E s):
  UnR X f (rU λ i=>.int (g i)):=by
 intro pins s σ H x v Q I rx h;obtain⟨i,rfl,q⟩:=h;obtain⟨t,rfl⟩:=rx;exact rule i t s _ _ ⟨.int (g i),H,I.tok _,⟨_,rfl⟩,q⟩
theorem aHX:UnR X (unaryOp .USub) (rU λ i=>.int (-i)):=unI λ _ _ _ _ _ q=>neg_int q
end
section
variable{X:Cx}{a b c:Expr}{ta tb tc:TE}{pos:Pos}
theorem aAx{pins:List (Addr×Obj)}{σ:St}{H:Hp}{s:Shared}{Q:VK}{k k':Bool}(I:Inv X pins σ H s)(q:Q (.bl k) H)(e:k=k'):EP X pins σ Q (.bool k') s:=by
 subst e;exact⟨.bl k,H,I,rfl,q⟩
theorem aJc:OpR X (compareOp .Lt) (rI0 λ i j=>.bl (decide (i<j))):=aFu λ _ _ _ _ _ _ _ q=>lt_int q
theorem aJd:OpR X (compareOp .LtE) (rI0 λ i j=>.bl (decide (i<=j))):=aFu λ _ _ _ _ _ _ _ q=>le_int q
theorem aJe:OpR X (compareOp .Gt) (rI0 λ i j=>.bl (decide (j<i))):=aFu λ _ _ _ _ _ _ _ q=>gt_int q
theorem aJf:OpR X (compareOp .GtE) (rI0 λ i j=>.bl (decide (j<=i))):=aFu λ _ _ _ _ _ _ _ q=>ge_int q
theorem aIY:OpR X (compareOp .Is) (λ x y H Q=>y= .non/\Q (.bl (decide (x= .non))) H):=by
 intro pins s σ H x y v u Q I rx ry h;obtain⟨rfl,q⟩:=h;cases ry;refine is_none_gen (aAx I q ?_);cases x<;>first
  |(cases rx;rfl)
  |(obtain⟨t,rfl⟩:=rx;rfl)
def isObj:HO->Bool
 | .lst _=>true
 | .ins _ _ _=>true
 |_=>false
theorem OpR.or{f:Value->Value->Sem Value}{r r':R2}(h:OpR X f r)(h':OpR X f r'):OpR X f (λ x y H Q=>r x y H Q\/r' x y H Q):=by
 intro pins s σ H x y v u Q I rx ry q;rcases q with q|q
 ·exact h pins s σ H x y v u Q I rx ry q
 ·exact h' pins s σ H x y v u Q I rx ry q
theorem aDs(b:Expr){op:CmpOp}(h:op≠.In:=by decide)(h2:op≠.NotIn:=by decide):behindInMarks op b=false:=by
 have e1:(op==CmpOp.In)=false:=by cases op<;>first|rfl|exact absurd rfl h
 have e2:(op==CmpOp.NotIn)=false:=by cases op<;>first|rfl|exact absurd rfl h2
 cases b<;>simp[behindInMarks,e1,e2]
theorem aFf{op:CmpOp}{r:R2}(ho:OpR X (compareOp op) r)(ha:PE X a ta)(hb:PE X b tb)(hm:behindInMarks op b=false):PE X (.Compare a [op] [b] pos) (tOp r ta tb):=by
 intro pins s σ H Q I h;exact wpAny_Compare1 (aIx ha hb I h λ v u s2 x y H2 I2 rx ry q=>ho pins s2 σ H2 x y v u Q I2 rx ry q) hm
def aGw(t:TE):TT:=λ σ H Q=>t σ H λ x H'=>∃k,x= .bl k/\Q k H'
theorem aF7{op:CmpOp}{r:R2}(ho:OpR X (compareOp op) r)(ha:PE X a ta)(hb:PE X b tb)(hm:behindInMarks op b=false):PT X (.Compare a [op] [b] pos) (aGw (tOp r ta tb)):=by
 intro pins s σ H Q I h;refine wpAny_isTrue_Compare1 (thn (ha pins s σ H _ I h) λ v s1 ⟨x,H1,I1,r1,q1⟩=>thn (hb pins s1 σ H1 _ I1 q1) λ u s2 ⟨y,H2,I2,r2,q2⟩=>
  thn (ho pins s2 σ H2 x y v u _ I2 r1 r2 q2) λ c s3 ⟨z,H3,I3,r3,k,e,q3⟩=>?_) hm
 subst e;cases r3;exact wpAny_truthy_bool ⟨H3,I3,q3⟩
def aCu(r r':R2)(ta tb tc:TE):TE:=λ σ H Q=>ta σ H λ x H1=>tb σ H1 λ y H2=>r x y H2 λ z H3=>∃k,z= .bl k/\
 (if k=true then tc σ H3 λ w' H4=>r' y w' H4 Q else Q (.bl false) H3)
theorem aDe{op op':CmpOp}{r r':R2}(ho:OpR X (compareOp op) r)(ho':OpR X (compareOp op') r')(ha:PE X a ta)(hb:PE X b tb)(hc:PE X c tc)
  (hm:lastMarks [op,op'] [b,c]=false:=by with_unfolding_all rfl):PE X (.Compare a [op,op'] [b,c] pos) (aCu r r' ta tb tc):=by
 intro pins s σ H Q I h;refine Compare_chain (thn (ha pins s σ H _ I h) λ v s1 ⟨x,H1,I1,r1,q1⟩=>chain_link (thn (hb pins s1 σ H1 _ I1 q1) λ u s2 ⟨y,H2,I2,r2,q2⟩=>
  thn (ho pins s2 σ H2 x y v u _ I2 r1 r2 q2) λ d s3 ⟨z,H3,I3,r3,k,e,q3⟩=>?_)) hm
 subst e;cases r3;refine wpAny_truthy_bool ?_;cases k with
 |false=>exact ite_ff ⟨.bl false,H3,I3,rfl,q3⟩
 |true=>exact ite_tt (chain_last (thn (hc pins s3 σ H3 _ I3 q3) λ w' s4 ⟨z',H4,I4,r4,q4⟩=>ho' pins s4 σ H4 y z' u w' Q I4 r2 r4 q4))
def aIz(K:PySem.W.Frag)(x:V)(H:Hp)(k:Bool):Prop:=
 match x with
 | .non=>k=false
 | .bl b=>k=b
 | .int i=>k=(i !=0)
 | .str y=>y.length<=sizeLine/\k=((y.length:Int)!=0)
 | .byt y=>y.size<=sizeLine/\k=((y.size:Int)!=0)
 | .ref p=>(∃xs,SqL K H p xs/\k= !xs.isEmpty)\/(∃xs,SqT K H p xs/\k= !xs.isEmpty)\/∃kvs,H p=some (.dK kvs)/\k= !kvs.isEmpty
 |_=>False
theorem aAs{κ:Type}{kvs:List (κ×V)}{vs:List (κ×Value)}(r:KV kvs vs):(!vs.isEmpty)= !kvs.isEmpty:=by
 cases r<;>rfl
theorem t8{xs:List V}{its:List Value}(r:Vals xs its):(!its.toArray.isEmpty)= !xs.isEmpty:=by
 cases r<;>simp
theorem pO:(sizeLine:Nat)<2^63:=by rw[sizeLine_eq];decide
theorem aH3:aK2 X (λ x H Q=>∃k,aIz X.K x H k/\Q k H):=by
 intro pins s σ H x v Q I rx h;obtain⟨k,e,q⟩:=h;have hl:=pO;have hs:sizeLine=16777216:=sizeLine_eq;cases x with
 |non=>
  cases rx;have e':k=false:=e;subst e';exact truthy_none ⟨H,I,q⟩
 |bl b=>
  cases rx;have e':k=b:=e;subst e';exact wpAny_truthy_bool ⟨H,I,q⟩
 |int i=>
  obtain⟨t,rfl⟩:=rx;have e':k=(i !=0):=e;subst e';exact PySem.P.truthy_int ⟨H,I,q⟩
 |str y=>
  obtain⟨t,rfl⟩:=rx;obtain⟨hy,e'⟩:y.length<=sizeLine/\k=((y.length:Int)!=0):=e;subst e';exact PySem.P.truthy_str (by omega) ⟨H,I.tok _,q⟩
 |byt y=>
  obtain⟨t,rfl⟩:=rx;obtain⟨hy,e'⟩:y.size<=sizeLine/\k=((y.size:Int)!=0):=e;subst e';exact PySem.W.truthy_bytes (by omega) ⟨H,I.tok _,q⟩
 |ref p=>
  cases rx;have e':(∃xs,SqL X.K H p xs/\k= !xs.isEmpty)\/(∃xs,SqT X.K H p xs/\k= !xs.isEmpty)\/∃kvs,H p=some (.dK kvs)/\k= !kvs.isEmpty:=e
  rcases e' with ⟨xs,hx,e'⟩|⟨xs,hx,e'⟩|⟨kvs,hx,e'⟩
  ·subst e'
   obtain⟨its,r,pl,hz⟩:=I.list hx;have hlen:=r.length;exact wpAny_truthy_list pl.isList (by simp only[List.size_toArray];omega) ⟨H,I.tok _,by rw[t8 r];exact q⟩
  ·subst e'
   obtain⟨its,r,pl,hz⟩:=I.tuple hx;have hlen:=r.length;exact truthy_tuple pl (by simp only[List.size_toArray];omega) ⟨H,I.tok _,by rw[t8 r];exact q⟩
  ·subst e'
   obtain⟨hz,hS,vs,r,m⟩:kvs.length<=sizeLine/\(p==sysModules)=false/\∃vs,KV kvs vs/\s.heap.DictOf (xO X.prog X.w) p vs:=I.hok p _ hx
   have hlen:kvs.length=vs.length:=Paired.length r;exact wpAny_truthy_dict hS m (by omega) ⟨H,I.tok _,by rw[aAs r];exact q⟩
 |_=>exact(show False from e).elim
theorem aD2(ha:PE X a ta)(he:∀whole,isTrue a X.env whole=(do let v <-whole;standAt a.pos;holding [v] (truthy v))):
  PT X a (λ σ H Q=>ta σ H λ x H'=>∃k,aIz X.K x H' k/\Q k H'):=by
 intro pins s σ H Q I h;exact isTrue_plain (thn (ha pins s σ H _ I h) λ v s1 ⟨x,H1,I1,r1,q1⟩=>aH3 pins s1 σ H1 x v Q I1 r1 q1) (he _)
theorem vals1{x:V}{us:List Value}(r:Vals [x] us):∃u,us=[u]/\RelV x u:=by
 cases r with
 |cons r1 r2=>cases r2;exact⟨_,rfl,r1⟩
theorem vals2{x y:V}{us:List Value}(r:Vals [x,y] us):∃u w',us=[u,w']/\RelV x u/\RelV y w':=by
 cases r with
 |cons r1 r2=>
  cases r2 with
  |cons r3 r4=>cases r4;exact⟨_,_,rfl,r1,r3⟩
theorem aCg(hc:X.calm=true):bx X (.builtin "max") (λ xs H Q=>∃i j,xs=[.int i,.int j]/\Q (.int (if j>i then j else i)) H):=by
 intro pins s σ H xs us Q I r h;obtain⟨i,j,rfl,q⟩:=h;obtain⟨u,w',rfl,⟨t,rfl⟩,⟨t',rfl⟩⟩:=vals2 r;refine max_two_ints (I.ok.hd hc) λ h' tk k=>⟨_,H,I.kept k,?_,q⟩
 by_cases hj:j>i
 ·rw[if_pos hj,if_pos hj];exact⟨_,rfl⟩
 ·rw[if_neg hj,if_neg hj];exact⟨_,rfl⟩
theorem aCf(hc:X.calm=true):bx X (.builtin "min") (λ xs H Q=>∃i j,xs=[.int i,.int j]/\Q (.int (if j<i then j else i)) H):=by
 intro pins s σ H xs us Q I r h;obtain⟨i,j,rfl,q⟩:=h;obtain⟨u,w',rfl,⟨t,rfl⟩,⟨t',rfl⟩⟩:=vals2 r;refine min_two_ints (I.ok.hd hc) λ h' tk k=>⟨_,H,I.kept k,?_,q⟩
 by_cases hj:j<i
 ·rw[if_pos hj,if_pos hj];exact⟨_,rfl⟩
 ·rw[if_neg hj,if_neg hj];exact⟨_,rfl⟩
end
structure aGq(h:Heap)(x dx C:Addr)(mA:Str->Option Value):Prop where
 obj:h.get? x=some (PySem.W.instObj C dx)
 ns:h.Ns1 dx mA
 ne:dx≠x
theorem aCW{h:Heap}{dx:Addr}{mA:Str->Option Value}(n:h.Ns1 dx mA):∃od,h.get? dx=some od/\∀name,PySem.W.lookIn name od=some (mA name):=by
 obtain⟨o,es,ep,ho,hd,hk,_,hm⟩:=n;refine⟨o,ho,λ name=>?_⟩;have e:=hm name;unfold nsFind findBy at e;rw[<-Array.find?_toList]at e;unfold PySem.W.lookIn;rw[hd];dsimp only;split
 ·rename_i y q
  rw[q]at e;exact congrArg some e
 ·rename_i q
  rw[q]at e;have a:es.toList.any (·.refKey)=false:=by
   rw[List.any_eq_false];intro y hy;obtain⟨z,t,hkey⟩:=hk y (Array.mem_toList_iff.mp hy);simp[DictEntry.refKey,hkey]
  have a':¬es.toList.any (·.refKey)=true:=by rw[a];exact Bool.false_ne_true
  rw[if_neg a'];exact congrArg some e
theorem aGq.look{h:Heap}{x dx C:Addr}{mA:Str->Option Value}(I:aGq h x dx C mA):∃od,PySem.W.InstAt h x (PySem.W.instObj C dx) C (some od)/\∀name,PySem.W.lookIn name od=some (mA name):=
 let⟨od,ho,hl⟩:=aCW I.ns
 ⟨od,⟨I.obj,rfl,rfl,ho⟩,hl⟩
section
variable{prog:Program}{w:World}{A:Around}{E:Value->Shared->Prop}{s:Shared}{K:PySem.W.Frag}{x dx C f:Addr}{mA:Str->Option Value}{name:Str}{v:Value}
theorem aE9{pl:Sem Bool}{Q:Value×List Value->Shared->Prop}(X:K.In s.heap)(I:aGq s.heap x dx C mA)(hg:PySem.W.plainGet K C name=true)
  (hf:PySem.W.findIn K (.ref C) name=some (some (.ref f)))(ht:PySem.W.isFn K (.ref f)=true)(hv:mA name=none)(h:Q (.ref f,[.ref x]) s):
  wpAny (model prog w) A (getMethod (.ref x) name pl) Q E s:=by
 obtain⟨od,J,hl⟩:=I.look;exact PySem.W.method_fn X J (PySem.W.plainGet_of hg).1 (PySem.W.plainGet_of hg).2 hf (beq_iff_eq.mp ht) (by show(PySem.W.lookIn name od).map (·.isSome)=some false;rw[hl,hv];rfl) h
theorem make_map{R:Result->Shared->Prop}{vs:List Value}{kw:List (Str×Value)}(X:K.In s.heap)(hm:PySem.W.makesIn K C=true)
  (hi:PySem.W.findIn K (.ref C) "__init__"=some (some (.ref f)))(hf:PySem.W.typeIn K (.ref f)=some (.type "function"))
  (h:codeAny (model prog w) (A.under (.builtin "type.__call__" ⟨.ref C::vs,kw⟩)) (.call (.ref f) ⟨.ref (s.heap.objs.size+1)::vs,kw⟩) (PySem.W.InitBack (s.heap.objs.size+1) R)
   {s with heap:=(s.heap.push PySem.W.emptyDict).push (PySem.W.instObj C s.heap.objs.size)}):
  codeAny (model prog w) A (.call (.ref C) ⟨vs,kw⟩) R s:=by
 obtain⟨hh,g,d,t,os⟩:=s;exact PySem.W.make_core (PySem.W.makes_of X hm) (PySem.W.looks_findIn X hi) (λ self=>PySem.W.bind_fn X self hf) (.inl rfl) h
end
theorem aCl.none_of{o:Option Value}(r:aCl none o):o=none:=by
 cases o with
 |none=>rfl
 |some u=>exact(show False from r).elim
section
variable{P:Program}{w:World}{H H':Hp}{h h':Heap}{a C dx:Addr}{fs fs':List (Str×V)}
theorem rH(hok:HOk P w H h)(e:H a=some (.ins C dx fs)):∃mA,aGq h a dx C mA/\(∀f,aCl (fs.lookup f) (mA f))/\PySem.Within mA (fs.map (·.1))/\fs.length<=1000/\H dx=some (.own a):=by
 obtain⟨d,z,ne,ob,mA,n,r,q⟩:=(show cX P w H h a (.ins C dx fs)from hok a _ e);exact⟨mA,⟨ob,n,ne⟩,r,q,z,d⟩
end
structure Cls(K:PySem.W.Frag)(C:Addr):Prop where
 pg:PySem.W.plainGet K C Str.empty=true
 hd:PySem.W.hasDictIn K C=true
 po:PySem.W.plainOver K C=true
 sa:PySem.W.findIn K (.ref C) "__setattr__"=some (some (.builtin "object.__setattr__"))
theorem Cls.get{K:PySem.W.Frag}{C:Addr}(c:Cls K C)(f:Str):PySem.W.plainGet K C f=true:=c.pg
def aJE(K:PySem.W.Frag)(C:Addr)(f:Str):Prop:=PySem.W.findIn K (.ref C) f=some none
structure Meth(K:PySem.W.Frag)(C:Addr)(m:Str)(f:Addr):Prop where
 at_:PySem.W.findIn K (.ref C) m=some (some (.ref f))
 fn:PySem.W.isFn K (.ref f)=true
 kp:PySem.W.keepIn K (.ref f)=true
section
variable{X:Cx}{pins:List (Addr×Obj)}{σ:St}{H:Hp}{s:Shared}{a C dx:Addr}{fs:List (Str×V)}{f:Str}{v:V}{A:Around}{E:Value->Shared->Prop}
theorem aAv{m:Str}{g:Addr}{pl:Sem Bool}{Q:Value×List Value->Shared->Prop}(I:Inv X pins σ H s)(e:H a=some (.ins C dx fs))(c:Cls X.K C)(k:Meth X.K C m g)(l:fs.lookup m=none)
  (h:Q (.ref g,[.ref a]) s):wpAny (model X.prog X.w) A (getMethod (.ref a) m pl) Q E s:=by
 obtain⟨mA,O,r,_,_,_⟩:=rH I.hok e;have hn:mA m=none:=aCl.none_of (by rw[<-l];exact r m);exact aE9 I.kIn O (c.get m) k.at_ k.fn hn h
theorem Inv.made(I:Inv X pins σ H s):Inv X pins σ (upd (upd H s.heap.objs.size (.own (s.heap.objs.size+1))) (s.heap.objs.size+1) (.ins C s.heap.objs.size []))
  {s with heap:=(s.heap.push PySem.W.emptyDict).push (PySem.W.instObj C s.heap.objs.size)}:=by
 have e1:(s.heap.push PySem.W.emptyDict).get? s.heap.objs.size=some PySem.W.emptyDict:=Heap.get?_push_size s.heap rfl;have e2:((s.heap.push PySem.W.emptyDict).push (PySem.W.instObj C s.heap.objs.size)).get? (s.heap.objs.size+1)=some (PySem.W.instObj C s.heap.objs.size):=by
  have:=Heap.get?_push_size (s.heap.push PySem.W.emptyDict) (o:=PySem.W.instObj C s.heap.objs.size) rfl
  rwa [Heap.size_push]at this
 have e3:(s.heap.push PySem.W.emptyDict).Ns s.heap.objs.size (λ _=>none):=⟨PySem.W.emptyDict,#[],_,e1,rfl,(λ e he=>absurd he (by simp)),λ _=>rfl⟩;have I1:=I.laid (a:=s.heap.objs.size) (o:=.own (s.heap.objs.size+1)) (h':=s.heap.push PySem.W.emptyDict) (t':=s.toks) (λ b u q=>Heap.get?_push_of_some _ q) (Nat.le_refl _) ⟨_,e1⟩;refine I1.laid (a:=s.heap.objs.size+1) (o:=.ins C s.heap.objs.size []) (t':=s.toks) (λ b u q=>Heap.get?_push_of_some _ q) (Nat.le_of_eq (Heap.size_push _ _)) ?_;have ne:s.heap.objs.size≠s.heap.objs.size+1:=Nat.ne_of_lt (Nat.lt_succ_self _);refine⟨by rw[aa ne,ao],Nat.zero_le _,ne,e2,λ _=>none,(Heap.Ns1.of_empty e3).at λ o q=>Heap.get?_push_of_some _ q,λ _=>True.intro,λ y hy=>absurd rfl hy⟩
end
def tFld(K:PySem.W.Frag)(ta:TE)(f:Str):TE:=λ σ H Q=>ta σ H λ x H1=>∃a C dx fs v,x= .ref a/\H1 a=some (.ins C dx fs)/\Cls K C/\aJE K C f/\fs.lookup f=some v/\Q v H1
section
variable{X:Cx}{o e value:Expr}{f:Str}{pos pos' tpos:Pos}{ta tv:TE}
theorem methcall_of{pl:Sem Bool}{m:Str}{apos:Pos}{args:List Expr}{pins:List (Addr×Obj)}{s:Shared}{σ:St}{H:Hp}{Q:Value->Shared->Prop}{te:TE}(he:PE X e te)(I:Inv X pins σ H s)
  (h:te σ H λ x H1=>∃a C dx fs g,x= .ref a/\H1 a=some (.ins C dx fs)/\Cls X.K C/\Meth X.K C m g/\fs.lookup m=none/\
   ∀s1,Inv X pins σ H1 s1->wpAny (model X.prog X.w) X.A (callWith pos (.ref g) [.ref a] (backTo pos (starEach args X.env)) (backToKw pos (keywordEach [] X.env))) Q X.xe s1)
  (ht:eval (.Call (.Attribute e m apos) args [] pos) X.env=(do
   let ov <-eval e X.env
   standAt apos.atName
   let(f,first) <-holding [ov] (getMethod ov m pl)
   callWith pos f first (backTo pos (starEach args X.env)) (backToKw pos (keywordEach [] X.env)))):
  wpAny (model X.prog X.w) X.A (eval (.Call (.Attribute e m apos) args [] pos) X.env) Q X.xe s:=by
 refine PySem.W.methodCall_KW (pl:=pl) (thn (he pins s σ H _ I h) λ u s1 ⟨x,H1,I1,rx,a,C,dx,fs,g,ex,ea,c,k,l,q⟩=>?_) ht;subst ex;obtain rfl:u=Value.ref a:=rx;exact aAv I1 ea c k l (q s1 I1)
end
section
variable{X:Cx}{pins:List (Addr×Obj)}{σ:St}{H:Hp}{s:Shared}{A:Around}{E:Value->Shared->Prop}{Q:Value->Shared->Prop}{c:Value}{b:Bool}
inductive qD(K:PySem.W.Frag)(H:Hp):V->Value->Prop where
 |non:qD K H .non (.type "NoneType")
 |bl (x:Bool):qD K H (.bl x) (.type "bool")
 |int (i:Int):qD K H (.int i) (.type "int")
 |str (x:Str):qD K H (.str x) (.type "str")
 |flt (x:UInt64):qD K H (.flt x) (.type "float")
 |lst {a:Addr} {xs:List V} (e:H a=some (.lst xs)):qD K H (.ref a) (.type "list")
 |frz {a:Addr} {o:Obj} {xs:List V} (e:H a=some (.frz o (.lst xs))):qD K H (.ref a) (.type "list")
 |tup {a:Addr} {xs:List V} (e:H a=some (.tup xs)):qD K H (.ref a) (.type "tuple")
 |dK {a:Addr} {kvs:List (Key×V)} (e:H a=some (.dK kvs)):qD K H (.ref a) (.type "dict")
 |dT {a:Addr} {kvs:List (List Key×V)} (e:H a=some (.dT kvs)):qD K H (.ref a) (.type "dict")
 |ins {a C dx:Addr} {fs:List (Str×V)} (e:H a=some (.ins C dx fs)) (cl:Cls K C) (ha:PySem.W.findIn K (.ref C) "__class__"=some (some (.builtin "object.__class__")))
   (hn:PySem.W.specialIn K (.builtin "object.__class__") "__get__"=some (some (.builtin "getset_descriptor.__get__"))) (htk:PySem.W.takesIn K (.builtin "object.__class__")=some true)
   (hm:PySem.W.mroIn K C (.type "object")=some true):qD K H (.ref a) (.ref C)
theorem aC3{x:V}{u t:Value}(I:Inv X pins σ H s)(rx:RelV x u)(ty:qD X.K H x t)(e:PySem.W.kitOne X.K t c=some b)(h:∀tk,Q (.bool b) {s with toks:=tk}):
  wpAny (model X.prog X.w) A (call (.builtin "isinstance") [u,c]) Q E s:=by
 cases ty with
 |non=>cases (show u=Value.none from rx);exact PySem.W.kia_one PySem.W.kitx_none I.kIn True.intro e (λ z=>nomatch z) h
 |bl y=>cases (show u=Value.bool y from rx);exact PySem.W.kia_one PySem.W.kitx_bool I.kIn True.intro e (λ z=>nomatch z) h
 |int i=>obtain⟨t,q⟩:=(show∃t,u=Value.int i t from rx);cases q;exact PySem.W.kia_one PySem.W.kitx_int I.kIn True.intro e (λ z=>nomatch z) h
 |str y=>obtain⟨t,q⟩:=(show∃t,u=Value.str y t from rx);cases q;exact PySem.W.kia_one PySem.W.kitx_str I.kIn True.intro e (λ z=>nomatch z) h
 |flt y=>obtain⟨t,q⟩:=(show∃t,u=Value.float y t from rx);cases q;exact PySem.W.kia_one PySem.W.kitx_float I.kIn True.intro e (λ z=>nomatch z) h
 |@lst a xs ea=>
  cases (show u=Value.ref a from rx);obtain⟨_,_,n,_,h1⟩:=(show cX X.prog X.w H s.heap a (.lst xs)from I.hok a _ ea);exact PySem.W.kia_one PySem.W.kitx_list I.kIn ⟨_,h1,rfl⟩ e (λ z=>nomatch z) h
 |@frz a ob xs ea=>
  cases (show u=Value.ref a from rx);obtain⟨_,_,_,n,_,h1⟩:=(show cX X.prog X.w H s.heap a (.frz ob (.lst xs))from I.hok a _ ea);exact PySem.W.kia_one PySem.W.kitx_list I.kIn ⟨_,h1,rfl⟩ e (λ z=>nomatch z) h
 |@tup a xs ea=>
  cases (show u=Value.ref a from rx);obtain⟨_,_,_,p⟩:=(show cX X.prog X.w H s.heap a (.tup xs)from I.hok a _ ea);obtain⟨o,h1,h2,_⟩:=p;exact PySem.W.kia_one PySem.W.kitx_tuple I.kIn ⟨o,h1,h2⟩ e (λ z=>nomatch z) h
 |@dK a kvs ea=>
  cases (show u=Value.ref a from rx);obtain⟨_,_,vs,_,p⟩:=(show cX X.prog X.w H s.heap a (.dK kvs)from I.hok a _ ea);obtain⟨o,es,ep,h1,h2,_⟩:=p;exact PySem.W.kia_one PySem.W.kitx_dict I.kIn ⟨o,h1,h2.1⟩ e (λ z=>nomatch z) h
 |@dT a kvs ea=>
  cases (show u=Value.ref a from rx);obtain⟨_,_,xs,_,o,es,ep,h1,h2,_⟩:=(show cX X.prog X.w H s.heap a (.dT kvs)from I.hok a _ ea);exact PySem.W.kia_one PySem.W.kitx_dict I.kIn ⟨o,h1,h2.1⟩ e (λ z=>nomatch z) h
 |@ins a C dx fs ea cl ha hn htk hm=>
  cases (show u=Value.ref a from rx);obtain⟨mA,O,_⟩:=rH I.hok ea;obtain⟨od,J,_⟩:=O.look;exact PySem.W.kia_one (PySem.W.kitx_own (cl.get _) cl.hd ha hn htk hm) I.kIn J e (λ z=>nomatch z) h
end
structure dG(k:Nat)(A:Around):Prop where
 hd:A.handled=none
 dp:A.depth+3*k+5<recursionLimit
 un:A.units+16*k+200<cLine
theorem dG.mono{j k:Nat}{A:Around}(r:dG k A)(h:j<=k):dG j A:=⟨r.hd,by have:=r.dp;omega,by have:=r.un;omega⟩
theorem dG.deeper{k:Nat}{A:Around}(r:dG (k+1) A)(env:Env):dG k (A.deeper env):=
 ⟨r.hd,by have:=r.dp;show A.depth+1+3*k+5<_;omega,by have:=r.un;show A.units+3+16*k+200<_;omega⟩
theorem dG.depth{k:Nat}{A:Around}(r:dG k A):A.depth<recursionLimit:=by have:=r.dp;omega
theorem dG.units{k:Nat}{A:Around}(r:dG k A):A.units+64<cLine:=by have:=r.un;omega
theorem dG.units0{k:Nat}{A:Around}(r:dG k A):A.units<cLine:=by have:=r.un;omega
def lA:TA:=λ _ H Q=>Q [] H
def gZ(ta:TE)(tr:TA):TA:=λ σ H Q=>ta σ H λ x H1=>tr σ H1 λ xs H2=>Q (x::xs) H2
section
variable{X:Cx}{e:Expr}{es:List Expr}{te:TE}{t:TA}{pos:Pos}
theorem cF:PA X [] lA:=λ _ _ _ _ H Q I h=>Calls.spliced_nil ⟨[],H,I,.nil,h⟩
theorem aZ(ha:PE X e te)(hr:PA X es t)(hs:starEach (e::es) X.env=(false,eval e X.env)::starEach es X.env:=by rfl):PA X (e::es) (gZ te t):=by
 intro pos pins s σ H Q I h;rw[hs];show wpAny _ _ (spliced ((false,eval e X.env)::backTo pos (starEach es X.env))) _ _ s;refine Calls.spliced_cons (thn (ha pins s σ H _ I h) λ u s1 ⟨x,H1,I1,r1,q1⟩=>?_);exact thn (hr pos pins s1 σ H1 _ I1 q1) λ us s2 ⟨xs,H2,I2,r2,q2⟩=>⟨x::xs,H2,I2,.cons r1 r2,q2⟩
def aKJ(t:TA):TE:=λ σ H Q=>t σ H λ xs H1=>xs.length<=sizeLine/\∀p,H1 p=none->Q (.ref p) (upd H1 p (.tup xs))
def aKN(t:TA):TE:=λ σ H Q=>t σ H λ xs H1=>xs.length<=sizeLine/\∀p,H1 p=none->Q (.ref p) (upd H1 p (.lst xs))
theorem aIB{x1}(h:PA X es t):PE X (.Tuple es x1 pos) (aKJ t):=by
 intro pins s σ H Q I hq;refine wpAny_Tuple_spliced (thn (h pos pins s σ H _ I hq) λ us s1 ⟨xs,H1,I1,r,z,q⟩=>⟨by rw[<-r.length];exact z,?_⟩);have hf:H1 s1.heap.objs.size=none:=I1.hok.fresh (Nat.le_refl _);refine⟨.ref s1.heap.objs.size,upd H1 s1.heap.objs.size (.tup xs),I1.laid (t':=s1.toks) (λ b u e=>Heap.get?_push_of_some _ e) (Nat.le_refl _) ?_,rfl,q _ hf⟩;exact⟨z,us,r,⟨_,Heap.get?_push_size _ rfl,rfl,_,rfl⟩⟩
theorem aIE(h:PA X es t):PE X (.List es pos) (aKN t):=by
 intro pins s σ H Q I hq;refine wpAny_List_spliced (thn (h pos pins s σ H _ I hq) λ us s1 ⟨xs,H1,I1,r,z,q⟩=>⟨by rw[<-r.length];exact z,?_⟩);have hf:H1 s1.heap.objs.size=none:=I1.hok.fresh (Nat.le_refl _);refine⟨.ref s1.heap.objs.size,upd H1 s1.heap.objs.size (.lst xs),I1.laid (t':=s1.toks) (λ b u e=>Heap.get?_push_of_some _ e) (Nat.le_refl _) ?_,rfl,q _ hf⟩;exact⟨z,us,0,r,Heap.get?_push_size _ rfl⟩
end
abbrev Sp:=List V->Hp->VK->XK->Prop
abbrev CXT:=List Env->Hp->Shared->XK->Value->Shared->Prop
structure zx(P:Program)(w:World)(K:PySem.W.Frag)(mg:Str->Option Value)(base:Heap)(A:Around)(outer:List Env)(s:Shared)(H:Hp):Prop where
 frames:A.frames=some outer
 mod:Mod K mg base
 bs:∀b o,base.get? b=some o->s.heap.get? b=some o/\H b=none
 bsz:base.objs.size<=s.heap.objs.size
 funs:s.heap.FunFrames base outer
 frf:∀b∈frs outer,H b=none
 hok:HOk P w H s.heap
 bare:AllBare s.gens
def CE(outer:List Env)(P:Program)(w:World)(H:Hp)(s:Shared)(Q:VK)(u:Value)(s':Shared):Prop:=
 ∃v H',s'.os=s.os/\AllBare s'.gens/\Un (frs outer) [] H H' s.heap s'.heap/\HOk P w H' s'.heap/\RelV v u/\Q v H'
def CR(CX:CXT)(outer:List Env)(P:Program)(w:World)(H:Hp)(s:Shared)(Q:VK)(E:XK)(r:Result)(s':Shared):Prop:=
 match r with
 | .ok (.ret u)=>CE outer P w H s Q u s'
 | .ok _=>False
 | .error e=>CX outer H s E e s'
structure cg(P:Program)(w:World)(K:PySem.W.Frag)(mg:Str->Option Value)(base:Heap)(CX:CXT)(k:Nat)(f:Addr)(fd:FuncData)(ps:List Str)(sp:Sp):Prop where
 len:∀vs H Q E,sp vs H Q E->vs.length=ps.length
 run:∀(A:Around) (outer:List Env) (s:Shared) (H:Hp) (args:Args) (us:List Value) (vs:List V) (Q:VK) (E:XK),dG k A->zx P w K mg base A outer s H->BindsTo s fd args (ps.zip us)->Vals vs us->sp vs H Q E->
  codeAny (model P w) A (.call (.ref f) args) (CR CX outer P w H s Q E) s
section
variable{X:Cx}{pins:List (Addr×Obj)}{σ:St}{H:Hp}{s s':Shared}
theorem Inv.env0(I:Inv X pins σ H s):zx X.prog X.w X.K X.mg X.base X.A X.stack s H:=
 ⟨I.ok.frames,I.ok.mod,I.bs,Nat.le_trans I.ok.bsz I.sz,I.stack,I.stkFree,I.hok,I.bare⟩
theorem Inv.after{Q:VK}{u:Value}(I:Inv X pins σ H s)(h:CE X.stack X.prog X.w H s Q u s'):EP X pins σ Q u s':=by
 obtain⟨v,H',os,bare,un,hok,r,q⟩:=h;obtain⟨hh,g,d,t,os'⟩:=s';obtain rfl:os'=s.os:=os;exact⟨v,H',I.call (h':=hh) (g':=g) (d':=d) (t':=t) (ch:=[]) un hok bare (λ b z=>absurd z (by simp)),r,q⟩
end
def yN(sp:Sp)(dvs:List V)(E:XK)(t:TA):TE:=λ σ H Q=>t σ H λ vs H1=>sp (vs++dvs) H1 Q E
def tMeth(C:Addr)(m:Str)(sp:Sp)(dvs:List V)(E:XK)(ta:TE)(t:TA):TE:=λ σ H Q=>ta σ H λ x H1=>∃a dx fs,x= .ref a/\H1 a=some (.ins C dx fs)/\fs.lookup m=none/\
 t σ H1 λ vs H2=>sp (x::(vs++dvs)) H2 Q E
def tMake(C:Addr)(sp:Sp)(dvs:List V)(E:XK)(t:TA):TE:=λ σ H Q=>t σ H λ vs H1=>∀x dx,H1 x=none->H1 dx=none->dx≠x->
 sp (.ref x::(vs++dvs)) (upd (upd H1 dx (.own x)) x (.ins C dx [])) (λ v H2=>v= .non/\Q (.ref x) H2) E
def Binds(K:PySem.W.Frag)(fd:FuncData)(ps:List Str)(ds:List Value):Prop:=
 ∀(s:Shared) (us:List Value),K.In s.heap->(us++ds).length=ps.length->BindsTo s fd ⟨us,[]⟩ (ps.zip (us++ds))
theorem Binds.all{K:PySem.W.Frag}{fd:FuncData}{ps:List Str}(h:∀us:List Value,us.length=ps.length->bindArgs fd ⟨us,[]⟩=pure (ps.zip us)):Binds K fd ps []:=λ s us _ hl=>by
 rw[List.append_nil]at hl ⊢;exact .of_eq (h us hl)
def nU(CX:CXT)(X:Cx)(E:XK):Prop:=∀(pins:List (Addr×Obj)) (σ:St) (H:Hp) (s:Shared) (e:Value) (s':Shared),Inv X pins σ H s->CX X.stack H s E e s'->X.xe e s'
section
variable{X:Cx}{CX:CXT}{k:Nat}{f C:Addr}{fd:FuncData}{ps:List Str}{sp:Sp}{dvs:List V}{ds:List Value}{E:XK}{x m:Str}{p pos apos:Pos}{e o:Expr}{es:List Expr}{ta:TE}{t:TA}
theorem aDN{pins:List (Addr×Obj)}{σ:St}{H:Hp}{s:Shared}{Q:VK}{us:List Value}{vs:List V}(F:cg X.prog X.w X.K X.mg X.base CX k f fd ps sp)(hr:dG k X.A)(hb:Binds X.K fd ps ds)(hd:Vals dvs ds)(hx:nU CX X E)
  (I:Inv X pins σ H s)(r:Vals vs us)(h:sp (vs++dvs) H Q E):wpAny (model X.prog X.w) X.A (call (.ref f) us) (EP X pins σ Q) X.xe s:=by
 have r2:Vals (vs++dvs) (us++ds):=r.append hd;have hl:(us++ds).length=ps.length:=by rw[<-r2.length];exact F.len _ _ _ _ h
 refine wpAny_call (codeAny_mono (F.run X.A X.stack s H ⟨us,[]⟩ (us++ds) (vs++dvs) Q E hr I.env0 (hb s us I.kIn hl) r2 h) λ r s' hq=>?_);cases r with
 |error e=>exact hx pins σ H s e s' I hq
 |ok fl=>
  cases fl with
  |ret u=>exact I.after hq
  |next=>exact False.elim hq
  |brk=>exact False.elim hq
  |cont=>exact False.elim hq
theorem aFg(F:cg X.prog X.w X.K X.mg X.base CX k f fd ps sp)(hr:dG k X.A)(hg:Gl X x)(hm:X.mg x=some (.ref f))(hk:PySem.W.keepIn X.K (.ref f)=true)(hb:Binds X.K fd ps ds)(hd:Vals dvs ds)(hx:nU CX X E)
  (ha:PA X (e::es) t)(hdb:(x==("__debug__":Str))=false:=by decide)(he:starEach (e::es) X.env=(false,eval e X.env)::starEach es X.env:=by rfl)(hpl:(backTo pos (starEach es X.env)).any (·.1)=false:=by rfl):
  PE X (.Call (.Name x p) (e::es) [] pos) (yN sp dvs E t):=by
 intro pins s σ H Q I h;refine wpAny_Call_Name_kw (lz I hg hm ?_ hdb);refine PySem.W.callWith_K (h₀:=X.base) I.ok.mod.kin hk (thn (ha pos pins s σ H _ I h) λ us s1 ⟨vs,H1,I1,r,q⟩=>⟨I1.kIn,?_⟩) he hpl;exact aDN F hr hb hd hx I1 r q
end
section
variable{X:Cx}{CX:CXT}{k:Nat}{f C:Addr}{fd:FuncData}{ps ks:List Str}{sp:Sp}{E:XK}{x m:Str}{p pos apos kpos:Pos}{e o:Expr}{es:List Expr}{kws:List Keyword}{te ta:TE}{t tk:TA}{nm:Option Str}
variable{g:List Value->List Value->List Value}{gV:List V->List V->List V}
end
structure ak(N P:List Str)(sc:Scope):Prop where
 kind:sc.kind= .function
 co:sc.isCoroutine=false
 gen:sc.isGenerator=false
 nd:N.Nodup
 pre:N.take P.length=P
 par:∀x∈P,sc.names.lookup x=some .local\/sc.names.lookup x=some .cell
 nofree:∀y∈sc.names,y.2≠.free
theorem vf{kindOf:Str->Option NameKind}{x:Str}:∀{binds:List (Str×Value)} {m:Str->Option Value},(∀v,(x,v)∉binds)->bindL kindOf binds m x=m x
 |[],_,_=>rfl
 |(n,v)::r,m,h=>by
  unfold bindL;rw[vf λ w hw=>h w (List.mem_cons_of_mem _ hw)];split
  ·have:x≠n:=by rintro rfl;exact h v List.mem_cons_self
   simp[this]
  ·rfl
theorem vh{kindOf:Str->Option NameKind}{x:Str}:∀{binds:List (Str×Value)} {m:Str->Option Value},(∀v,(x,v)∉binds)->bindC kindOf binds m x=m x
 |[],_,_=>rfl
 |(n,v)::r,m,h=>by
  unfold bindC;rw[vh λ w hw=>h w (List.mem_cons_of_mem _ hw)];split
  ·rfl
  ·have:x≠n:=by rintro rfl;exact h v List.mem_cons_self
   simp[this]
theorem vg{kindOf:Str->Option NameKind}{x:Str}{v:Value}:∀{P:List Str} {vs:List Value} {i:Nat} {m:Str->Option Value},P.Nodup->P[i]? =some x->vs[i]? =some v->kindOf x=some .local->
  bindL kindOf (P.zip vs) m x=some v
 |[],_,_,_,_,h,_,_=>by simp at h
 |_::_,[],_,_,_,_,h,_=>by simp at h
 |p::P,w::vs,0,m,nd,h1,h2,hk=>by
  simp at h1 h2;subst h1;subst h2;show bindL kindOf ((p,w)::P.zip vs) m p=_;unfold bindL;rw[vf λ v hv=>(List.nodup_cons.mp nd).1 (List.of_mem_zip hv).1,if_pos hk];simp
 |p::P,w::vs,i+1,m,nd,h1,h2,hk=>by
  show bindL kindOf ((p,w)::P.zip vs) m x=_;unfold bindL;exact vg (i:=i) (List.nodup_cons.mp nd).2 (by simpa using h1) (by simpa using h2) hk
theorem vm{kindOf:Str->Option NameKind}{x:Str}{v:Value}:∀{P:List Str} {vs:List Value} {i:Nat} {m:Str->Option Value},P.Nodup->P[i]? =some x->vs[i]? =some v->kindOf x≠some .local->
  bindC kindOf (P.zip vs) m x=some v
 |[],_,_,_,_,h,_,_=>by simp at h
 |_::_,[],_,_,_,_,h,_=>by simp at h
 |p::P,w::vs,0,m,nd,h1,h2,hk=>by
  simp at h1 h2;subst h1;subst h2;show bindC kindOf ((p,w)::P.zip vs) m p=_;unfold bindC;rw[vh λ v hv=>(List.nodup_cons.mp nd).1 (List.of_mem_zip hv).1,if_neg hk];simp
 |p::P,w::vs,i+1,m,nd,h1,h2,hk=>by
  show bindC kindOf ((p,w)::P.zip vs) m x=_;unfold bindC;exact vm (i:=i) (List.nodup_cons.mp nd).2 (by simpa using h1) (by simpa using h2) hk
def start(N:List Str)(vs:List V):St:=vs.map some++List.replicate (N.length-vs.length) none
def qw(CX:CXT)(P:Program)(w:World)(K:PySem.W.Frag)(mg:Str->Option Value)(base:Heap)(N:List Str)(qual:Str)(scope:Scope)(f:Addr)(cd:Value)(A:Around)(outer:List Env)(s:Shared)(H:Hp)(E:XK):Cx where
 prog:=P
 w:=w
 K:=K
 mg:=mg
 base:=base
 A:=A.deeper (envOfC qual scope s.heap.objs.size f cd)
 N:=N
 s₀:=s
 H₀:=H
 env:=envOfC qual scope s.heap.objs.size f cd
 outer:=outer
 stack:=envOfC qual scope s.heap.objs.size f cd::outer
 ex:=[]
 calm:=true
 fn:=λ _=>true
 pn:=[]
 xe:=λ e s'=>wpAny (model P w) (A.deeper (envOfC qual scope s.heap.objs.size f cd)) (leaving (envOfC qual scope s.heap.objs.size f cd) e) (λ _ s''=>CX outer H s E e s'') (λ e' s''=>CX outer H s E e' s'') s'
theorem oU{sc:Scope}{n:Nat}{x:Str}(h:sc.names.lookup x=some .cell):∃c,(cellsFrom n sc.names []).lookup x=some c:=by
 have q:=PySem.W.cellsFrom_some sc.names n [] (.inl h);exact Option.isSome_iff_exists.mp q
theorem pW{CX:CXT}{P:Program}{w:World}{K:PySem.W.Frag}{mg:Str->Option Value}{base:Heap}{N ps:List Str}{qual:Str}{scope:Scope}{f:Addr}{cd:Value}{A:Around}{outer:List Env}{s s1:Shared}{H:Hp}{E:XK}{us:List Value}{vs:List V}
  (S:ak N ps scope)(hd:A.handled=none)(e0:zx P w K mg base A outer s H)(hl:vs.length=ps.length)(r:Vals vs us)
  (x:InCallC s s.heap.objs.size (bindL (envOfC qual scope s.heap.objs.size f cd).kindOf (ps.zip us) λ _=>none) (cellsFrom (s.heap.objs.size+1) scope.names []) (bindC (envOfC qual scope s.heap.objs.size f cd).kindOf (ps.zip us) λ _=>none) s1):
  Inv (qw CX P w K mg base N qual scope f cd A outer s H E) [] (start N vs) H s1:=by
 have hpl:ps.length<=N.length:=by have:=congrArg List.length S.pre;rw[List.length_take]at this;omega
 obtain⟨h1,tk,rfl,hk⟩:=x.done;have noA:∀b:Addr,b∉(qw CX P w K mg base N qual scope f cd A outer s H E).ex:=λ b z=>absurd (show b∈([]:List Addr)from z) (by simp)
 refine⟨⟨e0.mod,S.kind,rfl,rfl,Nat.le_refl _,λ y z c h1 h2=>?_,λ y hy=>?_,λ y c _ h=>?_,λ _=>hd,Around.frames_deeper e0.frames,.inr ⟨rfl,rfl⟩,λ b z=>absurd z (noA b),e0.bs,e0.bsz,λ b _ _=>noA b,λ b z=>absurd z (noA b),e0.funs,e0.frf⟩,
  rfl,e0.bare,Un.kept hk,⟨_,x.toInCall.ns,λ i y v h1 h2 h3=>?_⟩,λ y c h=>⟨_,x.cell y c h⟩,e0.hok.fresh (Nat.le_refl _),λ y c h=>?_,λ p hp=>absurd (show p∈([]:List (Addr×Obj))from hp) (by simp),e0.hok.kept hk,?_,λ p hp=>absurd (show p∈([]:List (Addr×Obj))from hp) (by simp)⟩
 ·exact name_of_addr x.apart (PySem.mem_of_lookup h1) (PySem.mem_of_lookup h2)
 ·have hy:scope.names.lookup y=some .cell\/scope.names.lookup y=some .free:=hy
  rcases hy with hy|hy
  ·exact oU hy
  ·exact absurd rfl (S.nofree _ (PySem.mem_of_lookup hy))
 ·exact Nat.le_of_lt (x.above y c (PySem.mem_of_lookup h))
 ·have hi:i<vs.length:=by
   unfold start at h2;by_cases hi:i<vs.length
   ·exact hi
   ·rw[List.getElem?_append_right (by simpa using hi)]at h2
    rw[List.getElem?_replicate]at h2;split at h2<;>cases h2
  have ha:vs[i]? =some v:=by
   unfold start at h2;rw[List.getElem?_append_left (by simpa using hi),List.getElem?_map]at h2;cases e:vs[i]? with
   |none=>rw[e]at h2;cases h2
   |some a=>rw[e]at h2;cases h2;rfl
  obtain⟨u,hu,rv⟩:=r.get ha;have hp:ps[i]? =some y:=by
   rw[<-S.pre,List.getElem?_take_of_lt (by omega)];exact h1
  have ndP:ps.Nodup:=by rw[<-S.pre];exact S.nd.sublist (List.take_sublist _ _)
  refine⟨u,rv,?_⟩;rcases S.par y (List.mem_of_getElem? hp)with k|k
  ·exact .inl ⟨k,vg ndP hp hu k⟩
  ·obtain⟨c,e⟩:=oU (n:=s.heap.objs.size+1) k
   refine .inr ⟨.inl k,c,e,?_⟩;have q:=x.cell y c e;rw[vm ndP hp hu (by show scope.names.lookup y≠_;rw[k];decide)]at q;exact q
 ·exact e0.hok.fresh (Nat.le_of_lt (x.above y c (PySem.mem_of_lookup h)))
 ·unfold start
  show _=N.length;rw[List.length_append,List.length_map,List.length_replicate];omega
theorem aJy{CX:CXT}{P:Program}{w:World}{K:PySem.W.Frag}{mg:Str->Option Value}{base:Heap}{k:Nat}{f:Addr}{name qual:Str}{params:Arguments}{body:List Stmt}{scope:Scope}{dV kV doc pm cdv ct oc:Value}{an od:Option Addr}
  {osl:Array (Option Value)}{N ps:List Str}{sp:Sp}(lk:K.lookup f=some ⟨oc,od,.func (PySem.W.fnOf name qual params body scope dV kV doc pm an cdv ct),osl⟩)(hcd:PySem.W.codeIn K cdv qual=true)(S:ak N ps scope)
  (len:∀vs H Q E,sp vs H Q E->vs.length=ps.length)
  (hbody:∀(A:Around) (outer:List Env) (s:Shared) (H:Hp) (vs:List V) (Q:VK) (E:XK),dG k (A.deeper (envOfC qual scope s.heap.objs.size f cdv))->sp vs H Q E->
   ∃t,PSs (qw CX P w K mg base N qual scope f cdv A outer s H E) body t/\t {nx:=λ _ H'=>Q .non H',rt:=Q} (start N vs) H):
  cg P w K mg base CX (k+1) f (PySem.W.fnOf name qual params body scope dV kV doc pm an cdv ct) ps sp:=by
 refine⟨len,λ A outer s H args us vs Q E hr e0 hb r hsp=>?_⟩;have hl:=len _ _ _ _ hsp;have KX:K.In s.heap:=e0.mod.kin.keeps λ b o e=>(e0.bs b o e).1
 have lim:s.heap.NoLimit:=e0.mod.nolimit.keeps λ b o e=>(e0.bs b o e).1
 have hkind:∀y∈ps.zip us,scope.names.lookup y.1=some .local\/(scope.names.lookup y.1=some .cell/\((cellsFrom (s.heap.objs.size+1) scope.names []).lookup y.1).isSome=true):=λ⟨n,v⟩ hy=>by
  rcases S.par n (List.of_mem_zip hy).1 with q|q
  ·exact .inl q
  ·exact .inr ⟨q,PySem.W.cellsFrom_some _ _ _ (.inl q)⟩
 refine codeAny_call_function hr.depth (KX _ _ lk) rfl S.co S.gen rfl (PySem.W.codeRec_of KX hcd) (hb _ _ _ _ ?_);refine wpAny_newFunctionEnv_cells S.kind hkind λ env he s1 x=>?_
 subst he;refine⟨lim.keeps x.toInCall.keep,codeAny_func ?_⟩;obtain⟨t,ht,hq⟩:=hbody A outer s H vs Q E (hr.deeper _) hsp;have I:Inv (qw CX P w K mg base N qual scope f cdv A outer s H E) [] (start N vs) H s1:=pW S hr.hd e0 hl r x;refine wpAny_mono (ht [] s1 (start N vs) H _ I hq) (λ fl s' hs=>?_) λ e s' hs=>hs
 have fin:∀{σ':St} {H':Hp} {v:V} {u:Value},Inv (qw CX P w K mg base N qual scope f cdv A outer s H E) [] σ' H' s'->RelV v u->Q v H'->CE outer P w H s Q u s':=
  λ{σ' H' v u} J rv q=>⟨v,H',J.os,J.bare,J.base,J.hok,rv,q⟩
 cases fl with
 |ret u=>
  obtain⟨v,σ',H',J,rv,q⟩:=hs;exact fin J rv q
 |next=>
  obtain⟨σ',H',J,q⟩:=hs;exact fin (v:=V.non) (u:=Value.none) J rfl q
 |brk=>
  obtain⟨_,_,_,q⟩:=hs;exact False.elim q
 |cont=>
  obtain⟨_,_,_,q⟩:=hs;exact False.elim q
section
variable{X:Cx}{x:Str}{p pos:Pos}{e:Expr}{es:List Expr}{t:TA}{id T:String}{r:List V->Hp->VK->Prop}
def tCB(r:List V->Hp->VK->Prop)(t:TA):TE:=λ σ H Q=>t σ H λ vs H1=>r vs H1 Q
theorem jX(hc:bx X (.builtin id) r)(hg:Gl X x)(hm:X.mg x=none)(hv:bootBuiltins x=some (.builtin id))(ha:PA X (e::es) t)(hn:x≠"__name__":=by decide)(hdb:(x==("__debug__":Str))=false:=by decide)
  (he:starEach (e::es) X.env=(false,eval e X.env)::starEach es X.env:=by rfl)(hpl:(backTo pos (starEach es X.env)).any (·.1)=false:=by rfl):PE X (.Call (.Name x p) (e::es) [] pos) (tCB r t):=by
 intro pins s σ H Q I h;refine wpAny_Call_Name_kw (pQ I hg hm hv ?_ hn hdb);exact PyProof.Rows.callWith_builtin1 (thn (ha pos pins s σ H _ I h) λ us s1 ⟨vs,H1,I1,r1,q1⟩=>hc pins s1 σ H1 vs us Q I1 r1 q1) he hpl
theorem lr(hc:bx X (.type T) r)(hg:Gl X x)(hm:X.mg x=none)(hv:bootBuiltins x=some (.type T))(ha:PA X (e::es) t)(hn:x≠"__name__":=by decide)(hdb:(x==("__debug__":Str))=false:=by decide)
  (he:starEach (e::es) X.env=(false,eval e X.env)::starEach es X.env:=by rfl)(hpl:(backTo pos (starEach es X.env)).any (·.1)=false:=by rfl):PE X (.Call (.Name x p) (e::es) [] pos) (tCB r t):=by
 intro pins s σ H Q I h;refine wpAny_Call_Name_kw (pQ I hg hm hv ?_ hn hdb);exact PyProof.Rows.callWith_type1 (thn (ha pos pins s σ H _ I h) λ us s1 ⟨vs,H1,I1,r1,q1⟩=>hc pins s1 σ H1 vs us Q I1 r1 q1) he hpl
theorem aA1(hc:bx X (.type T) r)(hg:Gl X x)(hm:X.mg x=none)(hv:bootBuiltins x=some (.type T))(hn:x≠"__name__":=by decide)(hdb:(x==("__debug__":Str))=false:=by decide):
  PE X (.Call (.Name x p) [] [] pos) (tCB r lA):=by
 intro pins s σ H Q I h;refine wpAny_Call_Name_kw (pQ I hg hm hv ?_ hn hdb);exact PyProof.Rows.callWith_type0 (hc pins s σ H [] [] Q I .nil h)
end
end L2
namespace HT
open PySem PyProof.Rows
def lexLt:List Int->List Int->Bool
 |[],[]=>false
 |[],_::_=>true
 |_::_,[]=>false
 |x::xs,y::ys=>if x=y then lexLt xs ys else decide (x<y)
theorem iR(x y:Int)(xs ys:List Int):lexLt (x::xs) (y::ys)=if x=y then lexLt xs ys else decide (x<y):=rfl
theorem uh:lexLt [] []=false:=rfl
theorem tV(y:Int)(ys:List Int):lexLt [] (y::ys)=true:=rfl
theorem tW(x:Int)(xs:List Int):lexLt (x::xs) []=false:=rfl
theorem zW(A:Around)(s:Shared)(a:Int)(t:Tok)(c:Int)(u:Tok):∃e,SeqAt.EqAt A s (.int a t) (.int c u) e/\(e=true↔a=c):=
 ⟨(a==c),SeqAt.EqAt.int_int a t c u,by simp⟩
theorem aDU(A:Around)(s:Shared)(a:Int)(t:Tok)(c:Int)(u:Tok)(prog:Program)(w:World)(E:Value->Shared->Prop)(Q:Value->Shared->Prop)(h:Q (.bool (decide (a<c))) s):
  wpAny (model prog w) A (richCompare .Lt (.int a t) (.int c u)) Q E s:=
 (PyProof.Rows.lt_int h:wpAny (model prog w) A (compareOp .Lt (.int a t) (.int c u)) Q E s)
section
open PySem.SeqAt
open PySem.AutoSeq1(wpAny_loadPart')
open PySem.MeetsSeq PySem.MeetsSeq2 PySem.MeetsSeq3
theorem uZ(l b:Addr)(items items2:Array Value)(n n2:Nat)(dd dd2:Option Addr)(sl sl2:Array (Option Value))(ns ms:List Int)(hi:IntsAre items.toList ns)(hj:IntsAre items2.toList ms):
  Meets (Builtin.«tuple.__lt__» ⟨[.ref l,.ref b],[]⟩)
   (λ _ R s=>s.heap.get? l=some {cls:=.type "tuple",dict:=dd,data:=.seq items n,slots:=sl}/\s.heap.get? b=some {cls:=.type "tuple",dict:=dd2,data:=.seq items2 n2,slots:=sl2}/\
    R (.ok (.ret (.bool (lexLt ns ms)))) s):=
 .of_wp λ prog w A R s h=>by
  obtain⟨hp,g,d,tk,os⟩:=s;obtain⟨hl,hb,h⟩:=h;have f2:=AutoSeq1.sub_tuple_tuple;have z1:items.size=ns.length:=by rw[<-hi.length];simp
  have z2:items2.size=ms.length:=by rw[<-hj.length];simp
  wp_walk using wpAny_loadPart' hl,wpAny_loadPart' hb,wpAny_forIn_list _ (λ rest b s'=>b.1=none/\s'=⟨hp,g,d,tk,os⟩/\∃(vs ws:List Value) (ns' ms':List Int),rest=vs.zip ws/\
   IntsAre vs ns'/\IntsAre ws ms'/\ns'.length+items2.size=ms'.length+items.size/\R (.ok (.ret (.bool (lexLt ns' ms')))) ⟨hp,g,d,tk,os⟩) _
  case turn=>
   rintro⟨y,x⟩ rest b s' ⟨hb',rfl,vs,ws,ns',ms',hz,hvi,hwi,hlen,hR⟩;cases hvi with
   |nil=>rw[List.zip_nil_left]at hz;cases hz
   |cons a t hvi'=>
    cases hwi with
    |nil=>rw[List.zip_nil_right]at hz;cases hz
    |cons c u hwi'=>
     rw[List.zip_cons_cons]at hz;injection hz with hyx hrest
     injection hyx with hy hx
     subst hy hx;rw[iR]at hR;simp only[List.length_cons]at hlen;obtain⟨e,he,hiff⟩:=zW A.in1 ⟨hp,g,d,tk,os⟩ a t c u;refine wpAny_bind (he prog w _ _ ?_);cases e with
     |true=>
      rw[if_pos (hiff.mp rfl)]at hR;wp_walk;exact⟨rfl,rfl,_,_,_,_,hrest,hvi',hwi',by omega,hR⟩
     |false=>
      rw[if_neg (λ q=>absurd (hiff.mpr q) Bool.false_ne_true)]at hR;have hri:=aDU A.in1 ⟨hp,g,d,tk,os⟩ a t c u prog w;wp_walk using hri;exact⟨_,rfl,by simpa using hR⟩
  case fin=>
   rintro⟨b1,b2⟩ s' ⟨hb',rfl,vs,ws,ns',ms',hz,hvi,hwi,hlen,hR⟩;simp only at hb';subst hb';have hv:lexLt ns' ms'=decide (items.size<items2.size):=by
    cases hvi with
    |nil=>
     cases hwi with
     |nil=>
      simp only[List.length_nil]at hlen;rw[uh];exact(decide_eq_false (by omega)).symm
     |cons c u hw=>
      simp only[List.length_nil,List.length_cons]at hlen;rw[tV];exact(decide_eq_true (by omega)).symm
    |cons a t hv=>
     cases hwi with
     |nil=>
      simp only[List.length_nil,List.length_cons]at hlen;rw[tW];exact(decide_eq_false (by omega)).symm
     |cons c u hw=>
      rw[List.zip_cons_cons]at hz;cases hz
   rw[hv]at hR;wp_walk;exact⟨_,rfl,by simpa[Builtin.Tuple.tupleCompareSizes]using hR⟩
  case h=>
   exact⟨rfl,rfl,items.toList,items2.toList,ns,ms,rfl,hi,hj,by omega,h⟩
end
section
variable{prog:Program}{w:World}{A:Around}{E:Value->Shared->Prop}{s:Shared}
theorem aAc{l b:Addr}{items items2:Array Value}{ns ms:List Int}{Q:Value->Shared->Prop}(hl:IsTup s.heap l items)(hb:IsTup s.heap b items2)(hi:IntsAre items.toList ns)(hj:IntsAre items2.toList ms)
  (hu:A.units<cLine)(h:Q (.bool (lexLt ns ms)) s):wpAny (model prog w) A (compareOp .Lt (.ref l) (.ref b)) Q E s:=by
 obtain⟨⟨cls,dd,data,sl⟩,ho,hc,n,hd⟩:=id hl;obtain⟨⟨cls2,dd2,data2,sl2⟩,ho2,hc2,n2,hd2⟩:=id hb;simp only at hc hd hc2 hd2;subst hc hd hc2 hd2;exact richCompare_meets_room (op:=.Lt) ⟨_,ho,rfl⟩ ⟨_,ho2,rfl⟩ PySem.F.slot_tuple_lt PySem.F.entry_tuple_lt (PySem.F.args_tuple_lt_2 _ _) (uZ l b items items2 n n2 dd dd2 sl sl2 ns ms hi hj)
  ⟨ho,ho2,show Value.bool (lexLt ns ms)≠Value.notImplemented/\Q (.bool (lexLt ns ms)) s from⟨(λ x=>nomatch x),h⟩⟩ hu
theorem aGi{t b:Addr}{vs ws:List Value}{Q:Value->Shared->Prop}(ht:IsTup s.heap t vs.toArray)(hb:IsTup s.heap b ws.toArray)(hv:vs≠[])
  (h1:ws=[]->Q (.ref t) s)(h2:ws≠[]->Q (.ref s.heap.objs.size) {s with heap:=s.heap.push {cls:=.type "tuple",data:=.seq (vs++ws).toArray}})
  (hsz:vs.length+ws.length<=sizeLine):wpAny (model prog w) A (binaryOp .Add (.ref t) (.ref b)) Q E s:=by
 obtain⟨⟨cls,dd,data,sl⟩,ho,hc,n,hd⟩:=id ht;obtain⟨⟨cls2,dd2,data2,sl2⟩,ho2,hc2,n2,hd2⟩:=id hb;simp only at hc hd hc2 hd2;subst hc hd hc2 hd2;have e:vs.toArray++ws.toArray=(vs++ws).toArray:=by simp
 by_cases hw:ws=[]
 ·exact concat_meets ⟨_,ho,rfl⟩ ⟨_,ho2,rfl⟩ noFill_tuple_add seq_tuple_add PySem.F.slot_tuple_add PySem.F.entry_tuple_add (PySem.F.args_tuple_add_2 _ _)
   (tuple_addW1 t b vs.toArray ws.toArray n n2 dd dd2 sl sl2 (by simpa using hv) (by simp[hw])) ⟨ho,ho2,h1 hw⟩
 ·refine concat_meets ⟨_,ho,rfl⟩ ⟨_,ho2,rfl⟩ noFill_tuple_add seq_tuple_add PySem.F.slot_tuple_add PySem.F.entry_tuple_add (PySem.F.args_tuple_add_2 _ _)
   (tuple_addW2 t b vs.toArray ws.toArray n n2 dd dd2 sl sl2 (by simpa using hv) (by simpa using hw) (by rw[List.size_toArray,List.size_toArray];exact hsz)) ⟨ho,ho2,?_⟩
  rw[e];exact h2 hw
def sIx(n d:Nat):Option Int->Nat
 |none=>d
 |some v=>if v<0 then(v+(n:Int)).toNat else min v.toNat n
theorem aHk(n d:Nat)(hd:d<=n)(o:Option Int):sIx n d o<=n:=by
 cases o with
 |none=>exact hd
 |some v=>
  show(if v<0 then(v+(n:Int)).toNat else min v.toNat n)<=n
  by_cases hv:v<0
  ·rw[if_pos hv];omega
  ·rw[if_neg hv];exact Nat.min_le_right _ _
theorem aBn(v:Int)(n d:Nat):(if v<0 then max (v+(n:Int)) 0 else min v (n:Int))=((sIx n d (some v):Nat):Int):=by
 show(if v<0 then max (v+(n:Int)) 0 else min v (n:Int))=(((if v<0 then(v+(n:Int)).toNat else min v.toNat n):Nat):Int)
 by_cases hv:v<0
 ·simp only[if_pos hv];omega
 ·simp only[if_neg hv];omega
theorem aBF(lo hi:Option Int)(n:Nat):Builtin.Slice.sliceAdjust lo hi 1 (n:Int)=(((sIx n 0 lo:Nat):Int),((sIx n n hi:Nat):Int)):=by
 have h1:¬((1:Int)<0):=by omega
 unfold Builtin.Slice.sliceAdjust;simp only[h1,if_false];refine Prod.ext ?_ ?_
 ·cases lo with
  |none=>rfl
  |some v=>exact aBn v n 0
 ·cases hi with
  |none=>rfl
  |some v=>exact aBn v n n
theorem aAZ(i j:Nat):Builtin.Slice.slicePlaces (i:Int) (j:Int) 1=j-i:=by
 unfold Builtin.Slice.slicePlaces;have h1:(1:Int)>0:=by omega
 simp only[h1,if_true,Int.ediv_one];split<;>omega
theorem rn{v:Value}{o:Option Int}{Q:Option Int->Shared->Prop}(p:IsPart v o)(h:Q o s):wpAny (model prog w) A (Builtin.Slice.slicePartIndex v) Q E s:=by
 cases p with
 |none=>exact slicePart_none h
 |int i t=>exact slicePart_int h
theorem jV{sl:Addr}{vl vu:Value}{lo hi:Option Int}{n:Nat}{Q:Int×Int×Nat->Shared->Prop}(hs:s.heap.IsSliceOf sl vl vu .none)(pl:IsPart vl lo)(pu:IsPart vu hi)
  (h:Q (((sIx n 0 lo:Nat):Int),1,sIx n n hi-sIx n 0 lo) s):wpAny (model prog w) A (Builtin.Slice.sliceApplied (.ref sl) (pure (n:Int))) Q E s:=by
 obtain⟨os,hos,hcs,hds⟩:=id hs;unfold Builtin.Slice.sliceApplied Builtin.Slice.sliceFields;refine wpAny_bind (wpAny_bind (wpAny_field hos hds (x:=vl) rfl (wpAny_bind (wpAny_field hos hds (x:=vu) rfl (wpAny_bind (wpAny_field hos hds (x:=.none) rfl (wpAny_pure ?_)))))));refine wpAny_bind (slicePart_none ?_);show wpAny _ _ (if ((1:Int)==0)=true then _ else _) _ _ s;rw[if_neg (by decide)];refine wpAny_bind (rn pl (wpAny_bind (rn pu (wpAny_bind (wpAny_pure ?_)))));show wpAny _ _ (match Builtin.Slice.sliceAdjust lo hi 1 (n:Int)with|(lo,hi)=>pure (lo,(1:Int),Builtin.Slice.slicePlaces lo hi 1)) _ _ s;rw[aBF lo hi n];show wpAny _ _ (pure (((sIx n 0 lo:Nat):Int),(1:Int),Builtin.Slice.slicePlaces ((sIx n 0 lo:Nat):Int) ((sIx n n hi:Nat):Int) 1)) _ _ s;rw[aAZ];exact wpAny_pure h
theorem aD8(xs:Array Value)(i k:Nat):((List.range k).filterMap λ(m:Nat)=>xs[((i:Int)+(m:Int)*1).toNat]?).toArray=((xs.toList.drop i).take k).toArray:=by
 have e:(λ(m:Nat)=>xs[((i:Int)+(m:Int)*1).toNat]?)=λ m=>xs[i+m]?:=by
  funext m
  have:((i:Int)+(m:Int)*1).toNat=i+m:=by omega
  rw[this]
 rw[e]
 have:=pick_run xs i k
 rw[List.filterMap_map]at this;have e2:((λ x=>xs[x]?)∘λ x=>i+x)=λ m=>xs[i+m]?:=rfl
 rw[e2]at this;rw[this]
theorem oK{t sl:Addr}{items:Array Value}{vl vu:Value}{lo hi:Option Int}{Q:Value->Shared->Prop}(ht:IsTup s.heap t items)(hs:s.heap.IsSliceOf sl vl vu .none)(pl:IsPart vl lo)(pu:IsPart vu hi)
  (hw:¬(sIx items.size 0 lo=0/\sIx items.size items.size hi=items.size))
  (h:Q (.ref s.heap.objs.size) {s with heap:=s.heap.push {cls:=.type "tuple",data:=.seq ((items.toList.drop (sIx items.size 0 lo)).take (sIx items.size items.size hi-sIx items.size 0 lo)).toArray}})
  (hsz:items.size<=sizeLine):wpAny (model prog w) A (getItem (.ref t) (.ref sl)) Q E s:=by
 have htake:sizeOk (.seq ((items.toList.drop (sIx items.size 0 lo)).take (sIx items.size items.size hi-sIx items.size 0 lo)).toArray):=by
  show((items.toList.drop (sIx items.size 0 lo)).take (sIx items.size items.size hi-sIx items.size 0 lo)).toArray.size<=sizeLine
  rw[List.size_toArray,List.length_take,List.length_drop,Array.length_toList];omega
 have hj:sIx items.size items.size hi<=items.size:=aHk _ _ (Nat.le_refl _) hi;obtain⟨os,hos,hcs,hds⟩:=id hs;have hTs:s.TypeIs (.ref sl) "slice":=⟨os,hos,hcs⟩;unfold getItem
 try with_reducible refine wpAny_holding ?_
 first|refine wpAny_bind (wpAny_pure ?_)|skip
 refine wpAny_bind (wpAny_sequenceKey ht.typeIs (by decide) ?_);refine wpAny_bind (wpAny_callSpecial?_slot (name:=Str.ofString "__getitem__") ht.typeIs PyProof.Rows.slot_tuple_getitem
  (wpAny_call_entry PyProof.Rows.slot_tuple_getitem ht.typeIs entry_tuple_getitem ?_ (args_tuple_getitem _ _)))
 show wpAny _ _ (Builtin.Tuple.tupleItemsOf (.ref t)>>=_) _ _ s;refine wpAny_bind (tupleItemsOf_ ht ?_);refine wpAny_bind (wpAny_typeOf hTs ?_);rw[if_pos (by decide)];refine wpAny_bind (jV hs pl pu ?_);have hno:¬((((sIx items.size 0 lo:Nat):Int)==0&&(1:Int)==1&&(sIx items.size items.size hi-sIx items.size 0 lo)==items.size)=true):=by
  intro q;rw[Bool.and_eq_true,Bool.and_eq_true]at q;have q1:((sIx items.size 0 lo:Nat):Int)=0:=eq_of_beq q.1.1;have q2:sIx items.size items.size hi-sIx items.size 0 lo=items.size:=eq_of_beq q.2;exact hw ⟨by omega,by omega⟩
 show wpAny _ _ (if (((sIx items.size 0 lo:Nat):Int)==0&&(1:Int)==1&&(sIx items.size items.size hi-sIx items.size 0 lo)==items.size)=true then _ else _) _ _ s;rw[if_neg hno,aD8]
 first
  |exact wpAny_bind (m:=Builtin.Tuple.tupleExact _) (wpAny_newObj_type (wpAny_pure ⟨_,rfl,wpAny_pure h⟩) htake)
  |exact wpAny_bind (m:=Builtin.Tuple.tupleExact _) (wpAny_newObj_type (wpAny_bind (wpAny_pure (wpAny_pure ⟨_,rfl,wpAny_pure h⟩))) htake)
  |exact wpAny_bind (wpAny_bind (m:=Builtin.Tuple.tupleExact _) (wpAny_newObj_type (wpAny_pure (wpAny_pure ⟨_,rfl,wpAny_pure h⟩)) htake))
  |exact wpAny_bind (wpAny_bind (m:=Builtin.Tuple.tupleExact _) (wpAny_newObj_type (wpAny_pure ⟨_,rfl,wpAny_pure h⟩) htake))
end
end HT
namespace L2
open PySem PySem.Spec PyProof.Rows
abbrev TO:=St->Hp->(Option Int->Hp->Prop)->Prop
def PO(X:Cx)(e:Option Expr)(t:TO):Prop:=
 ∀(pins:List (Addr×Obj)) (s:Shared) (σ:St) (H:Hp) (Q:Option Int->Hp->Prop),Inv X pins σ H s->t σ H Q->
  wpAny (model X.prog X.w) X.A (evalPart e X.env) (λ u s'=>∃o H',Inv X pins σ H' s'/\IsPart u o/\Q o H') X.xe s
def aFF:TO:=λ _ H Q=>Q none H
def aJM(t:TE):TO:=λ σ H Q=>t σ H λ x H1=>∃i,x= .int i/\Q (some i) H1
theorem intsAre_of{ns:List Int}:∀{us:List Value},Vals (ns.map V.int) us->IntsAre us ns:=by
 induction ns with
 |nil=>intro us r;rw[List.map_nil]at r;cases r;exact .nil
 |cons n ns ih=>
  intro us r;rw[List.map_cons]at r;cases r with
  |cons r1 r2=>
   obtain⟨t,e⟩:=r1;subst e;exact .cons n t (ih r2)
section
variable{X:Cx}{e:Expr}{te:TE}{lo hi:Option Expr}{tl th:TO}{pos p2:Pos}
theorem aFa:PO X none aFF:=by
 intro pins s σ H Q I h;rw[evalPart_none];exact wpAny_pure ⟨none,H,I,.none,h⟩
theorem aF9(h:PE X e te):PO X (some e) (aJM te):=by
 intro pins s σ H Q I hw;rw[evalPart_some];refine thn (h pins s σ H _ I hw) λ u s1 ⟨x,H1,I1,r1,q1⟩=>?_
 obtain⟨i,rfl,q⟩:=q1;obtain⟨t,rfl⟩:=r1;exact⟨some i,H1,I1,.int i t,q⟩
def SlR(X:Cx)(r:V->Option Int->Option Int->Hp->VK->Prop):Prop:=
 ∀(pins:List (Addr×Obj)) (s:Shared) (σ:St) (H:Hp) (x:V) (v vl vu:Value) (lo hi:Option Int) (sl:Addr) (Q:VK),Inv X pins σ H s->RelV x v->s.heap.IsSliceOf sl vl vu .none->IsPart vl lo->IsPart vu hi->r x lo hi H Q->
  ∃T id,typeLookup (.type T) "__getitem__"=pure (some (.builtin id))/\s.TypeIs v T/\wpAny (model X.prog X.w) X.A (getItem v (.ref sl)) (EP X pins σ Q) X.xe s
theorem SlR.or{r r':V->Option Int->Option Int->Hp->VK->Prop}(h:SlR X r)(h':SlR X r'):SlR X (λ x lo hi H Q=>r x lo hi H Q\/r' x lo hi H Q):=by
 intro pins s σ H x v vl vu lo hi sl Q I rx hs pl pu q;rcases q with q|q
 ·exact h pins s σ H x v vl vu lo hi sl Q I rx hs pl pu q
 ·exact h' pins s σ H x v vl vu lo hi sl Q I rx hs pl pu q
def tSl(r:V->Option Int->Option Int->Hp->VK->Prop)(te:TE)(tl th:TO):TE:=λ σ H Q=>te σ H λ x H1=>tl σ H1 λ l H2=>th σ H2 λ u H3=>r x l u H3 Q
theorem aDb{r:V->Option Int->Option Int->Hp->VK->Prop}(hr:SlR X r)(he:PE X e te)(hl:PO X lo tl)(hu:PO X hi th):PE X (.Subscript e (.Slice lo hi none p2) pos) (tSl r te tl th):=by
 intro pins s σ H Q I h;refine Subscript_ (thn (he pins s σ H _ I h) λ v s1 ⟨x,H1,I1,r1,q1⟩=>?_);refine wpAny_Slice (thn (hl pins s1 σ H1 _ I1 q1) λ vl s2 ⟨l,H2,I2,pl,q2⟩=>thn (hu pins s2 σ H2 _ I2 q2) λ vu s3 ⟨u,H3,I3,pu,q3⟩=>?_);rw[evalPart_none];refine wpAny_pure ?_;have I4:Inv X pins σ H3 {s3 with heap:=s3.heap.push {cls:=.type "slice",data:=.fields #[vl,vu,.none]}}:=I3.kept (t':=s3.toks) λ b ob q=>Heap.get?_push_of_some _ q
 obtain⟨T,id,hT,ht,hg⟩:=hr pins {s3 with heap:=s3.heap.push {cls:=.type "slice",data:=.fields #[vl,vu,.none]}} σ H3 x v vl vu l u s3.heap.objs.size Q I4 r1 (Heap.IsSliceOf.new ..) pl pu q3;show wpAny (model X.prog X.w) X.A (subscriptTail e (.Slice lo hi none p2) v (.ref s3.heap.objs.size)) (EP X pins σ Q) X.xe {s3 with heap:=s3.heap.push {cls:=.type "slice",data:=.fields #[vl,vu,.none]}};exact tail_any (ops:=[.ref s3.heap.objs.size,v]) ht hT hg (by with_unfolding_all rfl)
def uO(xs:List V)(lo hi:Option Int):List V:=(xs.drop (HT.sIx xs.length 0 lo)).take (HT.sIx xs.length xs.length hi-HT.sIx xs.length 0 lo)
theorem qd(xs:List V)(lo hi:Option Int):(uO xs lo hi).length<=xs.length:=by
 unfold uO;rw[List.length_take,List.length_drop];omega
def aF0(K:PySem.W.Frag):R2:=λ x y H Q=>∃a b ns ms,x= .ref a/\y= .ref b/\SqT K H a (ns.map V.int)/\SqT K H b (ms.map V.int)/\Q (.bl (HT.lexLt ns ms)) H
theorem aIU(hu:X.A.units<cLine):OpR X (compareOp .Lt) (aF0 X.K):=by
 intro pins s σ H x y v u Q I rx ry h;obtain⟨a,b,ns,ms,rfl,rfl,ha,hb,q⟩:=h;cases rx;cases ry;obtain⟨its,r1,p1,_⟩:=I.tuple ha;obtain⟨its2,r2,p2,_⟩:=I.tuple hb;have i1:IntsAre its.toArray.toList ns:=intsAre_of r1;have i2:IntsAre its2.toArray.toList ms:=intsAre_of r2;exact HT.aAc p1 p2 i1 i2 hu ⟨.bl (HT.lexLt ns ms),H,I,rfl,q⟩
def aJ7(K:PySem.W.Frag):R2:=λ x y H Q=>∃a b xs ys,x= .ref a/\y= .ref b/\SqT K H a xs/\SqT K H b ys/\xs≠[]/\xs.length+ys.length<=sizeLine/\
 (ys=[]->Q (.ref a) H)/\(ys≠[]->∀p,H p=none->Q (.ref p) (upd H p (.tup (xs++ys))))
theorem Vals.nil_iff{xs:List V}{us:List Value}(r:Vals xs us):us=[]↔xs=[]:=by
 cases r with
 |nil=>simp
 |cons _ _=>simp
theorem aFs:OpR X (binaryOp .Add) (aJ7 X.K):=by
 intro pins s σ H x y v u Q I rx ry h;obtain⟨a,b,xs,ys,rfl,rfl,ha,hb,hx,hz,q1,q2⟩:=h;cases rx;cases ry;obtain⟨its,r1,p1,_⟩:=I.tuple ha;obtain⟨its2,r2,p2,_⟩:=I.tuple hb;refine HT.aGi p1 p2 (λ z=>hx (r1.nil_iff.mp z)) (λ z=>⟨.ref a,H,I,rfl,q1 (r2.nil_iff.mp z)⟩) (λ z=>?_) (by rw[<-r1.length,<-r2.length];exact hz);refine⟨.ref s.heap.objs.size,_,I.laid (t':=s.toks) (o:=.tup (xs++ys)) (λ b ob q=>Heap.get?_push_of_some _ q) (Nat.le_refl _) ?_,rfl,q2 (λ w=>z (r2.nil_iff.mpr w)) _ (I.hok.fresh (Nat.le_refl _))⟩;exact⟨by rw[List.length_append];exact hz,_,r1.append r2,IsTup.new _ _⟩
end
def ixN(n:Nat)(i:Int):Option Nat:=if 0<=i then(if i<n then some i.toNat else none)else if -(n:Int)<=i then some (i+n).toNat else none
def atI{α:Type}(xs:List α)(i:Int):Option α:=(ixN xs.length i).bind λ j=>xs[j]?
theorem aBd{n:Nat}{i:Int}{j:Nat}(h:ixN n i=some j):seqIndex? i n=some j/\j<n/\-(n:Int)<=i/\i<n:=by
 unfold ixN at h;by_cases h0:0<=i
 ·rw[if_pos h0]at h
  by_cases h1:i<n
  ·rw[if_pos h1]at h
   have e:i.toNat=j:=Option.some.inj h;exact⟨by rw[seqIndex_of h0 h1,e],by omega,by omega,h1⟩
  ·rw[if_neg h1]at h;cases h
 ·rw[if_neg h0]at h
  by_cases h1: -(n:Int)<=i
  ·rw[if_pos h1]at h
   have e:(i+n).toNat=j:=Option.some.inj h;exact⟨by rw[seqIndex_neg (by omega) h1,e],by omega,h1,by omega⟩
  ·rw[if_neg h1]at h;cases h
theorem yH{α:Type}{xs:List α}{i:Int}{v:α}(h:atI xs i=some v):∃j,seqIndex? i xs.length=some j/\xs[j]? =some v/\j<xs.length/\-(xs.length:Int)<=i/\i<xs.length:=by
 unfold atI at h;cases e:ixN xs.length i with
 |none=>rw[e]at h;cases h
 |some j=>
  rw[e]at h;obtain⟨h1,h2,h3,h4⟩:=aBd e;exact⟨j,h1,h,h2,h3,h4⟩
def yK(b:Expr):Prop:=∀o i,subscripted b false o i=operate [o,i] (getItem o i)
def IxR(X:Cx)(r:R2):Prop:=
 ∀(value slice:Expr) (pins:List (Addr×Obj)) (s:Shared) (σ:St) (H:Hp) (x y:V) (v u:Value) (Q:VK),Inv X pins σ H s->RelV x v->RelV y u->r x y H Q->
  subscripted slice false v u=operate [v,u] (getItem v u)->wpAny (model X.prog X.w) X.A (subscriptTail value slice v u) (EP X pins σ Q) X.xe s
def MtR(X:Cx)(id:String)(r:V->List V->Hp->VK->Prop):Prop:=
 ∀(pins:List (Addr×Obj)) (s:Shared) (σ:St) (H:Hp) (x:V) (xs:List V) (v:Value) (us:List Value) (Q:VK),Inv X pins σ H s->RelV x v->Vals xs us->r x xs H Q->
  wpAny (model X.prog X.w) X.A (call (.builtin id) (v::us)) (EP X pins σ Q) X.xe s
section
variable{X:Cx}{a b:Expr}{ta tb:TE}{pos:Pos}
theorem IxR.or{r r':R2}(h:IxR X r)(h':IxR X r'):IxR X (λ x y H Q=>r x y H Q\/r' x y H Q):=by
 intro value slice pins s σ H x y v u Q I rx ry q hs;rcases q with q|q
 ·exact h value slice pins s σ H x y v u Q I rx ry q hs
 ·exact h' value slice pins s σ H x y v u Q I rx ry q hs
theorem aDd{r:R2}(hr:IxR X r)(ha:PE X a ta)(hb:PE X b tb)(hs:yK b):PE X (.Subscript a b pos) (tOp r ta tb):=by
 intro pins s σ H Q I h;exact Subscript_ (aIx ha hb I h λ v u s2 x y H2 I2 rx ry q=>hr a b pins s2 σ H2 x y v u Q I2 rx ry q (hs _ _))
def aHp(K:PySem.W.Frag):R2:=λ x y H Q=>∃p xs i v,x= .ref p/\y= .int i/\SqL K H p xs/\atI xs i=some v/\Q v H
def aJ4(K:PySem.W.Frag):R2:=λ x y H Q=>∃p xs i v,x= .ref p/\y= .int i/\SqT K H p xs/\atI xs i=some v/\Q v H
def aJ5:R2:=λ x y H Q=>∃z i c,x= .str z/\y= .int i/\z.length<=sizeLine/\atI z.cps.toList i=some c/\Q (.str ⟨#[c]⟩) H
theorem xV:IxR X (aHp X.K):=by
 intro value slice pins s σ H x y v u Q I rx ry h hs;obtain⟨p,xs,i,z,rfl,rfl,hq,he,q⟩:=h;cases rx;obtain⟨t,rfl⟩:=ry;obtain⟨its,r,pl,hz⟩:=I.list hq;obtain⟨j,h1,h2,h3,h4,h5⟩:=yH he;obtain⟨w,ew,rw'⟩:=r.get h2;have hl:=r.length;have hn:=pO;have fin:EP X pins σ Q w s:=⟨z,H,I,rw',q⟩;by_cases h0:0<=i
 ·have hj:i.toNat=j:=by
   rw[seqIndex_of h0 h5]at h1;exact Option.some.inj h1
  exact item_listR pl.isList h0 (by omega) (by rw[hj];simpa using ew) fin hs
 ·have hj:(i+(its.toArray.size:Int)).toNat=j:=by
   rw[seqIndex_neg (by omega) h4]at h1;rw[List.size_toArray,<-hl];exact Option.some.inj h1
  exact subscriptTail_builtinR (x:=w) pl.isList.typeIs slot_list_getitem.lookup
   (wpAny_getItem_list_neg (Q:=λ r s'=>r=w/\EP X pins σ Q r s') pl.isList (by omega) (by rw[List.size_toArray]<;>omega) (by omega) (by rw[hj];simpa using ew) ⟨rfl,fin⟩) hs
theorem aIf:IxR X (aJ4 X.K):=by
 intro value slice pins s σ H x y v u Q I rx ry h hs;obtain⟨p,xs,i,z,rfl,rfl,hq,he,q⟩:=h;cases rx;obtain⟨t,rfl⟩:=ry;obtain⟨its,r,pl,hz⟩:=I.tuple hq;obtain⟨j,h1,h2,h3,h4,h5⟩:=yH he;obtain⟨w,ew,rw'⟩:=r.get h2;have hl:=r.length;have hn:=pO;have fin:EP X pins σ Q w s:=⟨z,H,I,rw',q⟩;exact subscriptTail_builtinR (x:=w) pl.typeIs slot_tuple_getitem.lookup
  (getItem_tuple (j:=j) (Q:=λ r s'=>r=w/\EP X pins σ Q r s') pl (by omega) (by omega) (by rw[List.size_toArray,<-hl];exact h1) (by simpa using ew) ⟨rfl,fin⟩) hs
theorem aIg:IxR X aJ5:=by
 intro value slice pins s σ H x y v u Q I rx ry h hs;obtain⟨z,i,c,rfl,rfl,hz,he,q⟩:=h;obtain⟨t,rfl⟩:=rx;obtain⟨t',rfl⟩:=ry;obtain⟨j,h1,h2,h3,h4,h5⟩:=yH he;have hl:z.cps.toList.length=z.length:=by simp[Str.length]
 rw[hl]at h1 h4 h5;have hn:=pO;exact tail_any (typeIs_str s z t) slot_str_getitem.lookup (getItem_str (c:=c) (by
  have e1:decide (i < -(2^63:Int))=false:=decide_eq_false (by omega);have e2:decide (i ≥ 2^63)=false:=decide_eq_false (by omega);rw[e1,e2,Bool.or_false]) (by rw[h1];simpa using h2) ⟨.str ⟨#[c]⟩,H,I.tok _,⟨_,rfl⟩,q⟩) hs
def rIx(K:PySem.W.Frag):R2:=λ x y H Q=>aHp K x y H Q\/aJ4 K x y H Q\/aJ5 x y H Q
theorem aIh:IxR X (rIx X.K):=xV.or (aIf.or aIg)
theorem aA9(its:List Value)(n j:Nat)(u:Value):Obj.mapSeq (·.setIfInBounds j u) {cls:=.type "list",data:=.seq its.toArray n}={cls:=.type "list",data:=.seq (its.set j u).toArray n}:=by
 simp[Obj.mapSeq]
theorem Inv.lst{pins:List (Addr×Obj)}{σ:St}{H:Hp}{s:Shared}{p:Addr}{xs:List V}(I:Inv X pins σ H s)(h:H p=some (.lst xs)):
  ∃(its:List Value) (n:Nat),Vals xs its/\s.heap.get? p=some {cls:=.type "list",data:=.seq its.toArray n}/\xs.length<=sizeLine:=by
 obtain⟨z,its,n,r,e⟩:=I.hok p _ h;exact⟨its,n,r,e,z⟩
theorem Inv.lstUpd{pins:List (Addr×Obj)}{σ:St}{H:Hp}{s:Shared}{p:Addr}{xs ys:List V}{its its':List Value}{n n':Nat}{f:Obj->Obj}(I:Inv X pins σ H s)(h:H p=some (.lst xs))
  (ho:s.heap.get? p=some {cls:=.type "list",data:=.seq its.toArray n})(hf:f {cls:=.type "list",data:=.seq its.toArray n}={cls:=.type "list",data:=.seq its'.toArray n'})(r:Vals ys its')(hz:ys.length<=sizeLine)(t:Nat):
  Inv X pins σ (upd H p (.lst ys)) {s with heap:=s.heap.update p f,toks:=t}:=by
 have e:(s.heap.update p f).get? p=some {cls:=.type "list",data:=.seq its'.toArray n'}:=by
  rw[Heap.get?_update_self f ho (by rw[hf]<;>rfl),hf]
 refine I.write (x:=p) (e:=p) (by rw[h];trivial) (.inl rfl) (λ b u hb q=>(Heap.get?_update_other _ _ (Ne.symm hb)).trans q) ⟨_,e⟩ ?_;exact⟨hz,its',n',r,e⟩
def aHA:V->V->V->Hp->(Hp->Prop)->Prop:=λ o i v H Q=>∃p xs k j,o= .ref p/\i= .int k/\H p=some (.lst xs)/\ixN xs.length k=some j/\Q (upd H p (.lst (xs.set j v)))
theorem set_list:aKE X aHA:=by
 intro pins s σ H o i v ov iv u Q I ro ri rv h;obtain⟨p,xs,k,j,rfl,rfl,hp,hj,q⟩:=h;cases ro;obtain⟨t,rfl⟩:=ri;obtain⟨its,n,r,ho,hz⟩:=I.lst hp;obtain⟨h1,h2,h3,h4⟩:=aBd hj;have hl:=r.length;have hn:=pO;have I':Inv X pins σ (upd H p (.lst (xs.set j v))) {s with heap:=s.heap.update p (Obj.mapSeq (·.setIfInBounds j u))}:=
  I.lstUpd hp ho (aA9 its n j u) (r.set rv j) (by rw[List.length_set];exact hz) s.toks
 by_cases h0:0<=k
 ·have hk:k.toNat=j:=by
   rw[seqIndex_of h0 h4]at h1;exact Option.some.inj h1
  exact PySem.W.ki_setAt ho h0 (by omega) (by rw[List.size_toArray,<-hl];exact h4) (by rw[hk];exact⟨_,I',q⟩)
 ·have hk:(k+(its.toArray.size:Int)).toNat=j:=by
   rw[seqIndex_neg (by omega) h3]at h1;rw[List.size_toArray,<-hl];exact Option.some.inj h1
  exact PySem.W.ki_setBack ho (by omega) (by rw[List.size_toArray,<-hl];exact h3) (by omega) (by rw[hk];exact⟨_,I',q⟩)
theorem wC(lo hi:Option Int)(n:Nat):(sliceBounds lo hi none n).1=((HT.sIx n 0 lo:Nat):Int)/\(sliceBounds lo hi none n).2.1=((HT.sIx n n hi:Nat):Int)/\(sliceBounds lo hi none n).2.2=1:=by
 refine⟨?_,?_,rfl⟩
 ·cases lo with
  |none=>simp[sliceBounds,HT.sIx]
  |some i=>
   simp only[sliceBounds,HT.sIx,Option.getD_none,show(1:Int)>0 by decide,if_true];by_cases h:i<0
   ·simp only[h,if_true]<;>omega
   ·simp only[h,if_false]<;>omega
 ·cases hi with
  |none=>simp[sliceBounds,HT.sIx]
  |some i=>
   simp only[sliceBounds,HT.sIx,Option.getD_none,show(1:Int)>0 by decide,if_true];by_cases h:i<0
   ·simp only[h,if_true]<;>omega
   ·simp only[h,if_false]<;>omega
theorem u6(its:List Value)(lo hi:Option Int):slicePick its.toArray lo hi none=((its.drop (HT.sIx its.length 0 lo)).take (HT.sIx its.length its.length hi-HT.sIx its.length 0 lo)).toArray:=by
 obtain⟨h1,h2,h3⟩:=wC lo hi its.toArray.size;unfold slicePick;rw[h1,h2,h3];simp only[sliceRange_one,pick_run,List.size_toArray]<;>rfl
def aJ1(K:PySem.W.Frag):V->Option Int->Option Int->Hp->VK->Prop:=λ x lo hi H Q=>∃a xs,x= .ref a/\SqL K H a xs/\∀p,H p=none->Q (.ref p) (upd H p (.lst (uO xs lo hi)))
theorem aFL:SlR X (aJ1 X.K):=by
 intro pins s σ H x v vl vu lo hi sl Q I rx hs pl pu h;obtain⟨a,xs,rfl,hx,q⟩:=h;cases rx;obtain⟨its,r,ht,hz⟩:=I.list hx;have hlen:=r.length;refine⟨"list",_,slot_list_getitem.lookup,ht.isList.typeIs,?_⟩;refine wpAny_getItem_list_slice ht.isList hs pl pu .none (by simp) ?_ (by rw[List.size_toArray]<;>omega);rw[u6,<-hlen];refine⟨.ref s.heap.objs.size,_,I.laid (t':=s.toks) (o:=.lst (uO xs lo hi)) (λ b ob q=>Heap.get?_push_of_some _ q) (Nat.le_refl _) ?_,rfl,q _ (I.hok.fresh (Nat.le_refl _))⟩;exact⟨Nat.le_trans (qd xs lo hi) hz,_,0,(r.drop (HT.sIx xs.length 0 lo)).take (HT.sIx xs.length xs.length hi-HT.sIx xs.length 0 lo),Heap.get?_push_size _ rfl⟩
theorem yE:bx X (.builtin "len") (λ xs H Q=>∃p ys,xs=[.ref p]/\(SqL X.K H p ys\/SqT X.K H p ys)/\Q (.int ys.length) H):=by
 intro pins s σ H xs us Q I r h;obtain⟨p,ys,rfl,hq,q⟩:=h;obtain⟨u,rfl,rx⟩:=vals1 r;cases rx;have hn:=pO;rcases hq with hq|hq
 ·obtain⟨its,r',pl,hz⟩:=I.list hq
  have hlen:=r'.length;exact Calls.call_len_list pl.isList (by simp only[List.size_toArray]<;>omega) ⟨.int ys.length,H,I.tok _,⟨s.toks+1,by rw[List.size_toArray,hlen]⟩,q⟩
 ·obtain⟨its,r',pl,hz⟩:=I.tuple hq
  have hlen:=r'.length;exact len_tuple pl (by simp only[List.size_toArray]<;>omega) ⟨.int ys.length,H,I.tok _,⟨s.toks+1,by rw[List.size_toArray,hlen]⟩,q⟩
theorem bx.or{f:Value}{r r':List V->Hp->VK->Prop}(h:bx X f r)(h':bx X f r'):bx X f (λ xs H Q=>r xs H Q\/r' xs H Q):=by
 intro pins s σ H xs us Q I rs q;rcases q with q|q
 ·exact h pins s σ H xs us Q I rs q
 ·exact h' pins s σ H xs us Q I rs q
theorem ut:bx X (.type "tuple") (λ xs H Q=>∃p ys,xs=[.ref p]/\((SqL X.K H p ys/\∀l,H l=none->Q (.ref l) (upd H l (.tup ys)))\/(SqT X.K H p ys/\Q (.ref p) H))):=by
 intro pins s σ H xs us Q I r h;obtain⟨p,ys,rfl,h⟩:=h;obtain⟨u,rfl,rx⟩:=vals1 r;cases rx;rcases h with ⟨hq,q⟩|⟨hq,q⟩
 ·obtain⟨its,r',pl,hz⟩:=I.list hq
  have hlen:=r'.length;refine call_tuple_list pl.isList (λ h' kp=>?_) (by simp only[List.size_toArray]<;>omega);have I1:Inv X pins σ H {s with heap:=h'}:=I.kept (t':=s.toks) kp;have I2:Inv X pins σ (upd H h'.objs.size (.tup ys)) {s with heap:=h'.push {cls:=.type "tuple",data:=.seq its.toArray}}:=
   I1.laid (t':=s.toks) (λ b o e=>Heap.get?_push_of_some _ e) (Nat.le_refl _) (show cX X.prog X.w _ _ _ (.tup ys)from⟨hz,its,r',IsTup.new _ _⟩)
  exact⟨.ref h'.objs.size,_,I2,rfl,q _ (I1.hok.fresh (Nat.le_refl _))⟩
 ·obtain⟨its,r',pl,hz⟩:=I.tuple hq
  exact call_tuple_same pl ⟨.ref p,H,I,rfl,q⟩
def tyV(K:PySem.W.Frag)(T:String)(x:V)(H:Hp):Prop:=match x with
 | .str _=>T="str"
 | .int _=>T="int"
 | .ref p=>(T="list"/\∃xs,SqL K H p xs)\/(T="tuple"/\∃o,K.lookup p=some o/\o.cls= .type "tuple"/\o.dict=none)\/
   (T="dict"/\((∃kvs,H p=some (.dK kvs))\/∃kvs,H p=some (.dT kvs)))\/(T="set"/\∃S n,H p=some (.set S n))
 |_=>False
theorem aHY{pins:List (Addr×Obj)}{σ:St}{H:Hp}{s:Shared}{T:String}{x:V}{v:Value}(I:Inv X pins σ H s)(r:RelV x v)(ty:tyV X.K T x H):
  s.TypeIs v T/\∀a,v= .ref a->∃ob,s.heap.get? a=some ob/\ob.dict=none:=by
 cases x with
 |str z=>
  obtain⟨t,rfl⟩:=r;cases (show T="str" from ty);exact⟨typeIs_str s z t,λ _ e=>nomatch e⟩
 |int i=>
  obtain⟨t,rfl⟩:=r;cases (show T="int" from ty);exact⟨typeIs_int s i t,λ _ e=>nomatch e⟩
 |ref p=>
  cases r;rcases ty with ⟨rfl,xs,hq⟩|⟨rfl,o,hk,hc,hd⟩|⟨rfl,hk⟩|⟨rfl,S,n,hk⟩
  ·obtain⟨its,_,pl,_⟩:=I.list hq
   refine⟨pl.isList.typeIs,λ a e=>?_⟩;cases e;obtain⟨o,n,e,c,hd,_⟩:=pl;exact⟨o,e,hd⟩
  ·refine⟨⟨o,I.kIn p o hk,hc⟩,λ a e=>?_⟩
   cases e;exact⟨o,I.kIn _ o hk,hd⟩
  ·have z:∃o,s.heap.get? p=some o/\o.ExactDict:=by
    rcases hk with ⟨kvs,hk⟩|⟨kvs,hk⟩
    ·obtain⟨_,_,_,_,o,_,_,e,ex,_⟩:=I.hok p _ hk
     exact⟨o,e,ex⟩
    ·obtain⟨_,_,_,_,o,_,_,e,ex,_⟩:=I.hok p _ hk
     exact⟨o,e,ex⟩
   obtain⟨o,e,ex⟩:=z;refine⟨⟨o,e,ex.1⟩,λ a e2=>?_⟩;cases e2;exact⟨o,e,ex.2.1⟩
  ·obtain⟨o,_,_,_,e,ex,_⟩:=I.hok p _ hk
   refine⟨⟨o,e,ex.1⟩,λ a e2=>?_⟩;cases e2;exact⟨o,e,ex.2.1⟩
 |_=>exact False.elim ty
def tBM(K:PySem.W.Frag)(T:String)(r:V->List V->Hp->VK->Prop)(to:TE)(t:TA):TE:=λ σ H Q=>to σ H λ x H1=>tyV K T x H1/\t σ H1 λ xs H2=>r x xs H2 Q
variable{o e:Expr}{es:List Expr}{to:TE}{t:TA}{name:Str}{apos cpos:Pos}{T id:String}{r:V->List V->Hp->VK->Prop}
theorem vK(pa:PlainAttrs T)(slot:Slot T name id)(hty:typeOf (.builtin id)=pure (.type "method_descriptor"))(hm:MtR X id r)(ho:PE X o to)(ha:PA X (e::es) t)
  (hbase:attributeBase o name X.env (eval o X.env)=eval o X.env:=by rfl)
  (hfew:((backTo cpos (starEach (e::es) X.env)).all (λ x=>!x.1)&&(backToKw cpos (keywordEach [] X.env)).all (λ x=>x.1.isSome)
   &&decide ((e::es).length+([]:List Keyword).length+(if ([]:List Keyword).isEmpty then 0 else 1)<30))=true:=by rfl)
  (hline:(apos.endLine==cpos.line)=true:=by rfl)(hs:starEach (e::es) X.env=(false,eval e X.env)::starEach es X.env:=by rfl)(hplain:(backTo cpos (starEach es X.env)).any (·.1)=false:=by rfl):
  PE X (.Call (.Attribute o name apos) (e::es) [] cpos) (tBM X.K T r to t):=by
 intro pins s σ H Q I h;refine wpAny_Call_method_late hbase hfew hline rfl (thn (ho pins s σ H _ I h) λ v s1 ⟨x,H1,I1,r1,ty,q1⟩=>?_);obtain⟨h1,h2⟩:=aHY I1 r1 ty;refine⟨T,id,pa,slot,hty,h1,h2,?_⟩;have hA:=ha cpos pins s1 σ H1 _ I1 q1;rw[hs]at hA ⊢;refine Calls.callWith_builtin (by show(false||(backTo cpos (starEach es X.env)).any (·.1))=false;rw[hplain]<;>rfl) (Calls.evalArgs_plain ?_);exact thn hA λ us s2 ⟨vs,H2,I2,r2,q2⟩=>hm pins s2 σ H2 x vs v us Q I2 r1 r2 q2
end
def MtM(X:Cx)(id:String)(r:V->List V->Hp->VK->Prop):Prop:=
 ∀(pins:List (Addr×Obj)) (s:Shared) (σ:St) (H:Hp) (x:V) (xs:List V) (v:Value) (us:List Value) (Q:VK),Inv X pins σ H s->RelV x v->Vals xs us->r x xs H Q->
  wpAny (model X.prog X.w) X.A (call (.builtin id) (v::us)) (EP X pins σ Q) X.xe s
theorem Vals.one:∀{x:V} {us:List Value},Vals [x] us->∃u,us=[u]/\RelV x u
 |_,_,.cons r .nil=>⟨_,rfl,r⟩
theorem Vals.reverse{xs:List V}{us:List Value}(h:Vals xs us):Vals xs.reverse us.reverse:=by
 induction h with
 |nil=>exact .nil
 |cons r t ih=>rw[List.reverse_cons,List.reverse_cons];exact Vals.append ih (.cons r .nil)
theorem Vals.rep{xs:List V}{us:List Value}(h:Vals xs us):∀k:Nat,Vals (List.replicate k xs).flatten (List.replicate k us).flatten
 |0=>.nil
 |k+1=>by
  rw[List.replicate_succ,List.replicate_succ,List.flatten_cons,List.flatten_cons];exact Vals.append h (Vals.rep h k)
theorem foldl_rep(its:List Value):∀(k:Nat) (acc:List Value),
  List.foldl (λ x1 x2=>x1++x2) acc.toArray (List.replicate k its.toArray)=(acc++(List.replicate k its).flatten).toArray
 |0,acc=>by simp
 |k+1,acc=>by
  have e:acc.toArray++its.toArray=(acc++its).toArray:=by simp
  have e2:(acc++its)++(List.replicate k its).flatten=acc++(List.replicate (k+1) its).flatten:=by
   rw[List.replicate_succ,List.flatten_cons,List.append_assoc]
  rw[<-e2,<-foldl_rep its k (acc++its),<-e,List.replicate_succ,List.foldl_cons]
section
variable{X:Cx}{pins:List (Addr×Obj)}{σ:St}{H:Hp}{s:Shared}{l b:Addr}{xs ys zs:List V}
theorem Inv.lset{its its':List Value}{n:Nat}{f:Array Value->Array Value}{t':Nat}(I:Inv X pins σ H s)(hH:H l=some (.lst xs))
  (e:s.heap.get? l=some {cls:=.type "list",data:=.seq its.toArray n})(hf:f its.toArray=its'.toArray)(hv:Vals ys its')(hz:ys.length<=sizeLine):
  Inv X pins σ (upd H l (.lst ys)) {s with heap:=s.heap.update l (Obj.mapSeq f),toks:=t'}:=by
 have q:=PySem.IsL.update e f;rw[hf]at q;refine I.write (x:=l) (e:=l) (by rw[hH];exact trivial) (.inl rfl) (λ b' u hb hu=>(Heap.get?_update_other s.heap (Obj.mapSeq f) (Ne.symm hb)).trans hu) ⟨_,q⟩ ?_;exact⟨hz,its',_,hv,q⟩
theorem Inv.lnew{its:List Value}{t':Nat}(I:Inv X pins σ H s)(hv:Vals ys its)(hz:ys.length<=sizeLine):
  Inv X pins σ (upd H s.heap.objs.size (.lst ys)) {s with heap:=s.heap.push {cls:=.type "list",data:=.seq its.toArray},toks:=t'}:=
 I.laid (λ _ _ q=>Heap.get?_push_of_some _ q) (Nat.le_refl _) ⟨hz,its,0,hv,Heap.get?_push_size _ rfl⟩
theorem Inv.fresh(I:Inv X pins σ H s):H s.heap.objs.size=none:=I.hok.fresh (Nat.le_refl _)
theorem Inv.lstM(I:Inv X pins σ H s)(hH:H l=some (.lst xs)):xs.length<=sizeLine/\∃(its:List Value) (n:Nat),Vals xs its/\xs.length=its.length/\s.heap.get? l=some {cls:=.type "list",data:=.seq its.toArray n}:=by
 obtain⟨z,its,n,r,e⟩:=I.hok l _ hH;exact⟨z,its,n,r,r.length,e⟩
theorem yu{n:Nat}(h:n<=sizeLine):Builtin.List.listTooLong n=false:=by
 unfold Builtin.List.listTooLong;exact decide_eq_false (by omega)
end
section
variable{X:Cx}
def aF6:V->List V->Hp->VK->Prop:=λ x vs H Q=>∃l xs y,x= .ref l/\vs=[y]/\H l=some (.lst xs)/\xs.length<sizeLine/\Q .non (upd H l (.lst (xs++[y])))
theorem vP:MtM X "list.append" aF6:=by
 intro pins s σ H x vs v us Q I rx rv h;obtain⟨l,xs,y,rfl,rfl,hH,hz,q⟩:=h;cases rx;obtain⟨u,rfl,ru⟩:=rv.one;obtain⟨z,its,n,r,hl,e⟩:=I.lstM hH;refine call_meets F.slot_list_append ⟨_,e,rfl⟩ F.entry_list_append (F.args_list_append_2 _ _) (PySem.list_append l its.toArray n u (by rw[List.size_toArray];omega)) ⟨e,?_⟩;refine⟨.non,_,I.lset (its':=its++[u]) hH e (by simp) (r.append (.cons ru .nil)) ?_,rfl,q⟩;rw[List.length_append,List.length_singleton];omega
def aF4:V->List V->Hp->VK->Prop:=λ x vs H Q=>∃l b xs zs,x= .ref l/\vs=[.ref b]/\H l=some (.lst xs)/\H b=some (.lst zs)/\xs.length+zs.length<=sizeLine/\Q .non (upd H l (.lst (xs++zs)))
theorem aCR:MtM X "list.extend" aF4:=by
 intro pins s σ H x vs v us Q I rx rv h;obtain⟨l,b,xs,zs,rfl,rfl,hH,hB,hz,q⟩:=h;cases rx;obtain⟨u,rfl,ru⟩:=rv.one;cases ru;obtain⟨z,its,n,r,hl,e⟩:=I.lstM hH;obtain⟨z2,its2,n2,r2,hl2,e2⟩:=I.lstM hB;have hsz:its.toArray.size+its2.toArray.size<=sizeLine:=by rw[List.size_toArray,List.size_toArray];omega
 have hlong:¬(!its.toArray.isEmpty&&Builtin.List.listTooLong (its.toArray.size+its2.toArray.size))=true:=by
  rw[yu hsz,Bool.and_false];exact Bool.false_ne_true
 refine call_meets F.slot_list_extend ⟨_,e,rfl⟩ F.entry_list_extend (F.args_list_extend_2 _ _)
  (AutoSeq1.list_extend_list_list_0 l its.toArray n b its2.toArray n2 hlong (by rw[List.size_toArray];omega) (by omega)) ⟨e,e2,?_⟩
 refine⟨.non,_,I.lset (its':=its++its2) hH e (by simp) (r.append r2) ?_,rfl,q⟩;rw[List.length_append];omega
def aKV:R2:=λ x y H Q=>∃l b xs zs,x= .ref l/\y= .ref b/\H l=some (.lst xs)/\H b=some (.lst zs)/\xs.length+zs.length<=sizeLine/\∀p,H p=none->Q (.ref p) (upd H p (.lst (xs++zs)))
theorem aI0:OpR X (binaryOp .Add) aKV:=by
 intro pins s σ H x y v u Q I rx ry h;obtain⟨l,b,xs,zs,rfl,rfl,hH,hB,hz,q⟩:=h;cases rx;cases ry;obtain⟨z,its,n,r,hl,e⟩:=I.lstM hH;obtain⟨z2,its2,n2,r2,hl2,e2⟩:=I.lstM hB;refine PySem.P.add_list e e2 ?_ (by rw[List.size_toArray,List.size_toArray];omega);have ea:its.toArray++its2.toArray=(its++its2).toArray:=by simp
 rw[ea];exact⟨.ref _,_,I.lnew (t':=s.toks) (r.append r2) (by rw[List.length_append];omega),rfl,q _ I.fresh⟩
def aJ3:R2:=λ x y H Q=>∃l k xs,x= .ref l/\y= .int k/\H l=some (.lst xs)/\-(2^63)<=k/\k<2^63/\xs.length*k.toNat<=sizeLine/\
 ∀p,H p=none->Q (.ref p) (upd H p (.lst (List.replicate k.toNat xs).flatten))
theorem len_rep{α:Type}(xs:List α)(k:Nat):(List.replicate k xs).flatten.length=k*xs.length:=by
 induction k with
 |zero=>simp
 |succ k ih=>rw[List.replicate_succ,List.flatten_cons,List.length_append,ih,Nat.succ_mul,Nat.add_comm]
theorem aIO:OpR X (binaryOp .Mult) aJ3:=by
 intro pins s σ H x y v u Q I rx ry h;obtain⟨l,k,xs,rfl,rfl,hH,h1,h2,hz,q⟩:=h;cases rx;obtain⟨t,rfl⟩:=ry;obtain⟨z,its,n,r,hl,e⟩:=I.lstM hH;have hlen:its.toArray.size*k.toNat<=sizeLine:=by rw[List.size_toArray,<-hl];exact hz
 have hcap:¬its.toArray.size*k.toNat>(2^63-1) / 8:=by
  have:(sizeLine:Nat)<=(2^63-1) / 8:=by decide
  omega
 have hfit:¬(!Builtin.List.listFitsIndex k)=true:=by
  rw[fitsIndex_both h1 h2];exact Bool.false_ne_true
 have hlong:¬Builtin.List.listTooLong (its.toArray.size*k.toNat)=true:=by
  rw[yu hlen];exact Bool.false_ne_true
 have hnew:List.foldl (λ x1 x2=>x1++x2) #[] (List.replicate (if its.toArray.isEmpty=true then 0 else k.toNat) its.toArray)=(List.replicate k.toNat its).flatten.toArray:=by
  have f0:∀m:Nat,List.foldl (λ x1 x2=>x1++x2) #[] (List.replicate m its.toArray)=(List.replicate m its).flatten.toArray:=λ m=>by
   have:=foldl_rep its m []
   rw[List.nil_append]at this;exact this
  rw[f0];cases its with
  |nil=>simp
  |cons a r'=>rw[if_neg (by simp)]
 refine wpAny_binaryOp_repeat_ref (T:="list") (U:="int") (by decide) ⟨_,e,rfl⟩ (λ s'=>typeIs_int s' k t) noFill_list_mul F.fills_int_mul F.slot_int_rmul repeat_list F.slot_int_index.lookup
  (call_meets F.slot_int_rmul (typeIs_int s k t) F.entry_int_rmul (F.args_int_rmul_2 _ _) (int___rmul___int_list k t l its.toArray n)
   ⟨e,rfl,⟨_,e,rfl⟩,call_meets F.slot_list_mul ⟨_,e,rfl⟩ F.entry_list_mul (F.args_list_mul_2 _ _) (AutoListH.list___mul___list_int_3 l its.toArray n k t hfit hcap hlong) ⟨e,?_⟩⟩)
 rw[hnew];exact⟨.ref _,_,I.lnew (t':=s.toks) (r.rep k.toNat) (by rw[len_rep,Nat.mul_comm];exact hz),rfl,q _ I.fresh⟩
end
section
variable{prog:Program}{w:World}{A:Around}{E:Value->Shared->Prop}{s:Shared}
end
section
variable{X:Cx}
end
end L2
namespace Att
open PySem PySem.W PySem.Calls PyProof.Rows
theorem qt{P:Params}{h:Heap}:∀(ns:List Int) (vs:List Value),WellAll P h vs (ns.map WData.int)->IntsAre vs ns:=by
 intro ns;induction ns with
 |nil=>
  intro vs w;rw[List.map_nil]at w;cases w;exact .nil
 |cons n ns ih=>
  intro vs w;rw[List.map_cons]at w;cases w with
  |cons a b=>
   cases a;exact .cons _ _ (ih _ b)
theorem aCD{l:OpenLaw}{n:Nat}(hn:l.most=some n){P:Params}{h:Heap}{args:List WData}{vals:List Value}
  (hpre:l.row.toRowW.claim.pre args=true)(hwl:WellAll P h vals args):
  ∃a vs ns,vals=[Value.ref a]/\args=[WData.list (ns.map WData.int)]/\h.get? a=some {cls:=.type "list",data:=.seq vs.toArray}/\IntsAre vs ns/\ns.length<=n:=by
 have hsh:WShape.hasAll [] args [.list .int]=true:=(pre_splitW hpre).1;have hc:l.pre.holds [] {args:=args}=true:=(pre_splitW hpre).2;obtain⟨d,r,rfl,h1,h2⟩:=hasAllW_cons hsh;obtain rfl:=hasAllW_nil h2;obtain⟨xs,rfl,h3⟩:=hasW_list h1;obtain⟨ns,rfl⟩:=items_int h3;have hlen:ns.length<=n:=by
  unfold OpenLaw.pre at hc;have h4:(WTm.not (.lt (.lit (.int (n:Int))) (.len (.arg 0)))).holds [] {args:=[.list (ns.map .int)]}=true:=by
   have h4:=(holds_andW hc).1;rw[hn]at h4;exact h4
  have h5:=condW_of h4 (w_not (w_lt w_lit (w_len_list (w_arg rfl))));rw[List.length_map]at h5;refine Nat.le_of_not_lt λ q=>?_
  have q':(n:Int)<((ns.length:Nat):Int):=by omega
  first
   |(rw[decide_eq_true q']at h5;exact absurd h5 (by decide))
   |(simp at h5;omega)
 cases hwl with
 |cons w1 w2=>
  cases w2;cases w1 with
  |list ho hall=>exact⟨_,_,ns,rfl,rfl,ho,qt ns _ hall,hlen⟩
theorem aCH(l:OpenLaw)(args:List WData):l.row.toRowW.claim.post args (.bool true) args=true:=
 postW_of (r:=l.row.toRowW) (X:=(true==true))
  (show WShape.has [] (.bool true) .bool=true by first|rfl|decide|simp[WShape.has,WShape.arms,WShape.armsAll])
  (show(WTm.eq .res (.lit (.bool true))).value [] {args:=args,res:=some (.bool true),after:=args}=some (.bool (true==true))from w_eq_bool (w_res rfl) w_lit) rfl
theorem zg{l:OpenLaw}{n:Nat}{q:Program}{loose:List Str}{XP:(Str->Option Value)->Heap->Prop}{YP:World->Heap->Prop}{d:DefRec}
  (hn:l.most=some n)(hdf:d.params.defaults=[])
  (call:∀(w:World) (s₀ s₁:Shared) (mg mb:Str->Option Value) (fa:Addr) (o:Obj) (pm cd doc:Value) (a:Addr) (vs:List Value) (ns:List Int),
   Ground q loose [] XP w s₀ mg mb s₁.heap->YP w s₁.heap->
   s₁.heap.get? fa=some o->o.data= .func (docDef d.name d.params d.body d.scope pm cd doc)->s₁.heap.CodeRec cd d.name->mg d.name=some (.ref fa)->
   s₁.heap.get? a=some {cls:=.type "list",data:=.seq vs.toArray}->IntsAre vs ns->ns.length<=n->s₁.gens=#[]->
   codeAny (model l.prog w) callerA (.call (.ref fa) ⟨[.ref a],[]⟩) (λ r s'=>r= .ok (.ret (.bool true))/\OldK s₁.heap s'.heap/\s'.os=s₁.os/\AllBare s'.gens) s₁):
  WalkO q loose XP YP l.row.toRowW d [] (λ f vs=>PySem.call f vs):=by
 intro w s₀ s₁ mg mb G Y fa o pm cd doc dV kV ho hd hcd hD hmg hg args vals as hpre hlay hrd hwl hlo;obtain rfl:dV= .none:=Dflts.none hD hdf;obtain rfl:kV= .none:=Dflts.noKw hD;obtain⟨a,vs,ns,rfl,rfl,hobj,hints,hlen⟩:=aCD hn hpre hwl;refine enter_call (codeAny_mono (call w s₀ s₁ mg mb fa o pm cd doc a vs ns G Y ho (fd_plain hd) hcd hmg hobj hints hlen hg) λ r s' hq=>?_);obtain⟨rfl,h2,h3,h4⟩:=hq;exact⟨.inl ⟨.bool true,.bool true,[],rfl,λ _=>rfl,.bool true,aCH l _,λ _=>⟨List.Pairwise.nil,λ _ hm=>(nomatch hm)⟩⟩,h2,h3,h4⟩
section
variable{prog:Program}{w:World}{A:Around}{E:Value->Shared->Prop}{s:Shared}{K:Frag}
theorem make_obj{R:Result->Shared->Prop}{C fI:Addr}{rest:List Value}{kw:List (Str×Value)}
  (X:K.In s.heap)(hm:makesIn K C=true)(hi:findIn K (.ref C) "__init__"=some (some (.ref fI)))(hf:isFn K (.ref fI)=true)
  (h:codeAny (model prog w) (A.under (.builtin "type.__call__" ⟨.ref C::rest,kw⟩)) (.call (.ref fI) ⟨.ref (s.heap.objs.size+1)::rest,kw⟩) (InitBack (s.heap.objs.size+1) R)
   {s with heap:=(s.heap.push emptyDict).push (instObj C s.heap.objs.size)}):codeAny (model prog w) A (.call (.ref C) ⟨rest,kw⟩) R s:=by
 obtain⟨hh,g,d,t,os⟩:=s;exact make_core (makes_of X hm) (looks_findIn X hi) (λ self=>bind_fn X self (beq_iff_eq.mp hf)) (.inl rfl) h
theorem get_field{x C:Addr}{ox:Obj}{es:List DictEntry}{n:Nat}{name:Str}{expr:Bool}{v:Value}{Q:Value->Shared->Prop}
  (X:K.In s.heap)(I:PySem.W.InstAt s.heap x ox C (some (dictOf es n)))(hg:plainGet K C name=true)(hh:hasDictIn K C=true)(ha:findIn K (.ref C) name=some none)
  (hl:getL name es=some (some v))(hv:handedIn v=true)(h:Q v {s with toks:=s.toks+1}):wpAny (model prog w) A (getAttr (.ref x) name expr) Q E s:=
 get_value X I (plainGet_of hg).1 (findObj_own hh ha rfl hl) hv h
def ledger(h:Heap)(L d:Addr):List (Addr×Obj):=(List.range h.objs.size).filterMap λ a=>if a=L\/a=d then none else(h.get? a).map λ o=>(a,o)
end
end Att
namespace L2
open PySem PySem.Spec PyProof.Rows
theorem uy:∀{vs:List Value} {ns:List Int},IntsAre vs ns->Vals (ns.map V.int) vs
 |_,_,.nil=>.nil
 |_,_,.cons n t h=>.cons ⟨t,rfl⟩ (uy h)
def Only(H:Hp):Prop:=∀b,H b=none\/∃o xs,H b=some (.frz o (.lst xs))
def mF(s:Stmt):Arguments:=match s with
 | .FunctionDef _ a _ _ _ _ _ _ _ _=>a
 |_=>{posonlyargs:=[],args:=[],vararg:=none,kwonlyargs:=[],kw_defaults:=[],kwarg:=none,defaults:=[]}
def cM(s:Stmt):List Stmt:=match s with
 | .FunctionDef _ _ b _ _ _ _ _ _ _=>b
 |_=>[]
def aG(s:Stmt):Scope:=match s with
 | .FunctionDef _ _ _ _ _ _ sc _ _ _=>sc
 |_=>{kind:=.function,names:=[],isGenerator:=false,isCoroutine:=false}
abbrev CX0:CXT:=λ _ _ _ _ _ _=>False
abbrev E0:XK:=λ _ _ _=>False
structure Fun(K:PySem.W.Frag)(x qual:Str)(st:Stmt)(f:Addr)(fd:FuncData):Prop where
 ex:∃(oc:Value) (od:Option Addr) (kV doc pm:Value) (an:Option Addr) (cdv ct:Value) (osl:Array (Option Value)),
  fd=PySem.W.fnOf x qual (mF st) (cM st) (aG st) .none kV doc pm an cdv ct/\K.lookup f=some ⟨oc,od,.func fd,osl⟩/\PySem.W.codeIn K cdv qual=true
 kp:PySem.W.keepIn K (.ref f)=true
section
variable{P:Program}{w:World}{K:PySem.W.Frag}{mg:Str->Option Value}{base:Heap}
theorem Fun.binds{x qual:Str}{st:Stmt}{f:Addr}{fd:FuncData}{ps:List Str}(F:Fun K x qual st f fd)
  (h:∀(kV doc pm:Value) (an:Option Addr) (cdv ct:Value) (us:List Value),us.length=ps.length->bindArgs (PySem.W.fnOf x qual (mF st) (cM st) (aG st) .none kV doc pm an cdv ct) ⟨us,[]⟩=pure (ps.zip us)):Binds K fd ps []:=by
 obtain⟨oc,od,kV,doc,pm,an,cdv,ct,osl,rfl,lk,hcd⟩:=F.ex;exact .all (h kV doc pm an cdv ct)
theorem aIq{x qual:Str}{st:Stmt}{f:Addr}{oc:Value}{od an:Option Addr}{osl:Array (Option Value)}{kV doc pm cdv ct:Value}(l:K.lookup f=some ⟨oc,od,.func (PySem.W.fnOf x qual (mF st) (cM st) (aG st) .none kV doc pm an cdv ct),osl⟩)
  (c:PySem.W.codeIn K cdv qual=true)(k:PySem.W.keepIn K (.ref f)=true):Fun K x qual st f (PySem.W.fnOf x qual (mF st) (cM st) (aG st) .none kV doc pm an cdv ct):=⟨⟨oc,od,kV,doc,pm,an,cdv,ct,osl,rfl,l,c⟩,k⟩
end
section
variable{X:Cx}
end
def aU(H H':Hp):Prop:=∀b o,H b=some o->H' b=some o
theorem aU.refl(H:Hp):aU H H:=λ _ _ h=>h
theorem aU.trans{H H1 H2:Hp}(a:aU H H1)(b:aU H1 H2):aU H H2:=λ c o h=>b c o (a c o h)
theorem aU.free{H H':Hp}(e:aU H H'){l:Addr}(h:H' l=Option.none):H l=Option.none:=by
 cases q:H l with
 |none=>rfl
 |some o=>
  rw[e l o q]at h;cases h
end L2
set_option maxHeartbeats 4000000
namespace HT
open PySem PyProof.Rows
def lexLe:List Int->List Int->Bool
 |[],_=>true
 |_::_,[]=>false
 |x::xs,y::ys=>if x=y then lexLe xs ys else decide (x<=y)
theorem aAg(x y:Int)(xs ys:List Int):lexLe (x::xs) (y::ys)=if x=y then lexLe xs ys else decide (x<=y):=rfl
theorem aDV(A:Around)(s:Shared)(a:Int)(t:Tok)(c:Int)(u:Tok)(prog:Program)(w:World)(E:Value->Shared->Prop)(Q:Value->Shared->Prop)(h:Q (.bool (decide (a<=c))) s):
  wpAny (model prog w) A (richCompare .LtE (.int a t) (.int c u)) Q E s:=
 (PyProof.Rows.le_int h:wpAny (model prog w) A (compareOp .LtE (.int a t) (.int c u)) Q E s)
section
open PySem.SeqAt
open PySem.AutoSeq1(wpAny_loadPart')
open PySem.MeetsSeq PySem.MeetsSeq2 PySem.MeetsSeq3
theorem u5(l b:Addr)(items items2:Array Value)(n n2:Nat)(dd dd2:Option Addr)(sl sl2:Array (Option Value))(ns ms:List Int)(hi:IntsAre items.toList ns)(hj:IntsAre items2.toList ms):
  Meets (Builtin.«tuple.__le__» ⟨[.ref l,.ref b],[]⟩)
   (λ _ R s=>s.heap.get? l=some {cls:=.type "tuple",dict:=dd,data:=.seq items n,slots:=sl}/\s.heap.get? b=some {cls:=.type "tuple",dict:=dd2,data:=.seq items2 n2,slots:=sl2}/\
    R (.ok (.ret (.bool (lexLe ns ms)))) s):=
 .of_wp λ prog w A R s h=>by
  obtain⟨hp,g,d,tk,os⟩:=s;obtain⟨hl,hb,h⟩:=h;have f2:=AutoSeq1.sub_tuple_tuple;have z1:items.size=ns.length:=by rw[<-hi.length];simp
  have z2:items2.size=ms.length:=by rw[<-hj.length];simp
  wp_walk using wpAny_loadPart' hl,wpAny_loadPart' hb,wpAny_forIn_list _ (λ rest b s'=>b.1=none/\s'=⟨hp,g,d,tk,os⟩/\∃(vs ws:List Value) (ns' ms':List Int),rest=vs.zip ws/\
   IntsAre vs ns'/\IntsAre ws ms'/\ns'.length+items2.size=ms'.length+items.size/\R (.ok (.ret (.bool (lexLe ns' ms')))) ⟨hp,g,d,tk,os⟩) _
  case turn=>
   rintro⟨y,x⟩ rest b s' ⟨hb',rfl,vs,ws,ns',ms',hz,hvi,hwi,hlen,hR⟩;cases hvi with
   |nil=>rw[List.zip_nil_left]at hz;cases hz
   |cons a t hvi'=>
    cases hwi with
    |nil=>rw[List.zip_nil_right]at hz;cases hz
    |cons c u hwi'=>
     rw[List.zip_cons_cons]at hz;injection hz with hyx hrest
     injection hyx with hy hx
     subst hy hx;rw[aAg]at hR;simp only[List.length_cons]at hlen;obtain⟨e,he,hiff⟩:=zW A.in1 ⟨hp,g,d,tk,os⟩ a t c u;refine wpAny_bind (he prog w _ _ ?_);cases e with
     |true=>
      rw[if_pos (hiff.mp rfl)]at hR;wp_walk;exact⟨rfl,rfl,_,_,_,_,hrest,hvi',hwi',by lia,hR⟩
     |false=>
      rw[if_neg (λ q=>absurd (hiff.mpr q) Bool.false_ne_true)]at hR;have hri:=aDV A.in1 ⟨hp,g,d,tk,os⟩ a t c u prog w;wp_walk using hri;exact⟨_,rfl,by simpa using hR⟩
  case fin=>
   rintro⟨b1,b2⟩ s' ⟨hb',rfl,vs,ws,ns',ms',hz,hvi,hwi,hlen,hR⟩;simp only at hb';subst hb';have hv:lexLe ns' ms'=decide (items.size<=items2.size):=by
    cases hvi with
    |nil=>
     simp only[List.length_nil]at hlen;have e:lexLe [] ms'=true:=by cases ms'<;>rfl
     rw[e];exact(decide_eq_true (by lia)).symm
    |cons a t hv=>
     cases hwi with
     |nil=>
      simp only[List.length_nil,List.length_cons]at hlen;show false=_;exact(decide_eq_false (by lia)).symm
     |cons c u hw=>
      rw[List.zip_cons_cons]at hz;cases hz
   rw[hv]at hR;wp_walk;exact⟨_,rfl,by simpa[Builtin.Tuple.tupleCompareSizes]using hR⟩
  case h=>
   exact⟨rfl,rfl,items.toList,items2.toList,ns,ms,rfl,hi,hj,by lia,h⟩
end
section
variable{prog:Program}{w:World}{A:Around}{E:Value->Shared->Prop}{s:Shared}
theorem aAh(hl:IsTup s.heap l items)(hb:IsTup s.heap b items2)(hi:IntsAre items.toList ns)(hj:IntsAre items2.toList ms)
  (hu:A.units<cLine)(h:Q (.bool (lexLe ns ms)) s):wpAny (model prog w) A (compareOp .LtE (.ref l) (.ref b)) Q E s:=by
 obtain⟨⟨cls,dd,data,sl⟩,ho,hc,n,hd⟩:=id hl;obtain⟨⟨cls2,dd2,data2,sl2⟩,ho2,hc2,n2,hd2⟩:=id hb;simp only at hc hd hc2 hd2;subst hc hd hc2 hd2;exact richCompare_meets_room (op:=.LtE) ⟨_,ho,rfl⟩ ⟨_,ho2,rfl⟩ PySem.F.slot_tuple_le PySem.F.entry_tuple_le (PySem.F.args_tuple_le_2 _ _) (u5 l b items items2 n n2 dd dd2 sl sl2 ns ms hi hj)
  ⟨ho,ho2,show Value.bool (lexLe ns ms)≠Value.notImplemented/\Q (.bool (lexLe ns ms)) s from⟨(λ x=>nomatch x),h⟩⟩ hu
theorem aEm{ws:List Value}(ht:IsTup s.heap t #[])(hb:IsTup s.heap b ws.toArray)(h1:Q (.ref b) s):wpAny (model prog w) A (binaryOp .Add (.ref t) (.ref b)) Q E s:=by
 obtain⟨⟨cls,dd,data,sl⟩,ho,hc,n,hd⟩:=id ht;obtain⟨⟨cls2,dd2,data2,sl2⟩,ho2,hc2,n2,hd2⟩:=id hb;simp only at hc hd hc2 hd2;subst hc hd hc2 hd2;exact concat_meets ⟨_,ho,rfl⟩ ⟨_,ho2,rfl⟩ noFill_tuple_add seq_tuple_add PySem.F.slot_tuple_add PySem.F.entry_tuple_add (PySem.F.args_tuple_add_2 _ _)
   (tuple_addW0 t b #[] ws.toArray n n2 dd dd2 sl sl2 (by simp)) ⟨ho,ho2,h1⟩
theorem oM{lo hi:Option Int}(ht:IsTup s.heap t items)(hs:s.heap.IsSliceOf sl vl vu .none)(pl:IsPart vl lo)(pu:IsPart vu hi)
  (h1:sIx items.size 0 lo=0)(h2:sIx items.size items.size hi=items.size)
  (h:Q (.ref t) s):wpAny (model prog w) A (getItem (.ref t) (.ref sl)) Q E s:=by
 obtain⟨os,hos,hcs,hds⟩:=id hs;have hTs:s.TypeIs (.ref sl) "slice":=⟨os,hos,hcs⟩;obtain⟨ot,hot,hct,hdt⟩:=id ht;unfold getItem
 try with_reducible refine wpAny_holding ?_
 first|refine wpAny_bind (wpAny_pure ?_)|skip
 refine wpAny_bind (wpAny_sequenceKey ht.typeIs (by decide) ?_);refine wpAny_bind (wpAny_callSpecial?_slot (name:=Str.ofString "__getitem__") ht.typeIs PyProof.Rows.slot_tuple_getitem
  (wpAny_call_entry PyProof.Rows.slot_tuple_getitem ht.typeIs entry_tuple_getitem ?_ (args_tuple_getitem _ _)))
 show wpAny _ _ (Builtin.Tuple.tupleItemsOf (.ref t)>>=_) _ _ s;refine wpAny_bind (tupleItemsOf_ ht ?_);refine wpAny_bind (wpAny_typeOf hTs ?_);rw[if_pos (by decide)];refine wpAny_bind (jV hs pl pu ?_);have hyes:(((sIx items.size 0 lo:Nat):Int)==0&&(1:Int)==1&&(sIx items.size items.size hi-sIx items.size 0 lo)==items.size)=true:=by
  rw[h1,h2];simp
 show wpAny _ _ (if (((sIx items.size 0 lo:Nat):Int)==0&&(1:Int)==1&&(sIx items.size items.size hi-sIx items.size 0 lo)==items.size)=true then _ else _) _ _ s;rw[if_pos hyes];unfold Builtin.Tuple.tupleIsExact;refine wpAny_bind (wpAny_bind (wpAny_typeOf ht.typeIs (wpAny_pure ?_)));rw[if_pos (by decide)];exact wpAny_bind (wpAny_rule (wpAny_pure ⟨_,rfl,wpAny_pure h⟩))
theorem aAO(n:Nat):Builtin.Slice.sliceAdjust none none (-1) (n:Int)=((n:Int)-1,-1):=by
 unfold Builtin.Slice.sliceAdjust;rfl
theorem aAN(n:Nat):Builtin.Slice.slicePlaces ((n:Int)-1) (-1) (-1)=n:=by
 unfold Builtin.Slice.slicePlaces;rw[if_neg (by decide)];by_cases h:n=0
 ·subst h;rfl
 ·rw[if_pos (by lia)]
  have e:((n:Int)-1 - -1-1) / (- -1)+1=n:=by
   rw[show(- -1:Int)=1 by decide,Int.ediv_one];lia
  rw[e];simp
theorem aDR(xs:Array Value):((List.range xs.size).filterMap λ(m:Nat)=>xs[(((xs.size:Int)-1)+(m:Int)*(-1)).toNat]?)=xs.toList.reverse:=by
 apply List.ext_getElem?;intro i;have key:∀n,n<=xs.size->((List.range n).filterMap λ(m:Nat)=>xs[(((xs.size:Int)-1)+(m:Int)*(-1)).toNat]?)=xs.toList.reverse.take n:=by
  intro n;induction n with
  |zero=>intro _;simp
  |succ n ih=>
   intro hn;rw[List.range_succ,List.filterMap_append,ih (by lia),List.take_add_one];congr 1;have e:(((xs.size:Int)-1)+(n:Int)*(-1)).toNat=xs.size-1-n:=by lia
   simp only[List.filterMap_cons,List.filterMap_nil,e];rw[List.getElem?_reverse (by rw[Array.length_toList];lia)];have e2:xs.toList.length-1-n=xs.size-1-n:=by simp
   rw[e2,Array.getElem?_toList];have hlt:xs.size-1-n<xs.size:=by lia
   rw[Array.getElem?_eq_getElem hlt];rfl
 rw[key xs.size (Nat.le_refl _),List.take_of_length_le (by simp)]
theorem o9{n:Nat}(hs:s.heap.IsSliceOf sl .none .none (.int (-1) u))
  (h:Q ((n:Int)-1,-1,n) s):wpAny (model prog w) A (Builtin.Slice.sliceApplied (.ref sl) (pure (n:Int))) Q E s:=by
 obtain⟨os,hos,hcs,hds⟩:=id hs;unfold Builtin.Slice.sliceApplied Builtin.Slice.sliceFields;refine wpAny_bind (wpAny_bind (wpAny_field hos hds (x:=.none) rfl (wpAny_bind (wpAny_field hos hds (x:=.none) rfl (wpAny_bind (wpAny_field hos hds (x:=.int (-1) u) rfl (wpAny_pure ?_)))))));refine wpAny_bind (slicePart_int ?_);show wpAny _ _ (if ((-1:Int)==0)=true then _ else _) _ _ s;rw[if_neg (by decide)];refine wpAny_bind (slicePart_none (wpAny_bind (slicePart_none (wpAny_bind (wpAny_pure ?_)))));show wpAny _ _ (match Builtin.Slice.sliceAdjust none none (-1) (n:Int)with|(lo,hi)=>pure (lo,(-1:Int),Builtin.Slice.slicePlaces lo hi (-1))) _ _ s;rw[aAO n];show wpAny _ _ (pure ((n:Int)-1,(-1:Int),Builtin.Slice.slicePlaces ((n:Int)-1) (-1) (-1))) _ _ s;rw[aAN];exact wpAny_pure h
theorem oJ(ht:IsTup s.heap t items)(hs:s.heap.IsSliceOf sl .none .none (.int (-1) u))
  (h:Q (.ref s.heap.objs.size) {s with heap:=s.heap.push {cls:=.type "tuple",data:=.seq items.toList.reverse.toArray}})
  (hsz:items.size<=sizeLine):wpAny (model prog w) A (getItem (.ref t) (.ref sl)) Q E s:=by
 have htake:sizeOk (.seq items.toList.reverse.toArray):=by
  show items.toList.reverse.toArray.size<=sizeLine;rw[List.size_toArray,List.length_reverse,Array.length_toList];lia
 obtain⟨os,hos,hcs,hds⟩:=id hs;have hTs:s.TypeIs (.ref sl) "slice":=⟨os,hos,hcs⟩;unfold getItem
 try with_reducible refine wpAny_holding ?_
 first|refine wpAny_bind (wpAny_pure ?_)|skip
 refine wpAny_bind (wpAny_sequenceKey ht.typeIs (by decide) ?_);refine wpAny_bind (wpAny_callSpecial?_slot (name:=Str.ofString "__getitem__") ht.typeIs PyProof.Rows.slot_tuple_getitem
  (wpAny_call_entry PyProof.Rows.slot_tuple_getitem ht.typeIs entry_tuple_getitem ?_ (args_tuple_getitem _ _)))
 show wpAny _ _ (Builtin.Tuple.tupleItemsOf (.ref t)>>=_) _ _ s;refine wpAny_bind (tupleItemsOf_ ht ?_);refine wpAny_bind (wpAny_typeOf hTs ?_);rw[if_pos (by decide)];refine wpAny_bind (o9 hs ?_);show wpAny _ _ (if (((items.size:Int)-1==0&&(-1:Int)==1&&items.size==items.size))=true then _ else _) _ _ s;rw[if_neg (by simp)];rw[show((List.range items.size).filterMap λ(k:Nat)=>items[(((items.size:Int)-1)+(k:Int)*(-1)).toNat]?)=items.toList.reverse from aDR items]
 first
  |exact wpAny_bind (m:=Builtin.Tuple.tupleExact _) (wpAny_newObj_type (wpAny_pure ⟨_,rfl,wpAny_pure h⟩) htake)
  |exact wpAny_bind (m:=Builtin.Tuple.tupleExact _) (wpAny_newObj_type (wpAny_bind (wpAny_pure (wpAny_pure ⟨_,rfl,wpAny_pure h⟩))) htake)
  |exact wpAny_bind (wpAny_bind (m:=Builtin.Tuple.tupleExact _) (wpAny_newObj_type (wpAny_pure (wpAny_pure ⟨_,rfl,wpAny_pure h⟩)) htake))
  |exact wpAny_bind (wpAny_bind (m:=Builtin.Tuple.tupleExact _) (wpAny_newObj_type (wpAny_pure ⟨_,rfl,wpAny_pure h⟩) htake))
end
end HT
namespace L2
open PySem PySem.Spec PyProof.Rows
def aGP(t T:String):Bool:=decide (t=T)||(decide (t="bool")&&decide (T="int"))
theorem aGL{K:PySem.W.Frag}(ht:t∈["NoneType","bool","int","str","list","tuple","dict"])(hT:T∈["bool","int","str","list","tuple","dict"]):
  PySem.W.kitOne K (.type t) (.type T)=some (aGP t T):=by
 simp only[List.mem_cons,List.not_mem_nil,or_false]at ht hT;rcases ht with rfl|rfl|rfl|rfl|rfl|rfl|rfl<;>rcases hT with rfl|rfl|rfl|rfl|rfl|rfl<;>kernel_rfl
def mW(t T:String)(b:Bool):Bool:=decide (t∈["NoneType","bool","int","str","list","tuple","dict"])&&decide (T∈["bool","int","str","list","tuple","dict"])&&(aGP t T==b)
theorem aAo{K:PySem.W.Frag}(h:mW t T b=true):PySem.W.kitOne K (.type t) (.type T)=some b:=by
 unfold mW at h;rw[Bool.and_eq_true,Bool.and_eq_true]at h;rw[aGL (of_decide_eq_true h.1.1) (of_decide_eq_true h.1.2),eq_of_beq h.2]
theorem bO(h:H p=none)(o:HO):aU H (upd H p o):=λ b u q=>by rw[aa (bZ q h)];exact q
section
variable{X:Cx}
def aKU(K:PySem.W.Frag):List V->Hp->VK->Prop:=λ xs H Q=>∃x T t b,xs=[x,.ty T]/\qD K H x (.type t)/\mW t T b=true/\Q (.bl b) H
theorem jb:bx X (.builtin "isinstance") (aKU X.K):=by
 intro pins s σ H xs us Q I r h;obtain⟨x,T,t,b,rfl,ty,ok,q⟩:=h;obtain⟨u,w',rfl,r1,r2⟩:=vals2 r;obtain rfl:w'=Value.type T:=r2;exact aC3 I r1 ty (aAo ok) λ tk=>⟨.bl b,H,I.tok tk,rfl,q⟩
def aF1(K:PySem.W.Frag):R2:=λ x y H Q=>∃a b ns ms,x= .ref a/\y= .ref b/\SqT K H a (ns.map V.int)/\SqT K H b (ms.map V.int)/\Q (.bl (HT.lexLe ns ms)) H
theorem aIW(hu:X.A.units<cLine):OpR X (compareOp .LtE) (aF1 X.K):=by
 intro pins s σ H x y v u Q I rx ry h;obtain⟨a,b,ns,ms,rfl,rfl,ha,hb,q⟩:=h;cases rx;cases ry;obtain⟨its,r1,p1,_⟩:=I.tuple ha;obtain⟨its2,r2,p2,_⟩:=I.tuple hb;have i1:IntsAre its.toArray.toList ns:=intsAre_of r1;have i2:IntsAre its2.toArray.toList ms:=intsAre_of r2;exact HT.aAh p1 p2 i1 i2 hu ⟨.bl (HT.lexLe ns ms),H,I,rfl,q⟩
theorem aDn:OpR X (compareOp .Is) (λ x y H Q=>∃b c,x= .bl b/\y= .bl c/\Q (.bl (b==c)) H):=by
 intro pins s σ H x y v u Q I rx ry h;obtain⟨b,c,rfl,rfl,q⟩:=h;cases rx;cases ry;exact is_bool (aAx I q rfl)
end
def kJ(l:Addr)(H H':Hp):Prop:=∀b o,b≠l->H b=some o->H' b=some o
theorem aU.sqt{K:PySem.W.Frag}(e:aU H H')(h:SqT K H a xs):SqT K H' a xs:=by
 rcases h with (h|⟨o,h⟩)|h
 ·exact .inl (.inl (e _ _ h))
 ·exact .inl (.inr ⟨o,e _ _ h⟩)
 ·exact .inr h
inductive D where
 |non|bl (b:Bool)|int (i:Int)|str (x:Str)|tup (l:List D)|lst (l:List D)|dct
mutual
inductive Rep(H:Hp):V->D->Prop where
 |non:Rep H .non .non
 |bl (b:Bool):Rep H (.bl b) (.bl b)
 |int (i:Int):Rep H (.int i) (.int i)
 |str (x:Str):Rep H (.str x) (.str x)
 |tup {a:Addr} {xs:List V} {ds:List D} (h:H a=some (.tup xs)) (r:eX H xs ds):Rep H (.ref a) (.tup ds)
 |lst {a:Addr} {xs:List V} {ds:List D} (h:H a=some (.lst xs)) (r:eX H xs ds):Rep H (.ref a) (.lst ds)
 |dct {a:Addr} (h:H a=some (.dK [])):Rep H (.ref a) .dct
inductive eX(H:Hp):List V->List D->Prop where
 |nil:eX H [] []
 |cons {x:V} {d:D} {xs:List V} {ds:List D} (h:Rep H x d) (r:eX H xs ds):eX H (x::xs) (d::ds)
end
mutual
theorem Rep.mono(s:aU H H'):∀{x:V} {d:D},Rep H x d->Rep H' x d
 |_,_,.non=>.non
 |_,_,.bl b=>.bl b
 |_,_,.int i=>.int i
 |_,_,.str x=>.str x
 |_,_,.tup h r=>.tup (s _ _ h) (eX.mono s r)
 |_,_,.lst h r=>.lst (s _ _ h) (eX.mono s r)
 |_,_,.dct h=>.dct (s _ _ h)
theorem eX.mono(s:aU H H'):∀{xs:List V} {ds:List D},eX H xs ds->eX H' xs ds
 |_,_,.nil=>.nil
 |_,_,.cons h r=>.cons (Rep.mono s h) (eX.mono s r)
end
theorem eX.length:∀{xs:List V} {ds:List D},eX H xs ds->xs.length=ds.length
 |_,_,.nil=>rfl
 |_,_,.cons _ r=>by rw[List.length_cons,List.length_cons,eX.length r]
theorem eX.get:∀{xs:List V} {ds:List D} {i:Nat} {x:V},eX H xs ds->xs[i]? =some x->∃d,ds[i]? =some d/\Rep H x d
 |_,_,_,_,.nil,e=>by simp at e
 |_,_,0,_,.cons h _,e=>by simp at e;subst e;exact⟨_,rfl,h⟩
 |_,_,i+1,x,.cons _ r,e=>by
  obtain⟨d,h1,h2⟩:=eX.get (i:=i) (x:=x) r (by simpa using e);exact⟨d,by simpa using h1,h2⟩
def tyD:D->String
 | .non=>"NoneType"| .bl _=>"bool"| .int _=>"int"| .str _=>"str"| .tup _=>"tuple"| .lst _=>"list"| .dct=>"dict"
theorem PE.weaken(h:PE X e t)(imp:∀σ H Q,t' σ H Q->t σ H Q):PE X e t':=λ pins s σ H Q I q=>h pins s σ H Q I (imp σ H Q q)
theorem OpR.weaken(h:OpR X f r)(imp:∀x y H Q,r' x y H Q->r x y H Q):OpR X f r':=λ pins s σ H x y v u Q I rx ry q=>h pins s σ H x y v u Q I rx ry (imp x y H Q q)
def New(H:Hp)(o:HO)(Q:VK):Prop:=∀p H',aU H H'->H' p=some o->H p=none->Q (.ref p) H'
theorem New.at(n:New H o Q)(hp:H p=none):Q (.ref p) (upd H p o):=n p _ (bO hp o) ao hp
section
variable{X:Cx}{e:Expr}{es:List Expr}{te:TE}{t:TA}{pos:Pos}
def aJK(t:TA):TE:=λ σ H Q=>t σ H λ xs H1=>xs.length<=sizeLine/\New H1 (.tup xs) Q
def aCt(t:TA):TE:=λ σ H Q=>t σ H λ xs H1=>xs.length<=sizeLine/\New H1 (.lst xs) Q
theorem aFd{x1}(h:PA X es t):PE X (.Tuple es x1 pos) (aJK t):=by
 have h':PA X es (λ σ H Q=>∃R:List V->Hp->Prop,t σ H R/\∀xs H',R xs H'->Q xs H'):=by
  intro pos pins s σ H Q I ⟨R,q,imp⟩;exact thn (h pos pins s σ H R I q) λ us s' ⟨vs,H',I',r,q'⟩=>⟨vs,H',I',r,imp _ _ q'⟩
 exact(aIB h').weaken λ σ H Q q=>⟨_,q,λ xs H' ⟨z,n⟩=>⟨z,λ p hp=>n.at hp⟩⟩
theorem jt(h:PA X es t):PE X (.List es pos) (aCt t):=by
 have h':PA X es (λ σ H Q=>∃R:List V->Hp->Prop,t σ H R/\∀xs H',R xs H'->Q xs H'):=by
  intro pos pins s σ H Q I ⟨R,q,imp⟩;exact thn (h pos pins s σ H R I q) λ us s' ⟨vs,H',I',r,q'⟩=>⟨vs,H',I',r,imp _ _ q'⟩
 exact(aIE h').weaken λ σ H Q q=>⟨_,q,λ xs H' ⟨z,n⟩=>⟨z,λ p hp=>n.at hp⟩⟩
def aDY:R2:=λ x y H Q=>∃l b xs zs,x= .ref l/\y= .ref b/\H l=some (.lst xs)/\H b=some (.lst zs)/\xs.length+zs.length<=sizeLine/\New H (.lst (xs++zs)) Q
theorem ww:OpR X (binaryOp .Add) aDY:=aI0.weaken λ x y H Q ⟨l,b,xs,zs,e1,e2,h1,h2,z,n⟩=>⟨l,b,xs,zs,e1,e2,h1,h2,z,λ p hp=>n.at hp⟩
def sW:V->List V->Hp->VK->Prop:=λ x vs H Q=>∃l xs y,x= .ref l/\vs=[y]/\H l=some (.lst xs)/\xs.length<sizeLine/\∀H',kJ l H H'->H' l=some (.lst (xs++[y]))->Q .non H'
theorem tM:MtM X "list.append" sW:=λ pins s σ H x xs v us Q I rx rv ⟨l,ys,y,e1,e2,h,z,n⟩=>
 vP pins s σ H x xs v us Q I rx rv ⟨l,ys,y,e1,e2,h,z,n _ (λ b o ne hb=>by rw[aa ne];exact hb) ao⟩
end
section
variable{X:Cx}{a b c:Expr}{ta tb:TE}{tt:TT}{pos:Pos}
end
def aq(scope:Scope)(env:Env):List (Str×Addr):=(scope.names.filterMap λ y=>if y.2== .free then(env.cells.lookup y.1).map λ c=>(y.1,c)else none).reverse
theorem uP(env:Env):∀(names:List (Str×NameKind)) (acc:List (Str×Addr)),(∀y∈names,y.2= .free->∃c,env.cells.lookup y.1=some c)->
  (forIn names acc λ(x:Str×NameKind) r=>if (x.2== .free)=true then do let c <-cellOf env x.1;pure (ForInStep.yield ((x.1,c)::r))else pure (ForInStep.yield r):Sem (List (Str×Addr)))=
   pure ((names.filterMap λ y=>if y.2== .free then(env.cells.lookup y.1).map λ c=>(y.1,c)else none).reverse++acc)
 |[],acc,_=>rfl
 |(n,k)::r,acc,h=>by
  rw[List.forIn_cons];have ih:=λ acc'=>uP env r acc' λ y hy=>h y (List.mem_cons_of_mem _ hy)
  by_cases hk:k= .free
  ·subst hk
   obtain⟨c,hc⟩:=h (n,.free) List.mem_cons_self rfl;have hc':env.cells.lookup n=some c:=hc;simp only[beq_self_eq_true,if_true,cellOf,hc',List.filterMap_cons,Option.map_some,List.reverse_cons,List.append_assoc,List.singleton_append];exact ih _
  ·have hb:(k==NameKind.free)=false:=by simpa using hk
   simp only[hb,Bool.false_eq_true,if_false,List.filterMap_cons];exact ih _
theorem jQ(h:∀y∈scope.names,y.2= .free->∃c,env.cells.lookup y.1=some c):closureFor scope env=pure (aq scope env):=by
 have e:=uP env scope.names [] h;rw[List.append_nil]at e;have e2:closureFor scope env=((forIn scope.names ([]:List (Str×Addr)) λ(x:Str×NameKind) r=>if (x.2== .free)=true then do let c <-cellOf env x.1;pure (ForInStep.yield ((x.1,c)::r))else pure (ForInStep.yield r):Sem (List (Str×Addr)))>>=λ r=>pure r):=rfl;rw[e2,e];rfl
theorem eG(h:(aq scope env).lookup x=some c):env.cells.lookup x=some c:=by
 have hm:=PySem.mem_of_lookup h;unfold aq at hm;rw[List.mem_reverse,List.mem_filterMap]at hm;obtain⟨y,hy,e⟩:=hm;split at e
 ·cases q:env.cells.lookup y.1 with
  |none=>rw[q]at e;cases e
  |some c'=>
   rw[q]at e;have e':=Option.some.inj e;injection e' with e1 e2
   subst e1 e2;exact q
 ·cases e
theorem oR(hx:scope.names.lookup x=some .free)(h:env.cells.lookup x=some c):(aq scope env).lookup x=some c:=by
 have hm:(x,NameKind.free)∈scope.names:=PySem.mem_of_lookup hx
 have:(x,c)∈aq scope env:=by
  unfold aq;rw[List.mem_reverse,List.mem_filterMap];exact⟨_,hm,by simp[h]⟩
 cases q:(aq scope env).lookup x with
 |none=>
  exact absurd this (by
   intro hm'
   have:=List.lookup_eq_none_iff.mp q _ hm'
   simp at this)
 |some c'=>
  have:=eG q
  rw[h]at this;exact this.symm▸rfl
def qm(scope:Scope)(C:Addr):List (Str×Addr):=cellsFrom (C+1) scope.names []
theorem j9:∀(names:List (Str×NameKind)) (n:Nat) (acc:List (Str×Addr)),cellsFrom n names acc=cellsFrom n names []++acc
 |[],_,_=>rfl
 |(x,k)::r,n,acc=>by
  unfold cellsFrom;split
  ·rw[j9 r (n+1) ((x,n)::acc),j9 r (n+1) [(x,n)],List.append_assoc];rfl
  ·exact j9 r n acc
theorem nT:∀{names:List (Str×NameKind)} {n:Nat} {x:Str} {c:Addr},(x,c)∈cellsFrom n names []->(x,NameKind.cell)∈names
 |(y,k)::r,n,x,c,h=>by
  unfold cellsFrom at h;split at h
  ·rename_i hk
   rw[j9,List.mem_append]at h;rcases h with h|h
   ·exact List.mem_cons_of_mem _ (nT h)
   ·have e:=List.mem_singleton.mp h
    cases e;rw[eq_of_beq hk];exact List.mem_cons_self
  ·exact List.mem_cons_of_mem _ (nT h)
 |[],_,_,_,h=>by cases h
theorem j0{l m:List (Str×Addr)}(h:(l++m).lookup x=some c):l.lookup x=some c\/(l.lookup x=none/\m.lookup x=some c):=by
 rw[List.lookup_append]at h;cases e:l.lookup x with
 |some c'=>rw[e]at h;exact .inl h
 |none=>rw[e]at h;exact .inr ⟨rfl,h⟩
theorem aFy{M:Model}{A:Around}{E:Value->Shared->Prop}{s:Shared}{scope:Scope}{globals:Addr}{cl:List (Str×Addr)}{qual:Str}{env:Env}{Q:Env->Shared->Prop}
  (h:∀h':Heap,h'.Ns s.heap.objs.size (λ _=>none)->(∀b o,s.heap.get? b=some o->h'.get? b=some o)->CellsOk h' (s.heap.objs.size+1) (qm scope s.heap.objs.size)->
   Q {scope:=scope,locals:=s.heap.objs.size,globals:=globals,cells:=qm scope s.heap.objs.size++cl,qual:=qual,func:=none,code:=env.code,frame:=env.frame,builtins:=env.builtins} {s with heap:=h'}):
  wpAny M A (newFunctionEnv scope globals cl [] qual none .none (some env)) Q E s:=by
 simp only[newFunctionEnv,Option.isSome_some,if_true];refine wpAny_bind (wpAny_alloc ?_);refine wpAny_bind (wpAny_layCells _ (λ name kind cells=>by cases hkc:kind==NameKind.cell<;>simp[hkc]) _ _ _ _ ?_);have ok:=cellsFrom_ok scope.names (s.heap.push {cls:=.type "dict",data:=.dict #[]}) (s.heap.objs.size+1) [] ⟨λ _ _ hm=>(nomatch hm),List.Pairwise.nil⟩ (by rw[Heap.size_push];exact Nat.le_refl _);rw[Heap.size_push]at ok;rw[show({s with heap:=s.heap.push {cls:=.type "dict",data:=.dict #[]}}:Shared).heap.objs.size=s.heap.objs.size+1 from Heap.size_push ..,j9];refine wpAny_pure ?_;exact h _ ((Heap.Ns.new s.heap (.type "dict")).keeps (pushCells_keeps _ _)) (λ b o e=>pushCells_keeps _ _ b o (Heap.get?_push_of_some _ e)) ok
def Cx.block(X:Cx)(scope:Scope)(C:Addr)(N:List Str)(fp:List Addr)(s₀:Shared)(H₀:Hp):Cx:=
  {prog:=X.prog,w:=X.w,K:=X.K,mg:=X.mg,base:=X.base,A:=X.A,N:=N,s₀:=s₀,H₀:=H₀,env:=compEnvC scope (qm scope C++aq scope X.env) C X.env,outer:=X.stack,stack:=X.stack,ex:=fp,
    fn:=λ x=>scope.names.lookup x==some .cell,calm:=X.calm,pn:=[],xe:=λ _ _=>False}
structure gU(X:Cx)(scope:Scope)(N:List Str)(st:St->St)(ks:List Nat):Prop where
 kind:scope.kind= .function
 sep:∀y∈scope.names,y.2= .cell->scope.names.lookup y.1=some .cell
 loc:∀y∈scope.names,y.2= .local->scope.names.lookup y.1=some .local
 free:∀y∈scope.names,y.2= .free->X.env.kindOf y.1=some .cell\/X.env.kindOf y.1=some .free
 len:∀σ,(st σ).length=N.length
 val:∀σ (i:Nat) x v,N[i]? =some x->(st σ)[i]? =some (some v)->scope.names.lookup x=some .free/\i∉ks/\∃j:Nat,X.N[j]? =some x/\σ[j]? =some (some v)
theorem wX(h:(relabel scope env).names.lookup x=some .cell\/(relabel scope env).names.lookup x=some .free):scope.names.lookup x=some .free\/scope.names.lookup x=some .cell:=by
 have go:∀names:List (Str×NameKind),((names.map λ(n,k)=>if (k==NameKind.free&&env.scope.kind== .function&&env.kindOf n==some .cell)then(n,NameKind.cell)else(n,k)).lookup x=some .cell\/
   (names.map λ(n,k)=>if (k==NameKind.free&&env.scope.kind== .function&&env.kindOf n==some .cell)then(n,NameKind.cell)else(n,k)).lookup x=some .free)->names.lookup x=some .free\/names.lookup x=some .cell:=by
  intro names;induction names with
  |nil=>intro h;simp at h
  |cons y r ih=>
   obtain⟨n,k⟩:=y;intro h;rw[List.map_cons]at h;by_cases hx:x==n
   ·rw[List.lookup_cons,hx]
    show some k=some .free\/some k=some .cell;by_cases hcc:(k==NameKind.free&&env.scope.kind== .function&&env.kindOf n==some .cell)=true
    ·rw[Bool.and_eq_true,Bool.and_eq_true]at hcc
     rw[eq_of_beq hcc.1.1];exact .inl rfl
    ·simp only[if_neg hcc,List.lookup_cons,hx]at h
     exact h.elim .inr .inl
   ·have hx':(x==n)=false:=by simpa using hx
    rw[List.lookup_cons,hx'];refine ih ?_;by_cases hcc:(k==NameKind.free&&env.scope.kind== .function&&env.kindOf n==some .cell)=true
    ·simp only[if_pos hcc,List.lookup_cons,hx']at h
     exact h
    ·simp only[if_neg hcc,List.lookup_cons,hx']at h
     exact h
 exact go scope.names h
theorem wY(h:scope.names.lookup x=some .free):(relabel scope env).names.lookup x=some .cell\/(relabel scope env).names.lookup x=some .free:=by
 have go:∀names:List (Str×NameKind),names.lookup x=some .free->((names.map λ(n,k)=>if (k==NameKind.free&&env.scope.kind== .function&&env.kindOf n==some .cell)then(n,NameKind.cell)else(n,k)).lookup x=some .cell\/
   (names.map λ(n,k)=>if (k==NameKind.free&&env.scope.kind== .function&&env.kindOf n==some .cell)then(n,NameKind.cell)else(n,k)).lookup x=some .free):=by
  intro names;induction names with
  |nil=>intro h;simp at h
  |cons y r ih=>
   obtain⟨n,k⟩:=y;intro h;rw[List.map_cons];by_cases hx:x==n
   ·rw[List.lookup_cons,hx]at h
    have hk:k= .free:=Option.some.inj h;by_cases hcc:(k==NameKind.free&&env.scope.kind== .function&&env.kindOf n==some .cell)=true
    ·simp only[if_pos hcc,List.lookup_cons,hx]
     exact .inl trivial
    ·simp only[if_neg hcc,List.lookup_cons,hx]
     exact .inr (by rw[hk])
   ·have hx':(x==n)=false:=by simpa using hx
    rw[List.lookup_cons,hx']at h;by_cases hcc:(k==NameKind.free&&env.scope.kind== .function&&env.kindOf n==some .cell)=true
    ·simp only[if_pos hcc,List.lookup_cons,hx']
     exact ih h
    ·simp only[if_neg hcc,List.lookup_cons,hx']
     exact ih h
 exact go scope.names h
section
variable{X:Cx}{pins:List (Addr×Obj)}{σ:St}{H H':Hp}{s:Shared}
theorem Inv.block{st:St->St}{D C:Addr}(I:Inv X pins σ H s)(B:gU X scope N st ks)
  (hfp:∀b∈fp,uX X pins H b)(hob:∀b∈fp,∃ob,s.heap.get? b=some ob)
  (hD:s.heap.objs.size<=D)(hC:s.heap.objs.size<=C)(hDC:D≠C)(keep:∀b u,s.heap.get? b=some u->h'.get? b=some u)(hns:h'.Ns C λ _=>none)(hcs:CellsOk h' (C+1) (qm scope C))(hDo:∀c,C<c->D≠c)(hacc:cX X.prog X.w (upd H D o) h' D o):
  Inv (X.block scope C N fp s H) [] (st σ) (upd H D o) {s with heap:=h',toks:=tk}:=by
 have hHD:H D=none:=I.hok.fresh hD;have hcl:∀x c,(aq scope X.env).lookup x=some c->X.env.cells.lookup x=some c:=λ x c e=>eG e
 have hol:∀x c,(qm scope C).lookup x=some c->C<c/\h'.IsCell c none:=λ x c e=>let⟨q1,q2⟩:=hcs.empty x c (PySem.mem_of_lookup e);⟨q2,q1⟩
 have hlt:∀x c,(aq scope X.env).lookup x=some c->c<s.heap.objs.size:=λ x c e=>let⟨v,ic⟩:=I.cell x c (hcl x c e);ic.lt
 have hfresh:∀b∈fp,b<s.heap.objs.size:=λ b hb=>by
  obtain⟨ob,e⟩:=hob b hb;exact Heap.lt_size e
 refine⟨⟨I.mod,?_,I.ok.glob,I.ok.blt,hC,λ x y c e1 e2=>?_,λ x hx=>?_,λ x c hf e=>?_,I.ok.hd,I.ok.frames,.inl rfl,λ b hb=>⟨?_,λ x c e z=>?_⟩,
  I.bs,?_,λ b ob e hb=>?_,λ b hb hs=>?_,I.stack,I.stkFree⟩,rfl,I.bare,Un.laid keep hD hHD,⟨_,hns,λ i x v e1 e2 hv=>?_⟩,λ x c e=>?_,?_,λ x c e=>?_,λ p hp=>absurd (show p∈([]:List (Addr×Obj))from hp) (by simp),I.hok.laid keep hD hacc,B.len σ,λ p hp=>absurd (show p∈([]:List (Addr×Obj))from hp) (by simp)⟩
 ·show(relabel scope X.env).kind= .function
  exact B.kind
 ·rcases j0 e1 with a1|⟨_,a1⟩<;>rcases j0 e2 with a2|⟨_,a2⟩
  ·exact PySem.name_of_addr hcs.apart (PySem.mem_of_lookup a1) (PySem.mem_of_lookup a2)
  ·exact absurd (hlt y c a2) (Nat.not_lt.mpr (Nat.le_trans hC (Nat.le_of_lt (hol x c a1).1)))
  ·exact absurd (hlt x c a1) (Nat.not_lt.mpr (Nat.le_trans hC (Nat.le_of_lt (hol y c a2).1)))
  ·exact I.ok.inj x y c (hcl x c a1) (hcl y c a2)
 ·show∃c,(qm scope C++aq scope X.env).lookup x=some c
  rw[List.lookup_append];cases e:(qm scope C).lookup x with
  |some c=>exact⟨c,rfl⟩
  |none=>
   rcases wX hx with hfree|hcell
   ·obtain⟨c,hc⟩:=I.ok.has x (B.free (x,.free) (PySem.mem_of_lookup hfree) rfl)
    exact⟨c,oR hfree hc⟩
   ·obtain⟨c,hc⟩:=oU (n:=C+1) hcell
    rw[show(qm scope C).lookup x=some c from hc]at e;cases e
 ·rcases j0 e with a1|⟨a0,_⟩
  ·exact Nat.le_trans hC (Nat.le_of_lt (hol x c a1).1)
  ·obtain⟨c',hc'⟩:=oU (n:=C+1) (eq_of_beq hf)
   rw[show(qm scope C).lookup x=some c' from hc']at a0;cases a0
 ·exact Nat.ne_of_lt (Nat.lt_of_lt_of_le (hfresh b hb) hC)
 ·rcases j0 e with a1|⟨_,a1⟩
  ·exact absurd (hfresh b hb) (Nat.not_lt.mpr (by rw[<-z];exact Nat.le_trans hC (Nat.le_of_lt (hol x c a1).1)))
  ·exact(hfp b hb).2.2.2.2.1 x c (hcl x c a1) z
 ·exact Nat.le_trans I.ok.bsz I.sz
 ·rcases(hfp b hb).2.2.2.1 with z|z
  ·exact I.ok.noex b ob e z
  ·exact absurd (Nat.lt_of_lt_of_le (Heap.lt_size (I.ok.bs b ob e).1) z) (Nat.lt_irrefl _)
 ·rcases List.mem_cons.mp (I.stkSub b hs)with z|z
  ·exact(hfp b hb).2.1 z
  ·exact(hfp b hb).2.2.1 z
 ·obtain⟨hfree,_,j,f1,f2⟩:=B.val σ i x v e1 e2
  obtain⟨m,hn,hl⟩:=I.loc;have hk:=B.free (x,.free) (PySem.mem_of_lookup hfree) rfl;obtain⟨u,ru,hu⟩:=hl j x v f1 f2 (hk.elim (λ z=>.inr (.inl z)) λ z=>.inr (.inr z));rcases hu with ⟨k,_⟩|⟨_,c,ec,ic⟩
  ·rcases hk with z|z
   ·exact absurd (k.symm.trans z) (by decide)
   ·exact absurd (k.symm.trans z) (by decide)
  ·have hno:(qm scope C).lookup x=none:=by
    cases e:(qm scope C).lookup x with
    |none=>rfl
    |some c'=>
     have:=B.sep _ (nT (PySem.mem_of_lookup e)) rfl
     rw[hfree]at this;cases this
   refine⟨u,ru,.inr ⟨?_,c,by show(qm scope C++aq scope X.env).lookup x=some c;rw[List.lookup_append,hno];exact oR hfree ec,ic.keeps keep⟩⟩;rcases hv with z|z|z
   ·have z':(relabel scope X.env).names.lookup x=some .local:=z
    rcases wY (env:=X.env) hfree with y|y
    ·exact absurd (z'.symm.trans y) (by decide)
    ·exact absurd (z'.symm.trans y) (by decide)
   ·exact .inl z
   ·exact .inr z
 ·rcases j0 e with a1|⟨_,a1⟩
  ·exact⟨_,(hol x c a1).2⟩
  ·obtain⟨v,ic⟩:=I.cell x c (hcl x c a1)
   exact⟨v,ic.keeps keep⟩
 ·show upd H D o C=none
  rw[aa (Ne.symm hDC)];exact I.hok.fresh hC
 ·show upd H D o c=none
  rcases j0 e with a1|⟨_,a1⟩
  ·rw[aa (Ne.symm (hDo c (hol x c a1).1))]
   exact I.hok.fresh (Nat.le_trans hC (Nat.le_of_lt (hol x c a1).1))
  ·obtain⟨v,ic⟩:=I.cell x c (hcl x c a1)
   rw[aa (Nat.ne_of_lt (Nat.lt_of_lt_of_le ic.lt hD))];exact I.freeC x c (hcl x c a1)
end
section
variable{prog:Program}{w:World}{A:Around}{R:Result->Shared->Prop}{s:Shared}
theorem xn(I:Nat->Shared->Prop)
  (turn:∀n s,I n s->wpAny (model prog w) A (pyNext it) (λ r s₁=>match r with
   |none=>R (.ok .next) s₁
   |some v=>wpAny (model prog w) A (letOwnedTupleGo target it v) (λ _ s₁=>wpAny (model prog w) A (assign target env v) (λ _ s₂=>
     wpAny (model prog w) A (forIn ifs true λ c r=>if r=true then do let ok <-isTrue c env (eval c env);pure (ForInStep.yield ok)else pure (ForInStep.yield r)) (λ ok s₃=>
      if ok=true then wpAny (model prog w) A (eval elt env) (λ x s₄=>
       wpAny (model prog w) A (call (.builtin "list.append") [acc,x]) (λ _ s₅=>∃m,m<n/\I m s₅) (λ _ _=>False) s₄) (λ _ _=>False) s₃
      else∃m,m<n/\I m s₃) (λ _ _=>False) s₂) (λ _ _=>False) s₁) (λ _ _=>False) s₁) (λ _ _=>False) s)
  (n:Nat)(h:I n s):codeAny (model prog w) A (.compLoop (.ListComp elt [⟨target,iter,ifs,0⟩] scope pos) 0 it acc env) R s:=by
 refine codeAny_loop rfl I (λ n s hI=>?_) n h;show wpAny _ A ((compTurn (.ListComp elt [⟨target,iter,ifs,0⟩] scope pos) 0 it acc env).onRaise (λ x=>do noteFrame x env;theTreesLotGoes x)) _ _ s;refine wpAny_noted ?_;rw[compTurn_list];refine wpAny_bind (wpAny_standAt (wpAny_bind (wpAny_mono (turn n s hI) (λ r s₁ h₁=>?_) λ _ _ h'=>h'.elim)));cases r with
 |none=>exact wpAny_pure h₁
 |some v=>
  refine wpAny_bind (wpAny_mono h₁ (λ _ s₁ h₁=>?_) λ _ _ h'=>h'.elim);refine wpAny_bind (wpAny_mono h₁ (λ _ s₂ h₂=>wpAny_bind (wpAny_mono h₂ (λ ok s₃ h₃=>?_) λ _ _ h'=>h'.elim)) λ _ _ h'=>h'.elim);cases ok with
  |false=>exact wpAny_pure ⟨rfl,h₃⟩
  |true=>
   exact wpAny_bind (wpAny_bind (wpAny_mono h₃ (λ x s₄ h₄=>wpAny_bind (wpAny_mono h₄ (λ _ s₅ h₅=>wpAny_pure (wpAny_pure ⟨rfl,h₅⟩)) λ _ _ h'=>h'.elim)) λ _ _ h'=>h'.elim))
end
def uW(g:TG)(ks:List Nat):Prop:=∀v σ H (Q:St->Hp->Prop),g v σ H Q->g v σ H (λ σ' H'=>Q σ' H'/\σ'.length=σ.length/\∀k,k∉ks->σ'[k]? =σ[k]?)
def uV(g:TGs)(ks:List Nat):Prop:=∀vs σ H (Q:St->Hp->Prop),g vs σ H Q->g vs σ H (λ σ' H'=>Q σ' H'/\σ'.length=σ.length/\∀k,k∉ks->σ'[k]? =σ[k]?)
theorem aG2(h:i∈ks):uW (mY i) ks:=λ v σ H Q q=>⟨q,List.length_set,λ k hk=>List.getElem?_set_ne (λ(e:i=k)=>hk (e▸h))⟩
theorem aG1:uV aIp ks:=λ vs σ H Q ⟨e,q⟩=>⟨e,q,rfl,λ _ _=>rfl⟩
def zu(g:TG):Prop:=∀v σ H (Q Q':St->Hp->Prop),(∀σ' H',Q σ' H'->Q' σ' H')->g v σ H Q->g v σ H Q'
def qF(g:TGs):Prop:=∀v σ H (Q Q':St->Hp->Prop),(∀σ' H',Q σ' H'->Q' σ' H')->g v σ H Q->g v σ H Q'
theorem aG4:zu (mY i):=λ v σ H Q Q' imp q=>imp _ _ q
theorem aG3:qF aIp:=λ v σ H Q Q' imp ⟨e,q⟩=>⟨e,imp _ _ q⟩
theorem aE8(h1:zu t)(h2:qF u):qF (aEa t u):=λ vs σ H Q Q' imp ⟨v,r,e,q⟩=>⟨v,r,e,h1 _ _ _ _ _ (λ σ' H' q'=>h2 _ _ _ _ _ imp q') q⟩
theorem aE3(h1:uW t ks)(m1:zu t)(h2:uV u ks)(m2:qF u):uV (aEa t u) ks:=λ vs σ H Q ⟨v,r,e,q⟩=>
 ⟨v,r,e,m1 _ _ _ _ _ (λ σ' H' ⟨q',l',k'⟩=>m2 _ _ _ _ _ (λ σ2 H2 ⟨q2,l2,k2⟩=>⟨q2,l2.trans l',λ k hk=>(k2 k hk).trans (k' k hk)⟩) (h2 _ _ _ _ q')) (h1 _ _ _ _ q)⟩
theorem aIn{K:PySem.W.Frag}(h:uV t ks):uW (aG5 K n t) ks:=λ v σ H Q ⟨a,xs,e1,e2,e3,q⟩=>⟨a,xs,e1,e2,e3,h _ _ _ _ q⟩
theorem aIo{K:PySem.W.Frag}(h:qF t):zu (aG5 K n t):=λ v σ H Q Q' imp ⟨a,xs,e1,e2,e3,q⟩=>⟨a,xs,e1,e2,e3,h _ _ _ _ _ imp q⟩
def aCm(X:Cx)(ifs:List Expr)(t:TT):Prop:=
 ∀(pins:List (Addr×Obj)) (s:Shared) (σ:St) (H:Hp) (Q:Bool->Hp->Prop),Inv X pins σ H s->t σ H Q->
  wpAny (model X.prog X.w) X.A (forIn ifs true λ c r=>if r=true then do let ok <-isTrue c X.env (eval c X.env);pure (ForInStep.yield ok)else pure (ForInStep.yield r)) (TP X pins σ Q) X.xe s
def aKI:TT:=λ _ H Q=>Q true H
theorem aIA:aCm X [] aKI:=λ _ _ _ H _ I h=>wpAny_tests_nil ⟨H,I,h⟩
theorem aHz(h:PT X c t):aCm X [c] t:=λ pins s σ H Q I q=>wpAny_tests_one (h pins s σ H Q I q)
def tLC(wi:TI)(st:St->St)(g:TG)(tt:TT)(te:TE):TE:=λ σ H Q=>wi σ H λ J H1=>∀l,H1 l=none->∃W:Nat->Nat->List V->Hp->Prop,(∃m,W 0 m [] (upd H1 l (.lst [])))/\
 ∀i m acc H2,W i m acc H2->H2 l=some (.lst acc)/\acc.length<sizeLine/\((J.stop i H2/\Q (.ref l) H2)\/(J.go i H2/\∀x H3,J.yld i H2 x H3->g x (st σ) H3 λ σ4 H4=>tt σ4 H4 λ ok H5=>
  if ok=true then te σ4 H5 λ y H6=>H6 l=some (.lst acc)/\∃m',m'<m/\W (i+1) m' (acc++[y]) (upd H6 l (.lst (acc++[y])))else∃m',m'<m/\W (i+1) m' acc H5))
section
variable{X:Cx}{elt tg iter:Expr}{ifs:List Expr}{scope:Scope}{pos:Pos}{N:List Str}{st:St->St}{ks:List Nat}{wi:TI}{g:TG}{tt:TT}{te:TE}
theorem zJ(B:gU X scope N st ks)(hc:X.calm=true)(hg:∀C fp s₀ H₀,PG (X.block scope C N fp s₀ H₀) tg g)(hgo:uW g ks)(ht:∀C fp s₀ H₀,aCm (X.block scope C N fp s₀ H₀) ifs tt)
  (he:∀C fp s₀ H₀,PE (X.block scope C N fp s₀ H₀) elt te){H1:Hp}{Q:VK}{RR:Value->Addr->Result->Shared->Prop}
  (I:Inv X pins σ H1 s₂)(T:Turn X.prog X.w X.K tg J fp it tn)(h0:tn 0 s₂.heap)(hfp:∀b∈fp,uX X pins H1 b)
  (h:∀l,H1 l=none->∃W:Nat->Nat->List V->Hp->Prop,(∃m,W 0 m [] (upd H1 l (.lst [])))/\
   ∀i m acc H2,W i m acc H2->H2 l=some (.lst acc)/\acc.length<sizeLine/\((J.stop i H2/\Q (.ref l) H2)\/(J.go i H2/\∀x H3,J.yld i H2 x H3->g x (st σ) H3 λ σ4 H4=>tt σ4 H4 λ ok H5=>
    if ok=true then te σ4 H5 λ y H6=>H6 l=some (.lst acc)/\∃m',m'<m/\W (i+1) m' (acc++[y]) (upd H6 l (.lst (acc++[y])))else∃m',m'<m/\W (i+1) m' acc H5)))
  (hRR:∀D C H' s',(∃σ',Inv (X.block scope C N fp s₂ H1) [] σ' H' s')->s₂.heap.objs.size<=C->Q (.ref D) H'->RR (.ref D) C (.ok .next) s'):
  wpAny (model X.prog X.w) X.A (newList []) (λ acc s₃=>wpAny (model X.prog X.w) X.A (newFunctionEnv scope X.env.globals (aq scope X.env) [] X.env.qual none .none (some X.env)) (λ cenv s₄=>
   codeAny (model X.prog X.w) X.A (.compStart (.ListComp elt [⟨tg,iter,ifs,0⟩] scope pos) 0 (.ref it) acc {cenv with scope:=relabel scope X.env}) (RR acc cenv.locals) s₄) E s₃) E s₂:=by
 refine wpAny_newObj_type (aFy λ h₁ hns₁ hold₁ hcs₁=>?_);dsimp only at hns₁ hold₁ hcs₁ ⊢;generalize hH2:s₂.heap.push {cls:=.type "list",dict:=none,data:=.seq ([]:List Value).toArray}=P2 at hns₁ hold₁ hcs₁ ⊢;have hC:P2.objs.size=s₂.heap.objs.size+1:=by rw[<-hH2,Heap.size_push]
 have hDC:s₂.heap.objs.size≠P2.objs.size:=by rw[hC];exact Nat.ne_of_lt (Nat.lt_succ_self _)
 have hCle:s₂.heap.objs.size<=P2.objs.size:=by rw[hC];exact Nat.le_succ _
 have old:∀b o,s₂.heap.get? b=some o->h₁.get? b=some o:=λ b o e=>hold₁ b o (hH2▸Heap.get?_push_of_some _ e)
 have hacc:h₁.get? s₂.heap.objs.size=some {cls:=.type "list",dict:=none,data:=.seq ([]:List Value).toArray}:=hold₁ _ _ (hH2▸Heap.get?_push_size _ rfl);generalize hCe:P2.objs.size=C at hns₁ hold₁ hcs₁ hDC hCle hC ⊢;have hHD:H1 s₂.heap.objs.size=none:=I.hok.fresh (Nat.le_refl _);have I0:Inv (X.block scope C N fp s₂ H1) [] (st σ) (upd H1 s₂.heap.objs.size (.lst [])) {s₂ with heap:=h₁,toks:=s₂.toks}:=
  I.block B hfp (λ b hb=>by obtain⟨o,e,_⟩:=T.obj 0 _ h0 b hb;exact⟨o,e⟩) (Nat.le_refl _) hCle hDC old hns₁ hcs₁ (λ c hc=>Nat.ne_of_lt (Nat.lt_of_le_of_lt hCle hc)) ⟨Nat.zero_le _,[],0,.nil,hacc⟩
 obtain⟨W,⟨m0,w0⟩,step⟩:=h _ hHD;have h01:tn 0 h₁:=T.keep 0 _ _ h0 λ b _ o e=>old b o e
 have stat:∀{H':Hp},(∀b∈fp,H' b=none)->∀b∈fp,uX (X.block scope C N fp s₂ H1) [] H' b:=λ{H'} hn b hb=>
  ⟨hn b hb,(I0.ok.exf b hb).1,I0.ok.exfs b hb,.inl hb,λ x c e=>(I0.ok.exf b hb).2 x c e,λ p hp=>absurd (show p∈([]:List (Addr×Obj))from hp) (by simp)⟩
 have fr0:∀b∈fp,upd H1 s₂.heap.objs.size (.lst []) b=none:=λ b hb=>by
  obtain⟨o,e,_⟩:=T.obj 0 _ h0 b hb;rw[aa (Nat.ne_of_lt (Heap.lt_size e))];exact(hfp b hb).1
 have loop:∀s₃:Shared,s₃={s₂ with heap:=h₁,toks:=s₂.toks}->
   codeAny (model X.prog X.w) X.A (.compLoop (.ListComp elt [⟨tg,iter,ifs,0⟩] scope pos) 0 (.ref it) (.ref s₂.heap.objs.size) (X.block scope C N fp s₂ H1).env) (RR (.ref s₂.heap.objs.size) C) s₃:=by
  rintro s₃ rfl;refine xn (λ n s'=>∃i acc H2,Inv (X.block scope C N fp s₂ H1) [] (st σ) H2 s'/\tn i s'.heap/\(∀b∈fp,H2 b=none)/\W i n acc H2) ?_ m0 ⟨0,[],_,I0,h01,fr0,w0⟩;rintro n s3 ⟨i,acc,H2,I2,st2,fr2,w2⟩;obtain⟨hl,hz,alt⟩:=step i n acc H2 w2;rcases alt with ⟨stop,q⟩|⟨go,nxt⟩
  ·refine thn (T.done (X.block scope C N fp s₂ H1) rfl rfl rfl hc i [] s3 (st σ) H2 _ I2 (stat fr2) st2 stop) λ r s4 ⟨hr,I4⟩=>?_
   subst hr;exact hRR _ C H2 s4 ⟨_,I4⟩ hCle q
  ·refine thn (T.item (X.block scope C N fp s₂ H1) rfl rfl rfl hc i [] s3 (st σ) H2 _ I2 (stat fr2) st2 go) λ r s4 ⟨u,hr,h4⟩=>?_
   subst hr;refine thn h4 λ _ s5 ⟨x,H5,I5,r5,y5,st5,fr5⟩=>?_
   have I5':=I5.pinned (stat fr5) (T.obj _ _ st5);refine thn (hg C fp s₂ H1 _ s5 (st σ) H5 x u _ I5' r5 (hgo _ _ _ _ (nxt x H5 y5))) λ _ s6 ⟨σ6,H6,I6,q6,aJm,ag6⟩=>?_
   refine thn (ht C fp s₂ H1 _ s6 σ6 H6 _ I6 q6) λ ok s7 ⟨H7,I7,q7⟩=>?_
   have again:∀{H9:Hp} {s9:Shared} {acc':List V},Inv (X.block scope C N fp s₂ H1) ([]++sr fp s5.heap) σ6 H9 s9->(∃m',m'<n/\W (i+1) m' acc' H9)->
     ∃m,m<n/\∃i acc H2,Inv (X.block scope C N fp s₂ H1) [] (st σ) H2 s9/\tn i s9.heap/\(∀b∈fp,H2 b=none)/\W i m acc H2:=λ{H9 s9 acc'} I9 ⟨m',hm,w9⟩=>by
    have pin9:∀b∈fp,∀o,s5.heap.get? b=some o->s9.heap.get? b=some o/\H9 b=none:=λ b hb o e=>by
     have z:=I9.pin (b,o) (List.mem_append_right _ (List.mem_append_right _ (nO hb e)));exact⟨z.1,z.2.1⟩
    refine⟨m',hm,i+1,acc',H9,I9.unpinned.weak (by rw[aJm]) (λ k v e=>?_),T.keep _ _ _ st5 λ b hb o e=>(pin9 b hb o e).1,λ b hb=>?_,w9⟩
    ·have hk:k<(st σ).length:=(List.getElem?_eq_some_iff.mp e).1
     have hkN:k<N.length:=by rw[<-B.len σ];exact hk
     obtain⟨_,hks,_⟩:=B.val σ k _ v (List.getElem?_eq_getElem hkN) e;rw[ag6 k hks];exact e
    ·obtain⟨o,e,_⟩:=T.obj _ _ st5 b hb
     exact(pin9 b hb o e).2
   cases ok with
   |false=>
    rw[if_neg Bool.false_ne_true]at q7 ⊢;exact again I7 q7
   |true=>
    rw[if_pos rfl]at q7 ⊢;refine thn (he C fp s₂ H1 _ s7 σ6 H7 _ I7 q7) λ u8 s8 ⟨y,H8,I8,r8,hl8,q8⟩=>?_
    refine thn (vP _ s8 σ6 H8 (.ref s₂.heap.objs.size) [y] (.ref s₂.heap.objs.size) [u8] (λ _ H9=>H9=upd H8 s₂.heap.objs.size (.lst (acc++[y]))) I8 rfl (.cons r8 .nil) ⟨_,acc,y,rfl,rfl,hl8,hz,rfl⟩) λ _ s9 ⟨_,H9,I9,_,e9⟩=>?_
    subst e9;exact again I9 q8
 exact codeAny_compStart_list (loop _ rfl) (T.self X.A 0 _ _ _ h01 (loop _ rfl))
theorem aBp(I:Inv X pins σ H1 s₂)(hfp:∀b∈fp,uX X pins H1 b)(h:∃σ',Inv (X.block scope C N fp s₂ H1) [] σ' H' s'):Inv X pins σ H' s':=by
 obtain⟨σ',J⟩:=h;exact I.call' (ch:=fp) J.os J.base J.hok J.bare λ b hb=>⟨(hfp b hb).2.2.2.1,(hfp b hb).2.1,(hfp b hb).2.2.2.2.1,(hfp b hb).2.2.2.2.2⟩
theorem aJ9(B:gU X scope N st ks)(hc:X.calm=true)(hi:PI X tg iter wi)(hg:∀C fp s₀ H₀,PG (X.block scope C N fp s₀ H₀) tg g)(hgo:uW g ks)(ht:∀C fp s₀ H₀,aCm (X.block scope C N fp s₀ H₀) ifs tt)
  (he:∀C fp s₀ H₀,PE (X.block scope C N fp s₀ H₀) elt te)(hs:∀x,foldedSetIterable iter X.env x=pure x:=by intro _;rfl):PE X (.ListComp elt [⟨tg,iter,ifs,0⟩] scope pos) (tLC wi st g tt te):=by
 intro pins s σ H Q I h;have hcl:closureFor scope X.env=pure (aq scope X.env):=jQ λ y hy hk=>I.ok.has _ (B.free y hy hk)
 rw[eval_ListComp];refine wpAny_comprehension_free (use:=none) rfl hs hcl B.kind B.loc (thn (hi pins s σ H _ I h) λ v s1 h1=>thn h1 λ itv s2 h2=>?_);obtain⟨it,fp,tn,J,H2,e,I2,T,st2,f2,hq⟩:=h2;subst e;refine zJ (RR:=λ acc C=>compPost (model X.prog X.w) X.A X.xe none (EP X pins σ Q) acc C) B hc hg hgo ht he I2 T st2 f2 hq ?_;intro D C H' s' hJ hCle q;have I3:=aBp I2 f2 hJ;obtain⟨σ',J'⟩:=hJ;obtain⟨m,hn,_⟩:=id J'.loc;have hHC:H' C=none:=J'.free;refine⟨m,hn,λ h'' hs''=>⟨.ref D,H',?_,rfl,q⟩⟩;exact I3.turned (t':=s'.toks) (λ b o ne e=>(hs''.2 b ne).trans e) hHC (Nat.ne_of_gt (Nat.lt_of_lt_of_le I2.lt hCle)) (.inr (Nat.le_trans I2.sz hCle))
  (λ x c e z=>by obtain⟨v,ic⟩:=I2.cell x c e;exact absurd (Nat.lt_of_lt_of_le ic.lt (by rw[z];exact hCle)) (Nat.lt_irrefl _))
  (λ p hp z=>absurd (Nat.lt_of_lt_of_le (I2.pinL hp) (by rw[z];exact hCle)) (Nat.lt_irrefl _))
theorem yj(hN:X.N.Nodup)(hx1:X.N[i]? =some x)(hx2:Loc X.env.scope x)(B:gU X scope N st ks)(hc:X.calm=true)(hi:PI X tg iter wi)(hg:∀C fp s₀ H₀,PG (X.block scope C N fp s₀ H₀) tg g)(hgo:uW g ks)
  (ht:∀C fp s₀ H₀,aCm (X.block scope C N fp s₀ H₀) ifs tt)(he:∀C fp s₀ H₀,PE (X.block scope C N fp s₀ H₀) elt te)(hsw:swapsWith (.ListComp elt [⟨tg,iter,ifs,0⟩] scope pos) (some (.Name x pos')) spos.line X.env=pure true)
  (hs:∀x,foldedSetIterable iter X.env x=pure x:=by intro _;rfl)(hf:X.fn x=true\/X.env.scope.names.lookup x=some .local:=by first|exact .inl rfl|exact .inr rfl|assumption):
  PS X (.Assign [.Name x pos'] (.ListComp elt [⟨tg,iter,ifs,0⟩] scope pos) spos) (yO (tLC wi st g tt te) (mY i)):=by
 intro pins s σ H D I h;have hcl:closureFor scope X.env=pure (aq scope X.env):=jQ λ y hy hk=>I.ok.has _ (B.free y hy hk)
 rw[exec_Assign_Name_used _ _ _ _ hsw];refine wpAny_bind (wpAny_standAt (wpAny_bind ?_));show wpAny _ _ (do let _ <-comprehension (.ListComp elt [⟨tg,iter,ifs,0⟩] scope pos) scope X.env _ (newList []) false (eval iter X.env) (some (assign (.Name x pos') X.env))) _ _ s;refine wpAny_bind (wpAny_mono (wpAny_comprehension_free (use:=some (assign (.Name x pos') X.env)) (Q:=λ _ s'=>SP X pins D .next s') rfl hs hcl B.kind B.loc (thn (hi pins s σ H _ I h) λ v s1 h1=>thn h1 λ itv s2 h2=>?_)) (λ _ s' hq=>wpAny_pure (wpAny_pure hq)) λ _ _ e=>e);obtain⟨it,fp,tn,J,H2,e,I2,T,st2,f2,hq⟩:=h2;subst e;refine zJ (Q:=λ x H1=>mY i x σ H1 D.nx) (RR:=λ acc C=>compPost (model X.prog X.w) X.A X.xe (some (assign (.Name x pos') X.env)) (λ _ s'=>SP X pins D .next s') acc C) B hc hg hgo ht he I2 T st2 f2 hq ?_;intro DD C H' s' hJ hCle q;have I3:=aBp I2 f2 hJ;obtain⟨σ',J'⟩:=hJ;obtain⟨m,hn,_⟩:=id J'.loc;have hHC:H' C=none:=J'.free;have neL:C≠X.env.locals:=Nat.ne_of_gt (Nat.lt_of_lt_of_le I2.lt hCle);have neC:∀x c,X.env.cells.lookup x=some c->c≠C:=λ x c e z=>by obtain⟨v,ic⟩:=I2.cell x c e;exact absurd (Nat.lt_of_lt_of_le ic.lt (by rw[z];exact hCle)) (Nat.lt_irrefl _)
 show wpAny _ _ (assign (.Name x pos') X.env (.ref DD)) _ _ _;refine wpAny_assign_Name ?_;refine vC I3 hN hx1 hx2 (show RelV (.ref DD) (.ref DD)from rfl) (λ s4 I4 ⟨a,hsa,ha⟩=>?_) hf;have nea:C≠a:=by
  rcases ha with z|z
  ·rw[z];exact neL
  ·exact Ne.symm (neC _ _ z)
 refine⟨m,hn.sameBut hsa nea,λ h'' hs''=>⟨_,H',?_,q⟩⟩;exact I4.turned (t':=s4.toks) (λ b o ne e=>(hs''.2 b ne).trans e) hHC neL (.inr (Nat.le_trans I2.sz hCle)) neC
  (λ p hp z=>absurd (Nat.lt_of_lt_of_le (I2.pinL hp) (by rw[z];exact hCle)) (Nat.lt_irrefl _))
end
def CX1(P:Program)(w:World):CXT:=λ outer H s E e s'=>∃(ea:Addr) (cls a0:Value) (B:Heap) (H':Hp),e= .ref ea/\s'.os=s.os/\AllBare s'.gens/\Un (frs outer) [] H H' s.heap s'.heap/\HOk P w H' B/\Heap.FlyingW B outer ea cls a0 s'.heap/\
 (∀b o,s.heap.get? b=some o->H b=none->b∉frs outer->B.get? b=some o)/\(∀b o,s.heap.get? b=some o->b∉frs outer->∃o',B.get? b=some o')/\E cls none H'
structure cQ(X:Cx)(E:XK):Prop where
 stk:X.stack=X.env::X.outer
 fr:X.env.frame=some X.env.locals
 ex:X.ex=[]
 xe:X.xe=λ e s'=>wpAny (model X.prog X.w) X.A (leaving X.env e) (λ _ s''=>CX1 X.prog X.w X.outer X.H₀ X.s₀ E e s'') (λ e' s''=>CX1 X.prog X.w X.outer X.H₀ X.s₀ E e' s'') s'
theorem cQ.of{K:PySem.W.Frag}:
  cQ (qw (CX1 P w) P w K mg base N qual scope f cd A outer s₀ H₀ E) E:=⟨rfl,rfl,rfl,rfl⟩
section
variable{X:Cx}{E:XK}
theorem aEb{B h':Heap}(hX:X.ex=[])(I:Inv X pins σ H s)
  (a1:∀b o,s.heap.get? b=some o->H b=none->b∉frs X.stack->B.get? b=some o)(a2:∀b o,s.heap.get? b=some o->b∉frs X.stack->∃o',B.get? b=some o')
  (a3:B.StaysIn h')(a4:∀b o,b∈frs X.outer->s.heap.get? b=some o->H b=none->(∀vs,o.data≠.fields vs)->∃sl,h'.get? b=some {o with slots:=sl})
  (a5:∀b o,s.heap.get? b=some o->H b=none->H' b=none)(a6:∀b xs,H b=some (.tup xs)->H' b=some (.tup xs))(a7:∀b o u,H b=some (.frz o u)->H' b=some (.frz o u))(a8:∀b ps,H b=some (.tbl ps)->∃more,H' b=some (.tbl (ps++more))):
  Un (frs X.outer) [] X.H₀ H' X.s₀.heap h'/\(∀b o,X.s₀.heap.get? b=some o->X.H₀ b=none->b∉frs X.outer->B.get? b=some o)/\(∀b o,X.s₀.heap.get? b=some o->b∉frs X.outer->∃o',B.get? b=some o'):=by
 have nx:∀b,b∉X.ex:=λ b z=>by rw[hX]at z;cases z
 have noS:∀b o,X.s₀.heap.get? b=some o->b∉frs X.outer->b∉frs X.stack:=λ b o e nf hb=>by
  rcases List.mem_cons.mp (I.stkSub b hb)with z|z
  ·exact absurd z (Nat.ne_of_lt (Nat.lt_of_lt_of_le (Heap.lt_size e) I.ok.above))
  ·exact nf z
 have bk:∀b o,X.s₀.heap.get? b=some o->X.H₀ b=none->b∉frs X.outer->B.get? b=some o:=λ b o e n nf=>
  a1 b o (I.base.keep b o e n nf (nx b)) (I.base.free b o e n (nx b)) (noS b o e nf)
 have ba:∀b o,X.s₀.heap.get? b=some o->b∉frs X.outer->∃o',B.get? b=some o':=λ b o e nf=>by
  obtain⟨o1,e1⟩:=I.base.there b o e (nx b);exact a2 b o1 e1 (noS b o e nf)
 have sl:∀b o,X.s₀.heap.get? b=some o->X.H₀ b=none->b∈frs X.outer->∃sl,h'.get? b=some {o with slots:=sl}:=λ b o e n hb=>by
  obtain⟨sl1,e1⟩:=I.base.slot b o e n hb (nx b);obtain⟨_,o2,ho2,hnf⟩:=I.ok.funs.mem hb;rw[e]at ho2;cases ho2;obtain⟨sl2,e2⟩:=a4 b _ hb e1 (I.base.free b o e n (nx b)) hnf;exact⟨sl2,e2⟩
 refine⟨⟨λ b o e n nf _=>a3 b o (bk b o e n nf),λ b o e n hb _=>sl b o e n hb,λ b o e n _=>?_,λ b o e _=>?_,λ b xs e=>a6 b xs (I.base.tups b xs e),λ b o u e=>a7 b o u (I.base.frzs b o u e),λ b ps e=>?_⟩,bk,ba⟩
 ·obtain⟨o1,e1⟩:=I.base.there b o e (nx b)
  exact a5 b o1 e1 (I.base.free b o e n (nx b))
 ·by_cases hb:b∈frs X.outer
  ·obtain⟨s2,e2⟩:=sl b o e (I.ok.frf b hb) hb
   exact⟨_,e2⟩
  ·obtain⟨o',e'⟩:=ba b o e hb
   exact⟨o',a3 b o' e'⟩
 ·obtain⟨m1,e1⟩:=I.base.tbls b ps e
  obtain⟨m2,e2⟩:=a8 b _ e1;exact⟨m1++m2,by rw[e2,Array.append_assoc]⟩
theorem cQ.pass(D:cQ X E):nU (CX1 X.prog X.w) X E:=by
 intro pins σ H s e s' I h;obtain⟨ea,cls,a0,B,H',rfl,os,bare,un,hok,fly,bk,ba,hE⟩:=h;rw[D.xe];have fly':=fly;rw[D.stk]at fly';have hfr:=I.ok.frames;rw[D.stk]at hfr;refine wpAny_leaves_onW (L:=X.env.locals) hfr D.fr fly' λ h' fl up=>?_
 have a4:∀b o,b∈frs X.outer->s.heap.get? b=some o->H b=none->(∀vs,o.data≠.fields vs)->∃sl,h'.get? b=some {o with slots:=sl}:=λ b o hb e n nf=>by
  have hb':b∈frs X.stack:=by
   rw[D.stk];unfold frs;rw[List.filterMap_cons,D.fr];exact List.mem_cons_of_mem _ hb
  obtain⟨s1,e1⟩:=un.slot b o e n hb' (λ z=>nomatch z);obtain⟨s2,e2⟩:=up b _ e1 nf;exact⟨s2,e2⟩
 obtain⟨u1,u2,u3⟩:=aEb (B:=B) (h':=h') (H':=H') D.ex I bk ba fl.1 a4 (λ b o e n=>un.free b o e n (λ z=>nomatch z)) un.tups un.frzs un.tbls;exact⟨ea,cls,a0,B,H',rfl,os.trans I.os,bare,u1,hok,fl,u2,u3,hE⟩
theorem cQ.raise(D:cQ X E){ea:Addr}(I:Inv X pins σ H s)
  (hx:Heap.MadeExcOf s.heap h1 ea cls vs)(hE:E cls none H):X.xe (.ref ea) {s with heap:=h1}:=by
 rw[D.xe];have stk:s.heap.FunFrames X.base X.stack:=I.stack;have hin:∀env∈X.stack,∀a,env.frame=some a->a∈frs X.stack:=λ env he a ha=>List.mem_filterMap.mpr ⟨env,he,ha⟩
 have stk2:=PySem.W.funFrames_hide stk hin;have hfr:=I.ok.frames;rw[D.stk]at hfr;have stk3:s.heap.FunFrames (PySem.W.hideAll s.heap (frs X.stack)) (X.env::X.outer):=by rw[<-D.stk];exact stk2
 refine wpAny_leaves_madeW (L:=X.env.locals) (base:=PySem.W.hideAll s.heap (frs X.stack)) hfr D.fr (λ b o q=>PySem.W.of_hideAll _ q) stk3 hx λ h' t fl tup bn up=>?_
 have hok:HOk X.prog X.w H (PySem.W.hideAll s.heap (frs X.stack)):=λ a o e=>by
  refine(I.hok a o e).stay (λ b u hb q=>PySem.W.hideAll_get _ q λ hm=>?_) (λ _ z=>z) λ _ _ z=>z
  have hn:=I.stkFree b hm;rcases hb with z|z
  ·rw[z,e]at hn;cases hn
  ·rw[z]at hn;cases hn
 obtain⟨u1,u2,u3⟩:=aEb (B:=PySem.W.hideAll s.heap (frs X.stack)) (h':=h') (H':=H) D.ex I (λ b o e n nf=>PySem.W.hideAll_get _ e nf) (λ b o e nf=>⟨o,PySem.W.hideAll_get _ e nf⟩) fl.1
  (λ b o hb e n nf=>up b o (hx.keeps b o e) nf) (λ b o e n=>n) (λ _ _ e=>e) (λ _ _ _ e=>e) (λ b ps e=>⟨#[],by rw[e];simp⟩)
 exact⟨ea,cls,.ref t,_,H,rfl,I.os,I.bare,u1,hok,fl,u2,u3,hE⟩
theorem cQ.own(D:cQ X E):PassesOwn (model X.prog X.w) X.A X.env X.xe:=λ e s' h=>by
 rw[D.xe]at h ⊢;exact wpAny_leaving_again (SameStack.refl _) h
end
section
variable{P:Program}{w:World}{K:PySem.W.Frag}{mg:Str->Option Value}{base:Heap}
theorem Fun.okX{st:Stmt}(F:Fun K x q st f fd)(S:ak N ps (aG st))(len:∀vs H Q E,sp vs H Q E->vs.length=ps.length)
  (hbody:∀(cdv:Value) (A:Around) (outer:List Env) (s:Shared) (H:Hp) (vs:List V) (Q:VK) (E:XK),dG k (A.deeper (envOfC q (aG st) s.heap.objs.size f cdv))->sp vs H Q E->
   ∃t,PSs (qw (CX1 P w) P w K mg base N q (aG st) f cdv A outer s H E) (cM st) t/\t {nx:=λ _ H'=>Q .non H',rt:=Q} (start N vs) H):cg P w K mg base (CX1 P w) (k+1) f fd ps sp:=by
 obtain⟨oc,od,kV,doc,pm,an,cdv,ct,osl,rfl,lk,hcd⟩:=F.ex;exact aJy lk hcd S len λ A outer s H vs Q E hr hsp=>hbody cdv A outer s H vs Q E hr hsp
end
def gR(K:PySem.W.Frag)(C:Addr):Prop:=PySem.W.excIn K C [.type "ValueError",.type "Exception",.type "BaseException",.type "object"] "ValueError.__new__"=true
theorem pK{K:PySem.W.Frag}(X:K.In h)(hm:mg x=some (.ref C))(q:gR K C):OwnCls x C [.type "ValueError",.type "Exception",.type "BaseException",.type "object"] "ValueError.__new__" mg h:=by
 refine⟨hm,?_⟩;unfold gR PySem.W.excIn at q;split at q
 ·rename_i dd cd sl ho
  split at q
  ·rename_i C' bm k0 k1 k2 k3 n k5 hm' hs
   simp only[Bool.and_eq_true,beq_iff_eq,Bool.not_eq_true']at q;obtain⟨⟨⟨⟨⟨rfl,rfl⟩,hdel⟩,ht⟩,hok⟩,hni⟩:=q;obtain⟨nm,bs,mro,ns,qn,hd,sn,sub,ab,col,del⟩:=cd;dsimp only at hm' hdel hok hni;subst hm' hdel;have hsl:sl=#[k0,k1,k2,k3,some (.builtin "ValueError.__new__"),k5]:=by
    obtain⟨l⟩:=sl;simp only at hs;rw[hs]
   subst hsl;exact⟨bm,ns,nm,qn,bs,hd,sn,sub,ab,col,dd,k0,k1,k2,k3,k5,_,X _ _ ho,.of_isNs (PySem.W.isNs_of_in X hok),PySem.W.nsMap_none_of_in X hok hni,PySem.W.tail_of_in X ht⟩
  ·cases q
 ·cases q
def aH7(C:Addr)(E:XK)(ta:TA):TS:=λ _ σ H=>ta σ H λ vs H1=>vs.length<=sizeLine/\E (.ref C) none H1
section
variable{X:Cx}{E:XK}
theorem aD5(D:cQ X E)(hc:X.calm=true){rest:List Expr}(hm:X.mg x=some (.ref C))(hC:gR X.K C)(hg:Gl X x)
  (ha:PA X (e₀::rest) ta)(he:starEach (e₀::rest) X.env=(false,eval e₀ X.env)::starEach rest X.env:=by rfl)
  (hplain:(backTo cpos (starEach rest X.env)).any (·.1)=false:=by rfl)(hd:(x==("__debug__":Str))=false:=by decide):
  PS X (.Raise (some (.Call (.Name x np) (e₀::rest) [] cpos)) none pos) (aH7 C E ta):=by
 intro pins s σ H DD I h;obtain⟨tl,NN,nm,q,bs,hdct,sn,sub,ab,col,dd,k0,k1,k2,k3,k5,mN,hCo,hN,hni,T⟩:=(pK (h:=X.base) I.mod.kin hm hC).obj;have FB:=PySem.F.excBase_ValueError;refine wpAny_Raise_call_subU (C:=C) (nm:=nm) (q:=q) (N:=NN) (bs:=bs) (bm:=tl) (hdct:=hdct) (sn:=sn) (sub:=sub) (ab:=ab) (col:=col) (dd:=dd) (k0:=k0) (k1:=k1) (k2:=k2) (k3:=k3) (k5:=k5)
  FB FB.hasB FB (mN:=mN) (T.hasType FB.hasBase) (I.ok.hd hc) (by rw[he];show(false||(backTo cpos (starEach rest X.env)).any (·.1))=false;rw[hplain];rfl) hni
  (lz I hg hm ⟨rfl,?_⟩ hd)
 have harg:=ha cpos pins s σ H _ I h;rw[he]at harg ⊢;refine Calls.evalArgs_plain (wpAny_mono harg (λ vs s₂ h₂=>?_) λ _ _ y=>y);obtain⟨xs,H2,I2,rv,hz,hE⟩:=h₂;refine⟨rfl,by show vs.length<=sizeLine;rw[<-rv.length];exact hz,I2.bk _ _ hCo,hN.keeps I2.bk,T.keeps I2.bk,λ h' ea hx=>D.raise I2 hx hE⟩
end
section
variable(P:Program)(w:World)
end
section
variable{P:Program}{w:World}{H H':Hp}{h h':Heap}{a:Addr}{o:HO}
end
section
variable{P:Program}{w:World}{H:Hp}{h h':Heap}{x e:Addr}{o':HO}
end
section
variable{fs fs' ex ex':List Addr}{H H1 H2:Hp}{h h1 h2 h':Heap}{a x e:Addr}{o:HO}
end
section
variable{X:Cx}{pins:List (Addr×Obj)}{σ:List (Option V)}{H H':Hp}{s:Shared}{h':Heap}
end
section
variable{X:Cx}
variable{a b:Expr}{ta tb:TE}{pos:Pos}
variable{tA tB':TT}{rest:List Expr}
end
section
variable{X:Cx}{pins:List (Addr×Obj)}{σ:St}{H:Hp}{s:Shared}{a:Addr}{xs ys:List V}
end
section
variable{X:Cx}{pins:List (Addr×Obj)}{σ:St}{H:Hp}{s:Shared}{E:Value->Shared->Prop}
end
section
variable{X:Cx}{st:Stmt}{rest:List Stmt}{t u:TS}{e:Expr}{te:TE}{pos:Pos}
end
section
variable{X:Cx}{pos:Pos}
end
section
variable{X:Cx}{pos:Pos}
end
section
variable{X:Cx}{tg:Expr}
end
section
variable{X:Cx}{a b c:Expr}{ta tb tc:TE}{pos:Pos}
end
section
variable{X:Cx}{a b c:Expr}{ta tb tc:TE}{pos:Pos}
end
section
variable{prog:Program}{w:World}{A:Around}{E:Value->Shared->Prop}{s:Shared}{K:PySem.W.Frag}{x dx C f:Addr}{mA:Str->Option Value}{name:Str}{v:Value}
end
section
variable{P:Program}{w:World}{H H':Hp}{h h':Heap}{a C dx:Addr}{fs fs':List (Str×V)}
end
section
variable{X:Cx}{pins:List (Addr×Obj)}{σ:St}{H:Hp}{s:Shared}{a C dx:Addr}{fs:List (Str×V)}{f:Str}{v:V}{A:Around}{E:Value->Shared->Prop}
end
section
variable{X:Cx}{o e value:Expr}{f:Str}{pos pos' tpos:Pos}{ta tv:TE}
end
section
variable{X:Cx}{pins:List (Addr×Obj)}{σ:St}{H:Hp}{s:Shared}{A:Around}{E:Value->Shared->Prop}{Q:Value->Shared->Prop}{c:Value}{b:Bool}
end
section
variable{X:Cx}{e:Expr}{es:List Expr}{te:TE}{t:TA}{pos:Pos}
end
section
variable{X:Cx}{pins:List (Addr×Obj)}{σ:St}{H:Hp}{s s':Shared}
end
section
variable{X:Cx}{CX:CXT}{k:Nat}{f C:Addr}{fd:FuncData}{ps:List Str}{sp:Sp}{dvs:List V}{ds:List Value}{E:XK}{x m:Str}{p pos apos:Pos}{e o:Expr}{es:List Expr}{ta:TE}{t:TA}
end
section
variable{X:Cx}{CX:CXT}{k:Nat}{f C:Addr}{fd:FuncData}{ps ks:List Str}{sp:Sp}{E:XK}{x m:Str}{p pos apos kpos:Pos}{e o:Expr}{es:List Expr}{kws:List Keyword}{te ta:TE}{t tk:TA}{nm:Option Str}
variable{g:List Value->List Value->List Value}{gV:List V->List V->List V}
end
section
variable{X:Cx}{x:Str}{p pos:Pos}{e:Expr}{es:List Expr}{t:TA}{id T:String}{r:List V->Hp->VK->Prop}
end
section
variable{κ:Type}[DecidableEq κ]
end
section
variable{P:Program}{w:World}{H:Hp}{h:Heap}{a:Addr}
end
section
variable{X:Cx}{pins:List (Addr×Obj)}{σ:St}{H:Hp}{s:Shared}{a:Addr}{y v:V}{u r:Value}{o:Option V}{A:Around}{E:Value->Shared->Prop}
end
section
variable{X:Cx}{pins:List (Addr×Obj)}{σ:St}{H:Hp}{s:Shared}{a:Addr}{kvs:List (Key×V)}{k:Key}{u:Value}{A:Around}{E:Value->Shared->Prop}
end
section
variable{X:Cx}{o i e value:Expr}{pos pos' tpos:Pos}{td ty tv:TE}
end
section
variable{X:Cx}{pos:Pos}
end
section
variable{X:Cx}{pins:List (Addr×Obj)}{σ:St}{H:Hp}{s:Shared}{a:Addr}{y d:V}{u r:Value}{o:Option V}{A:Around}{E:Value->Shared->Prop}
end
section
variable{X:Cx}{o e f:Expr}{apos cpos:Pos}{td ty tx:TE}
end
section
variable{X:Cx}{pins:List (Addr×Obj)}{σ:St}{H:Hp}{s:Shared}{a:Addr}{kvs:List (Key×V)}{A:Around}{E:Value->Shared->Prop}
end
section
variable{X:Cx}{pins:List (Addr×Obj)}{σ:St}{H:Hp}{s:Shared}{a:Addr}{y:V}{u:Value}{A:Around}{E:Value->Shared->Prop}
end
end L2
namespace Att
open PySem PySem.W PySem.Calls PyProof.Rows
section
variable{prog:Program}{w:World}{A:Around}{E:Value->Shared->Prop}{s:Shared}{K:Frag}
end
end Att
namespace L2
open PySem PySem.Spec PyProof.Rows
section
variable{P:Program}{w:World}{K:PySem.W.Frag}{mg:Str->Option Value}{base:Heap}
end
section
variable{X:Cx}
end
section
variable{κ:Type}[DecidableEq κ]
end
theorem uq{pos:Pos}{a b:Int}{c cv:Value}(l:List Value)(h:TriplesOk l)(e:codeAmong pos (l++[rawInt a,rawInt b,c])=some cv):codeAmong pos l=some cv\/cv=c:=by
 fun_induction TriplesOk l with
 |case1=>
  simp only[List.nil_append,codeAmong,rawInt]at e;split at e
  ·exact .inr (Option.some.inj e).symm
  ·cases e
 |case2 a' t b' u x rest ih=>
  simp only[List.cons_append,codeAmong]at e ⊢;split at e
  ·rename_i hc;rw[if_pos hc];exact .inl e
  ·rename_i hc;rw[if_neg hc];exact ih h e
 |case3 l h1 h2=>exact h.elim
abbrev Cx.noT(X:Cx):Cx:={X with ta:=[]}
section
variable{X:Cx}{pins:List (Addr×Obj)}{σ:St}{H:Hp}{s:Shared}
theorem Inv.noT(I:Inv X pins σ H s):Inv X.noT pins σ H s:=
 ⟨⟨I.ok.mod,I.ok.kind,I.ok.glob,I.ok.blt,I.ok.above,I.ok.inj,I.ok.has,I.ok.cab,I.ok.hd,I.ok.frames,I.ok.stk,I.ok.exf,I.ok.bs,I.ok.bsz,I.ok.noex,I.ok.exfs,I.ok.funs,I.ok.frf⟩,
  I.os,I.bare,I.base,I.loc,I.cell,I.free,I.freeC,I.pin,I.hok,I.len,λ p hp=>absurd (show p∈([]:List (Addr×Obj))from hp) (by simp)⟩
theorem Inv.ofT{H':Hp}{s':Shared}(I:Inv X pins σ H s)(J:Inv X.noT pins σ H' s')(t:∀p∈X.ta,H' p.1=none/\p.1≠X.env.locals/\p.1∉X.fs/\(∀q∈X.pn++pins,q.1≠p.1)/\∃ps,s'.heap.get? p.1=some {cls:=.none,data:=.fields ps}/\TabOk X.tq H' ps):Inv X pins σ H' s':=
 ⟨I.ok,J.os,J.bare,J.base,J.loc,J.cell,J.free,J.freeC,J.pin,J.hok,J.len,t⟩
structure qi(X:Cx)(P:Addr):Prop where
 ta:∃o,X.ta=[(P,o)]
 ex:P∈X.ex
 tq:X.tq=X.env.qual++"<lambda>"
 code:∃c,X.env.code= .ref c/\PySem.W.CodeHd X.base c P
 blt:X.base.BuiltinsAt X.mg P
 gne:mainGlobals≠P
def zq(q:Str)(params:Arguments)(body:Expr)(scope:Scope)(cl:List (Str×Addr))(pm:Value)(H:Hp)(f c':Addr)(ctv:Value):Prop:=
 H f=some (.frz (PySem.W.kla_obj "<lambda>" q params body scope cl pm c' ctv) (.own f))/\∃oc,H c'=some (.frz oc (.own c'))/\aHW q oc
theorem aEG{P:Addr}{params:Arguments}{body:Expr}{scope:Scope}{pos:Pos}{Q:Value->Shared->Prop}{E:Value->Shared->Prop}(Lx:qi X P)(I:Inv X pins σ H s)(hdef:defaultsOf params X.env=([],[]))
  (hfree:∀y∈scope.names,y.2= .free->X.env.kindOf y.1=some .cell\/X.env.kindOf y.1=some .free)
  (h:∀(f c':Addr) (ctv:Value) (H':Hp) (s':Shared),Inv X pins σ H' s'->aU H H'->zq X.tq params body scope (aq scope X.env) ((X.mg "__name__").getD .none) H' f c' ctv->Q (.ref f) s'):
  wpAny (model X.prog X.w) X.A (eval (.Lambda params body scope pos) X.env) Q E s:=by
 obtain⟨o0,hta⟩:=Lx.ta;obtain⟨c,hcode,hC⟩:=Lx.code;obtain⟨hPn,hPL,hPf,hPp,ps,hP,ht⟩:=I.tab (P,o0) (by rw[hta];exact List.mem_cons_self);dsimp only at hPn hPL hPf hPp hP;have hcl:closureFor scope X.env=pure (aq scope X.env):=jQ λ y hy hk=>I.ok.has _ (hfree y hy hk)
 have hgs:s.heap.Ns mainGlobals X.mg:=by
  obtain⟨o,es,ep,e,r⟩:=I.ok.mod.glob;exact⟨o,es,ep,I.bk _ _ e,r⟩
 have hC':PySem.W.CodeHd s.heap c P:=hC.keeps I.bk;have hb:s.heap.BuiltinsAt X.mg P:=by
  obtain⟨bm,ob,b1,b2,b3,b4,b5,b6⟩:=Lx.blt;exact⟨bm,ob,b1,b2,b3,b4,I.bk _ _ b5,b6⟩
 refine PySem.W.kla_eval hdef ?_;rw[<-Lx.tq];cases hf:codeAmong pos ps.toList with
 |some cv=>
  obtain⟨c',oc,rfl,hc',hco⟩:=ht.2 pos cv hf;refine PySem.W.kla_makeFunctionHit hcl I.ok.glob hgs hcode hC' hP ht.1 hf hb λ ctv h' tk k hsz=>?_
  have hfr:H h'.objs.size=none:=I.hok.fresh hsz;have sm:aU H (upd H h'.objs.size (.frz (PySem.W.kla_obj "<lambda>" X.tq params body scope (aq scope X.env) ((X.mg "__name__").getD .none) c' ctv) (.own h'.objs.size))):=λ b u e=>by rw[aa (bZ e hfr)];exact e
  have I':=I.laid (h':=h'.push (PySem.W.kla_obj "<lambda>" X.tq params body scope (aq scope X.env) ((X.mg "__name__").getD .none) c' ctv)) (t':=tk) (a:=h'.objs.size) (o:=.frz (PySem.W.kla_obj "<lambda>" X.tq params body scope (aq scope X.env) ((X.mg "__name__").getD .none) c' ctv) (.own h'.objs.size)) (λ b u e=>Heap.get?_push_of_some _ (k b u e)) hsz
   ⟨Heap.get?_push_size _ rfl,_,Heap.get?_push_size _ rfl⟩
  exact h _ c' ctv _ _ I' sm ⟨ao,oc,sm _ _ hc',hco⟩
 |none=>
  refine PySem.W.kla_makeFunction hcl I.ok.glob hgs hcode hC' hP ht.1 hf Lx.gne hb λ c' ctv h' tk hx hge hlt hrec htb=>?_
  obtain⟨c2,oc,vs,t,e2,hoc,hd,hv⟩:=hrec;cases e2;have hcn:H c'=none:=I.hok.fresh hge;have hfn:H h'.objs.size=none:=I.hok.fresh (Nat.le_trans hge (Nat.le_of_lt hlt));have neT:∀b u,H b=some u->b≠c':=λ b u e=>bZ e hcn
  have neP:∀b u,H b=some u->b≠P:=λ b u e=>bZ e hPn
  have sm:aU H (upd H c' (.frz oc (.own c'))):=λ b u e=>by rw[aa (neT b u e)];exact e
  have hcne:∀x a,X.env.cells.lookup x=some a->a≠P:=λ x a e z=>by
   obtain⟨v,o,ho,hdd⟩:=I.cell x a e;rw[z,hP]at ho;cases ho;cases hdd
  have J:Inv X.noT pins σ (upd H c' (.frz oc (.own c'))) {s with heap:=h',toks:=tk}:=by
   refine I.noT.step (g':=s.gens) (d':=s.drawn) (ch:=[P]) (λ b hb'=>?_) (λ b o _ _ hc e _=>hx b o (λ z=>hc (by simp[z])) e) (λ b o _ _ hc e _=>⟨o.slots,hx b o (λ z=>hc (by simp[z])) e⟩)
    (λ b o _ e n=>by rw[aa (Nat.ne_of_lt (Nat.lt_of_lt_of_le (Heap.lt_size e) hge))];exact n) (λ b o hc e=>⟨o,hx b o (λ z=>hc (by simp[z])) e⟩)
    (λ b xs e=>sm _ _ e) (λ b o u e=>sm _ _ e) (λ b ps e=>⟨#[],by rw[sm _ _ e];simp⟩) (λ m hm=>hm.extBut hx (λ z=>hPL z.symm)) (λ b u e=>?_) I.bare
   ·have e:b=P:=by simpa using hb'
    subst e;exact⟨.inl Lx.ex,hPL,λ x c e=>hcne x c e,λ p hp=>hPp p hp⟩
   ·by_cases hbc:b=c'
    ·subst hbc
     rw[ao]at e;cases e;exact⟨hoc,oc,hoc⟩
    ·rw[aa hbc]at e
     refine(I.hok b u e).stay (λ d v hd' q=>hx d v ?_ q) (λ d q=>sm _ _ q) λ d xs q=>sm _ _ q
     rcases hd' with z|z
     ·rw[z];exact neP b u e
     ·exact neP d _ z
  have I':=I.ofT J λ p hp=>by
   rw[hta]at hp;have e:p=(P,o0):=by simpa using hp
   subst e;refine⟨by rw[aa (Nat.ne_of_lt (Nat.lt_of_lt_of_le (Heap.lt_size hP) hge))];exact hPn,hPL,hPf,hPp,_,htb,?_⟩;refine⟨?_,λ pos2 cv e=>?_⟩
   ·rw[Array.toList_append]
    exact TriplesOk_snoc _ _ _ _ ht.1
   ·rw[Array.toList_append]at e
    rcases uq _ ht.1 e with z|z
    ·obtain⟨c2,oc2,z1,z2,z3⟩:=ht.2 pos2 cv z
     exact⟨c2,oc2,z1,sm _ _ z2,z3⟩
    ·exact⟨c',oc,z,ao,vs,t,hd,hv⟩
  have hfr:upd H c' (.frz oc (.own c')) h'.objs.size=none:=by rw[aa (Nat.ne_of_gt hlt)];exact hfn
  have sm2:aU (upd H c' (.frz oc (.own c'))) (upd (upd H c' (.frz oc (.own c'))) h'.objs.size (.frz (PySem.W.kla_obj "<lambda>" X.tq params body scope (aq scope X.env) ((X.mg "__name__").getD .none) c' ctv) (.own h'.objs.size))):=λ b u e=>by rw[aa (bZ e hfr)];exact e
  have I2:=I'.laid (h':=h'.push (PySem.W.kla_obj "<lambda>" X.tq params body scope (aq scope X.env) ((X.mg "__name__").getD .none) c' ctv)) (t':=tk) (a:=h'.objs.size) (o:=.frz (PySem.W.kla_obj "<lambda>" X.tq params body scope (aq scope X.env) ((X.mg "__name__").getD .none) c' ctv) (.own h'.objs.size)) (λ b u e=>Heap.get?_push_of_some _ e) (Nat.le_refl _)
   ⟨Heap.get?_push_size _ rfl,_,Heap.get?_push_size _ rfl⟩
  exact h _ c' ctv _ _ I2 (sm.trans sm2) ⟨ao,oc,sm2 _ _ ao,vs,t,hd,hv⟩
def aKO(q:Str)(params:Arguments)(body:Expr)(scope:Scope)(cl:List (Str×Addr))(pm:Value):TE:=λ σ H Q=>∀f c' ctv H',aU H H'->zq q params body scope cl pm H' f c' ctv->Q (.ref f) H'
theorem aIF{P:Addr}{params:Arguments}{body:Expr}{scope:Scope}{pos:Pos}(Lx:qi X P)(hdef:defaultsOf params X.env=([],[]))
  (hfree:∀y∈scope.names,y.2= .free->X.env.kindOf y.1=some .cell\/X.env.kindOf y.1=some .free):PE X (.Lambda params body scope pos) (aKO X.tq params body scope (aq scope X.env) ((X.mg "__name__").getD .none)):=
 λ pins s σ H Q I h=>aEG Lx I hdef hfree λ f c' ctv H' s' I' sm l=>⟨.ref f,H',I',rfl,h f c' ctv H' sm l⟩
end
def aAC(X:Cx)(k0:Nat)(i:Nat)(E:XK):TE:=λ σ H Q=>∃f cls dd sl fd k sp,σ[i]? =some (some (.ref f))/\H f=some (.frz ⟨cls,dd,.func fd,sl⟩ (.own f))/\cg X.prog X.w X.K X.mg X.base (CX1 X.prog X.w) k f fd [] sp/\k<=k0/\Binds X.K fd [] []/\sp [] H Q E
theorem aDa{X:Cx}{k0 i:Nat}{y:Str}{p pos:Pos}{E:XK}(hr:dG k0 X.A)(hx:nU (CX1 X.prog X.w) X E)(hN:X.N[i]? =some y)(hv:Vis X.env.scope y)(hd:(y==("__debug__":Str))=false:=by decide)(hcd:(y==("__classdict__":Str))=false:=by decide):
  PE X (.Call (.Name y p) [] [] pos) (aAC X k0 i E):=by
 intro pins s σ H Q I ⟨f,cls,dd,sl,fd,k,sp,hs,hf,F,hk,hb,h⟩;have fin:wpAny (model X.prog X.w) X.A (eval (.Name y p) X.env) (λ v s'=>v= .ref f/\s'=s) X.xe s:=by
  obtain⟨mm,hnn,hl⟩:=I.loc;obtain⟨u,ru,l⟩:=hl i y _ hN hs hv;cases ru;rcases l with ⟨hk2,hm⟩|⟨hk2,c,hc,hcell⟩
  ·exact wpAny_Name (wpAny_loadName_local I.ok.kind hk2 hnn hm ⟨rfl,rfl⟩) hd
  ·rcases hk2 with hk2|hk2
   ·exact wpAny_Name (wpAny_loadName_cell I.ok.kind hk2 hc hcell ⟨rfl,rfl⟩) hd
   ·exact wpAny_Name (wpAny_loadName_free I.ok.kind hk2 hc hcell ⟨rfl,rfl⟩ hcd) hd
 refine wpAny_Call_Name_kw (thn fin λ v s' ⟨ev,es'⟩=>?_);subst ev es';obtain⟨ho,_⟩:s'.heap.get? f=some _/\_:=I.hok f _ hf;have KX:PySem.W.Frag.In [(f,⟨cls,dd,.func fd,sl⟩)] s'.heap:=λ b o e=>by
  rw[List.lookup_cons]at e;by_cases hbf:b=f
  ·subst hbf
   simp only[beq_self_eq_true]at e;cases e;exact ho
  ·simp only[beq_eq_false_iff_ne.mpr hbf]at e
   cases e
 exact PySem.W.callWith_K0 (K:=[(f,⟨cls,dd,.func fd,sl⟩)]) KX (by simp[PySem.W.keepIn,List.lookup_cons]) (aDN (us:=[]) F (hr.mono hk) hb .nil hx I .nil h)
def cxL(P:Program)(w:World)(K:PySem.W.Frag)(mg:Str->Option Value)(base:Heap)(N:List Str)(q:Str)(scope:Scope)(cl:List (Str×Addr))(f:Addr)(cd:Value)(A:Around)(outer:List Env)(s:Shared)(H:Hp)(E:XK):Cx where
 prog:=P
 w:=w
 K:=K
 mg:=mg
 base:=base
 A:=A.deeper (PySem.W.envX q scope s.heap.objs.size f cd cl)
 N:=N
 s₀:=s
 H₀:=H
 env:=PySem.W.envX q scope s.heap.objs.size f cd cl
 outer:=outer
 stack:=PySem.W.envX q scope s.heap.objs.size f cd cl::outer
 ex:=[]
 calm:=true
 fn:=λ _=>false
 pn:=[]
 xe:=λ e s'=>wpAny (model P w) (A.deeper (PySem.W.envX q scope s.heap.objs.size f cd cl)) (leaving (PySem.W.envX q scope s.heap.objs.size f cd cl) e) (λ _ s''=>CX1 P w outer H s E e s'') (λ e' s''=>CX1 P w outer H s E e' s'') s'
theorem cQ.ofL{P:Program}{w:World}{K:PySem.W.Frag}{mg:Str->Option Value}{base:Heap}{N:List Str}{q:Str}{scope:Scope}{cl:List (Str×Addr)}{f:Addr}{cd:Value}{A:Around}{outer:List Env}{s:Shared}{H:Hp}{E:XK}:
  cQ (cxL P w K mg base N q scope cl f cd A outer s H E) E:=⟨rfl,rfl,rfl,rfl⟩
structure uU(scope:Scope):Prop where
 kind:scope.kind= .function
 co:scope.isCoroutine=false
 gen:scope.isGenerator=false
 cell:∀y∈scope.names,y.2≠.cell
 loc:∀y∈scope.names,y.2≠.local
structure aEz(base:Heap)(N:List Str)(σ:St)(scope:Scope)(cl:List (Str×Addr)):Prop where
 inj:∀x y c,cl.lookup x=some c->cl.lookup y=some c->x=y
 has:∀x,scope.names.lookup x=some .free->∃c,cl.lookup x=some c
 cell:∀x c,cl.lookup x=some c->∃v,base.IsCell c v
 val:∀(i:Nat) x v,N[i]? =some x->σ[i]? =some (some v)->scope.names.lookup x=some .free->∃c u,cl.lookup x=some c/\RelV v u/\base.IsCell c (some u)
 len:σ.length=N.length
theorem aI8{P:Program}{w:World}{K:PySem.W.Frag}{mg:Str->Option Value}{base:Heap}{N:List Str}{q:Str}{params:Arguments}{scope:Scope}{cl:List (Str×Addr)}{f c':Addr}{pm ctv:Value}{body:Expr}{k:Nat}{σ:St}{H1:Hp}{sp:Sp}
  (la:zq q params body scope cl pm H1 f c' ctv)(S:uU scope)(cp:aEz base N σ scope cl)
  (len:∀vs H Q E,sp vs H Q E->vs=[]/\aU H1 H)
  (hbody:∀(A:Around) (outer:List Env) (s:Shared) (H:Hp) (Q:VK) (E:XK),dG k (A.deeper (PySem.W.envX q scope s.heap.objs.size f (.ref c') cl))->sp [] H Q E->∃te,PE (cxL P w K mg base N q scope cl f (.ref c') A outer s H E) body te/\te σ H Q):
  cg P w K mg base (CX1 P w) (k+1) f (PySem.W.kla_fn "<lambda>" q params body scope cl pm (.ref c') ctv) [] sp:=by
 refine⟨λ vs H Q E h=>by rw[(len vs H Q E h).1];rfl,λ A outer s H args us vs Q E hr e0 hb r hsp=>?_⟩;obtain⟨rfl,hsm⟩:=len _ _ _ _ hsp;obtain⟨te,hpe,hte⟩:=hbody A outer s H Q E (hr.deeper _) hsp;have hlim:s.heap.NoLimit:=e0.mod.nolimit.keeps λ b o e=>(e0.bs b o e).1
 obtain⟨hf,oc,hc,hco⟩:=la;obtain⟨ho,_⟩:s.heap.get? f=some _/\_:=e0.hok f _ (hsm _ _ hf);obtain⟨hoc,_⟩:s.heap.get? c'=some oc/\_:=e0.hok c' _ (hsm _ _ hc);obtain⟨vs,t,hd,hv⟩:=hco;refine PySem.W.kla_callFunE hr.depth ho rfl S.co S.gen rfl ⟨c',oc,vs,t,rfl,hoc,hd,hv⟩ (hb _ _ _ _ ?_);refine wpAny_newFunctionEnv S.cell (by intro y hy;simp at hy) (λ h₁ hns hsb=>?_) S.kind;have hk₁:∀b o,s.heap.get? b=some o->h₁.get? b=some o:=λ b o e=>hsb.extBut b o (Nat.ne_of_lt (Heap.lt_size e)) (Heap.get?_push_of_some _ e)
 refine⟨hlim.keeps hk₁,?_⟩;show codeAny _ _ (.expr body (PySem.W.envX q scope s.heap.objs.size f (.ref c') cl)) _ _;have kb:∀b o,base.get? b=some o->h₁.get? b=some o:=λ b o e=>hk₁ b o (e0.bs b o e).1
 have I:Inv (cxL P w K mg base N q scope cl f (.ref c') A outer s H E) [] σ H {s with heap:=h₁,toks:=s.toks+(([]:List Str).zip us).length}:=by
  refine⟨⟨e0.mod,S.kind,rfl,rfl,Nat.le_refl _,cp.inj,λ x hx=>?_,λ x c z=>absurd z Bool.false_ne_true,λ _=>hr.hd,Around.frames_deeper e0.frames,.inr ⟨rfl,rfl⟩,λ b z=>(nomatch z),e0.bs,e0.bsz,λ b _ _=>λ z=>(nomatch z),λ b z=>(nomatch z),e0.funs,e0.frf⟩,
   rfl,e0.bare,Un.kept hk₁,⟨_,hns,λ i x v e1 e2 e3=>?_⟩,λ x c e=>?_,e0.hok.fresh (Nat.le_refl _),λ x c e=>?_,λ p hp=>(nomatch hp),e0.hok.kept hk₁,cp.len,λ p hp=>(nomatch hp)⟩
  ·rcases hx with z|z
   ·exact absurd rfl (S.cell _ (PySem.mem_of_lookup z))
   ·exact cp.has x z
  ·rcases e3 with z|z|z
   ·exact absurd rfl (S.loc _ (PySem.mem_of_lookup z))
   ·exact absurd rfl (S.cell _ (PySem.mem_of_lookup z))
   ·obtain⟨c,u,c1,c2,c3⟩:=cp.val i x v e1 e2 z
    exact⟨u,c2,.inr ⟨.inr z,c,c1,c3.keeps kb⟩⟩
  ·obtain⟨v,z⟩:=cp.cell x c e
   exact⟨v,z.keeps kb⟩
  ·obtain⟨v,o,z,_⟩:=cp.cell x c e
   exact(e0.bs c o z).2
 refine PySem.W.kla_codeExpr (wpAny_mono (hpe [] _ σ H _ I hte) (λ u s' hq=>?_) λ e s' hq=>hq);obtain⟨v,H',J,rv,q⟩:=hq;exact⟨v,H',J.os,J.bare,J.base,J.hok,rv,q⟩
def bse(X:Cx)(s:Shared)(H:Hp):Heap:=PySem.W.hideAll s.heap (trk s.heap H++frs X.stack)
section
variable{X:Cx}{pins:List (Addr×Obj)}{σ:St}{H:Hp}{s:Shared}
theorem aBo{b:Addr}{o:Obj}(e:s.heap.get? b=some o)(n:H b=none)(nf:b∉frs X.stack):(bse X s H).get? b=some o:=
 PySem.W.hideAll_get _ e λ hm=>by
  rcases List.mem_append.mp hm with z|z
  ·have q:(H b).isSome=true:=(List.mem_filter.mp z).2
   rw[n]at q;cases q
  ·exact nf z
theorem aIw{b:Addr}{o:Obj}(e:(bse X s H).get? b=some o):s.heap.get? b=some o/\H b=none:=by
 have e1:=PySem.W.of_hideAll _ e;refine⟨e1,?_⟩;cases q:H b with
 |none=>rfl
 |some u=>
  have hm:b∈trk s.heap H++frs X.stack:=List.mem_append_left _ (List.mem_filter.mpr ⟨List.mem_range.mpr (Heap.lt_size e1),by rw[q];rfl⟩);have z:(PySem.W.hideAll s.heap (trk s.heap H++frs X.stack)).get? b=none:=PySem.W.hideAll_none _ hm;have e2:(PySem.W.hideAll s.heap (trk s.heap H++frs X.stack)).get? b=some o:=e;rw[z]at e2;cases e2
theorem Inv.env1(I:Inv X pins σ H s):zx X.prog X.w X.K X.mg (bse X s H) X.A X.stack s H:=by
 have kb:∀b o,X.base.get? b=some o->(bse X s H).get? b=some o:=λ b o e=>aBo (I.bs b o e).1 (I.bs b o e).2 λ hb=>by
  have z:=(I.stack.mem hb).1;rw[e]at z;cases z
 have ns:∀{b:Addr} {m:Str->Option Value},X.base.Ns b m->(bse X s H).Ns b m:=λ{b m} ⟨o,es,ep,e,r⟩=>⟨o,es,ep,kb _ _ e,r⟩
 refine⟨I.ok.frames,⟨I.mod.kin.keeps kb,ns I.mod.glob,?_,I.mod.nolimit.keeps kb⟩,λ b o e=>aIw e,Nat.le_of_eq (PySem.W.hideAll_size _ _),PySem.W.funFrames_hide I.stack λ env he a ha=>List.mem_append_right _ (List.mem_filterMap.mpr ⟨env,he,ha⟩),I.stkFree,I.hok,I.bare⟩;obtain⟨mb,h1,h2⟩:=I.mod.blt;exact⟨mb,ns h1,h2⟩
theorem aFW{CX:CXT}{k:Nat}{f:Addr}{fd:FuncData}{ps:List Str}{sp:Sp}{E:XK}{Q:VK}{vs:List V}{us:List Value}(I:Inv X pins σ H s)(F:cg X.prog X.w X.K X.mg (bse X s H) CX k f fd ps sp)(hr:dG k X.A)(hb:Binds X.K fd ps [])(hx:nU CX X E)
  (r:Vals vs us)(h:sp vs H Q E):wpAny (model X.prog X.w) X.A (call (.ref f) us) (EP X pins σ Q) X.xe s:=by
 have hl:(us++[]).length=ps.length:=by rw[List.append_nil,<-r.length];exact F.len _ _ _ _ h
 have hb':=hb s us I.kIn hl;rw[List.append_nil]at hb';refine wpAny_call (codeAny_mono (F.run X.A X.stack s H ⟨us,[]⟩ us vs Q E hr I.env1 hb' r h) λ r s' hq=>?_);cases r with
 |error e=>exact hx pins σ H s e s' I hq
 |ok fl=>
  cases fl with
  |ret u=>exact I.after hq
  |next=>exact False.elim hq
  |brk=>exact False.elim hq
  |cont=>exact False.elim hq
theorem aIv{scope:Scope}(I:Inv X pins σ H s)(ho:X.outer=[])(S:uU scope)(hfree:∀y∈scope.names,y.2= .free->X.env.kindOf y.1=some .cell\/X.env.kindOf y.1=some .free):aEz (bse X s H) X.N σ scope (aq scope X.env):=by
 have cb:∀x c v,X.env.cells.lookup x=some c->s.heap.IsCell c v->(bse X s H).IsCell c v:=λ x c v e ⟨o,h1,h2⟩=>⟨o,aBo h1 (I.freeC x c e) λ hb=>by
  rcases List.mem_cons.mp (I.stkSub c hb)with z|z
  ·exact I.cne x c e z
  ·have z2:c∈frs X.outer:=z
   rw[ho]at z2;exact absurd z2 (by simp[frs]),h2⟩
 have hk:∀x,scope.names.lookup x=some .free->X.env.kindOf x=some .cell\/X.env.kindOf x=some .free:=λ x hx=>hfree (x,.free) (PySem.mem_of_lookup hx) rfl
 refine⟨λ x y c e1 e2=>I.ok.inj x y c (eG e1) (eG e2),λ x hx=>?_,λ x c e=>?_,λ i x v e1 e2 hx=>?_,I.len⟩
 ·obtain⟨c,hc⟩:=I.ok.has x (hk x hx)
  exact⟨c,oR hx hc⟩
 ·obtain⟨v,z⟩:=I.cell x c (eG e)
  exact⟨v,cb x c v (eG e) z⟩
 ·obtain⟨m,hn,hl⟩:=I.loc
  obtain⟨u,ru,hu⟩:=hl i x v e1 e2 ((hk x hx).elim (λ z=>.inr (.inl z)) λ z=>.inr (.inr z));rcases hu with ⟨k,_⟩|⟨_,c,ec,ic⟩
  ·rcases hk x hx with z|z
   ·exact absurd (k.symm.trans z) (by decide)
   ·exact absurd (k.symm.trans z) (by decide)
  ·exact⟨c,u,oR hx ec,ru,cb x c _ ec ic⟩
end
abbrev bmV:List Value:=[.type "ValueError",.type "Exception",.type "BaseException",.type "object"]
section
variable{prog:Program}{w:World}{A:Around}{E:Value->Shared->Prop}{h:Heap}{g:Array GenState}{d:Drawn}{t:Nat}{os:OsState}{a:Addr}{o:Obj}
 {nm q:Str}{C N:Addr}{bs bm:List Value}{hdct:Bool}{sn:List Str}{sub:List Value}{ab:Bool}{col:Option Bool}{dd:Option Addr}{k0 k1 k2 k3 k5:Option Value}{newId:String}{K:PySem.W.Frag}
theorem zb{R:Result->Shared->Prop}(hC:h.get? C=some (excClassObj nm q C N bs bm hdct sn sub ab col dd k0 k1 k2 k3 k5 newId))(T:OwnTail h bmV bm)
  (hx:h.get? a=some o)(hc:o.cls= .ref C)(hq:R (.ok (.ret (.ref C))) ⟨h,g,d,t,os⟩):
  codeAny (model prog w) A (.call (.builtin "getset_descriptor.__get__") ⟨[.builtin "object.__class__",.ref a,.ref C],[]⟩) R ⟨h,g,d,t,os⟩:=by
 have hT5:(⟨h,g,d,t,os⟩:Shared).TypeIs (.builtin "object.__class__") "getset_descriptor":=F.typeOf_object_class;have hcB:(Value.ref C::bm).contains (.type (".".intercalate ("object.__class__".cutAt '.').dropLast))=true:=by
  rw[F.owner_object_class,List.contains_cons,T.hasType (X:="object") (b:=true) (by decide+kernel)];rfl
 refine codeAny_call_builtin F.slot_gs_get.plain F.entry_gs_get (F.slot_gs_get.check _ _ _ _ _ _ _ _ hT5 (F.args_gs_get _ _ _) ?_)
 repeat (any_goals (first|assumption|(with_reducible refine wpAny_loadPart_at hx ?_;rw[hc])|(with_reducible refine wpAny_isSubtype_exc hC ?_;rw[hcB])|wp_step))
 refine⟨Code.quiet_builtin _ (by decide+kernel),codeAny_builtin F.entry_object_class ?_⟩
 repeat (any_goals (first|assumption|(with_reducible refine wpAny_loadPart_at hx ?_;rw[hc])|wp_step))
theorem xx{M:Model}{nameV:Value}{Q:Unit->Shared->Prop}(hC:h.get? C=some (excClassObj nm q C N bs bm hdct sn sub ab col dd k0 k1 k2 k3 k5 newId))(T:OwnTail h bmV bm)
  (hx:h.get? a=some o)(hc:o.cls= .ref C)(hq:Q () ⟨h,g,d,t,os⟩):wpAny M A (checkBuiltinCall "BaseException.__getattribute__" ⟨[.ref a,nameV],[]⟩) Q E ⟨h,g,d,t,os⟩:=by
 have hk:builtinKind "BaseException.__getattribute__"=some .slot:=by decide+kernel
 have hsplit:splitId "BaseException.__getattribute__"=some ("BaseException","__getattribute__"):=by decide+kernel
 have hcB:(Value.ref C::bm).contains (.type "BaseException")=true:=by rw[List.contains_cons,T.hasType (X:="BaseException") (b:=true) (by decide+kernel)];rfl
 have ha:=F.args_bexc_ga (.ref a) nameV;simp only[checkBuiltinCall,hk,hsplit];refine wpAny_bind ?_
 ·unfold isInstance
  repeat (first|(with_reducible refine wpAny_loadPart_at hx ?_;rw[hc])|(with_reducible refine wpAny_isSubtype_exc hC ?_;rw[hcB])|wp_step)
  exact hq
theorem ur{tk:Tok}{Q:Fin->Shared->Prop}(hC:h.get? C=some (excClassObj nm q C N bs bm hdct sn sub ab col dd k0 k1 k2 k3 k5 newId))(T:OwnTail h bmV bm)(lk:∀M:Model,PySem.W.Looks M h (typeLookup (.ref C) "__class__") (some (.builtin "object.__class__")))
  (hx:h.get? a=some o)(hc:o.cls= .ref C)(hq:Q (.done (.ret (.ref C))) ⟨h,g,d,t,os⟩):
  wpAny (model prog w) A (Builtin.«object.__getattribute__» ⟨[.ref a,.str "__class__" tk],[]⟩) Q E ⟨h,g,d,t,os⟩:=by
 have hT5:(⟨h,g,d,t,os⟩:Shared).TypeIs (.builtin "object.__class__") "getset_descriptor":=F.typeOf_object_class;have f5:=F.typeOf_object_class;have f6:=F.slot_gs_get.lookup;have f7:=F.slot_gs_set.lookup
 repeat (any_goals (first|assumption|(with_reducible refine wpAny_loadPart_at hx ?_;rw[hc])|with_reducible refine(lk _).here ?_|wp_step))
 refine zb hC T hx hc ?_
 repeat (any_goals (first|assumption|wp_step))
theorem xr{Q:Option Value->Shared->Prop}(hC:h.get? C=some (excClassObj nm q C N bs bm hdct sn sub ab col dd k0 k1 k2 k3 k5 newId))(T:OwnTail h bmV bm)(lk:∀M:Model,PySem.W.Looks M h (typeLookup (.ref C) "__class__") (some (.builtin "object.__class__")))
  (lg:∀M:Model,PySem.W.Looks M h (typeLookup (.ref C) "__getattribute__") (some (.builtin "BaseException.__getattribute__")))(ln:∀M:Model,PySem.W.Looks M h (typeLookup (.ref C) "__getattr__") none)
  (hx:h.get? a=some o)(hc:o.cls= .ref C)(hq:Q (some (.ref C)) ⟨h,g,d,t+1,os⟩):wpAny (model prog w) A (getAttr? (.ref a) "__class__") Q E ⟨h,g,d,t,os⟩:=by
 have by_exc:∀{E:Value->Shared->Prop} {t:Nat} {tk:Tok} {Q:Value->Shared->Prop},Q (.ref C) ⟨h,g,d,t,os⟩->wpAny (model prog w) A (getAttrBy (.ref a) (.str "__class__" tk) false) Q E ⟨h,g,d,t,os⟩:=by
  intro E t tk Q hq;have FB:=PySem.F.excAttr_ValueError;have f3:=FB.ga.bind (.ref a);have hx0:(false&&onTheHeap (Value.builtin "BaseException.__getattribute__"))=false:=rfl;have hx2:(Value.builtin "BaseException.__getattribute__"==Value.builtin "object.__getattribute__")=false:=by decide+kernel
  have hx1:(onTheHeap (Value.ref C)&&Value.builtin "BaseException.__getattribute__"==Value.builtin "object.__getattribute__")=false:=by rw[hx2];rfl
  repeat (any_goals (first|assumption|(with_reducible refine wpAny_loadPart_at hx ?_;rw[hc])|with_reducible refine(lg _).here ?_|with_reducible refine(ln _).here ?_|wp_step))
  refine codeAny_call_builtin FB.ga.plain F.entry_bexc_ga (xx hC T hx hc (ur hC T lk hx hc ?_))
  repeat (any_goals (first|assumption|wp_step))
 unfold getAttr? getAttrBy?
 repeat (any_goals (first|assumption|with_reducible apply by_exc|wp_step))
theorem aEM(hE:gR K C)(ha:PySem.W.findIn K (.ref C) "__class__"=some (some (.builtin "object.__class__")))(hgt:PySem.W.findIn K (.ref C) "__getattribute__"=some (some (.builtin "BaseException.__getattribute__")))
  (hga:PySem.W.findIn K (.ref C) "__getattr__"=some none):PySem.W.KitX K (.ref a) (.ref C) (λ h=>∃o,h.get? a=some o/\o.cls= .ref C) where
 ty:=λ M h _ ⟨o,h1,h2⟩=>h2▸(PySem.W.Looks.ld h1).andThen .now
 it:=λ M h X _=>by
  obtain⟨bm,NN,nm,q,bs,hdct,sn,sub,ab,col,dd,k0,k1,k2,k3,k5,mN,hC,_⟩:=(pK (h:=h) (mg:=λ _=>some (.ref C)) (x:="x") X rfl hE).obj;intro A' Q' E' s' k q;unfold isType loadHead;exact wpAny_bind (wpAny_loadPart (k _ _ hC) (wpAny_pure q))
 ne:=λ h tp dd its n sl X htp=>by
  obtain⟨bm,NN,nm,q,bs,hdct,sn,sub,ab,col,dd,k0,k1,k2,k3,k5,mN,hC,_⟩:=(pK (h:=h) (mg:=λ _=>some (.ref C)) (x:="x") X rfl hE).obj;refine Bool.eq_false_iff.mpr λ z=>?_
  have e:C=tp:=Value.ref.inj (beq_iff_eq.mp z);subst e;rw[hC]at htp;exact absurd (congrArg Obj.cls (Option.some.inj htp)) (by show Value.type "type"≠Value.type "tuple";decide+kernel)
 ca:=λ{prog w A E Q s} X ⟨o,h1,h2⟩ k=>by
  obtain⟨h,g,d,t,os⟩:=s;obtain⟨bm,NN,nm,q,bs,hdct,sn,sub,ab,col,dd,k0,k1,k2,k3,k5,mN,hC,hN,hni,T⟩:=(pK (h:=h) (mg:=λ _=>some (.ref C)) (x:="x") X rfl hE).obj;exact xr hC T (λ M=>PySem.W.looks_findIn X ha) (λ M=>PySem.W.looks_findIn X hgt) (λ M=>PySem.W.looks_findIn X hga) h1 h2 k
end
def excφ(a C:Addr):Heap->Prop:=λ h=>∃o,h.get? a=some o/\o.cls= .ref C
theorem excφ_stay{a C:Addr}:∀h1 h2:Heap,excφ a C h1->(∀o,h1.get? a=some o->h2.get? a=some o)->excφ a C h2:=λ h1 h2 ⟨o,e,c⟩ k=>⟨o,k o e,c⟩
structure aGt(K:PySem.W.Frag)(C:Addr):Prop where
 ex:gR K C
 ca:PySem.W.findIn K (.ref C) "__class__"=some (some (.builtin "object.__class__"))
 gt:PySem.W.findIn K (.ref C) "__getattribute__"=some (some (.builtin "BaseException.__getattribute__"))
 ga:PySem.W.findIn K (.ref C) "__getattr__"=some none
section
variable{X:Cx}
def aHF(K:PySem.W.Frag):List V->Hp->VK->Prop:=λ xs H Q=>∃a C y c b,xs=[.ref a,y]/\RelV y c/\H a=some (.ext (excφ a C))/\aGt K C/\PySem.W.kitOne K (.ref C) c=some b/\Q (.bl b) H
theorem aCi:bx X (.builtin "isinstance") (aHF X.K):=by
 intro pins s σ H xs us Q I r h;obtain⟨a,C,y,c,b,rfl,ry,ha,kc,e,q⟩:=h;obtain⟨u,w',rfl,r1,r2⟩:=vals2 r;cases r1;have hc:w'=c:=by
  cases y<;>first
   |(cases r2;cases ry;rfl)
   |(obtain⟨t1,rfl⟩:=r2;obtain⟨t2,rfl⟩:=ry;exact absurd e (by simp[PySem.W.kitOne,PySem.W.kitCls]))
 subst hc;obtain⟨p,_⟩:excφ a C s.heap/\_:=I.hok a _ ha;exact PySem.W.kia_one (aEM kc.ex kc.ca kc.gt kc.ga) I.kIn p e (λ z=>nomatch z) λ tk=>⟨.bl b,H,I.tok tk,rfl,q⟩
end
abbrev Cx.re(X:Cx)(A:Around)(c:Bool)(pl:List (Addr×Obj))(E:Value->Shared->Prop):Cx:={X with A:=A,calm:=c,pn:=X.pn++pl,xe:=E}
section
variable{X:Cx}{pins:List (Addr×Obj)}{σ:St}{H:Hp}{s:Shared}
theorem Inv.re{A:Around}{c:Bool}{E:Value->Shared->Prop}(I:Inv X pins σ H s)(hf:A.frames=X.A.frames)(hd:c=true->A.handled=none):Inv (X.re A c pins E) [] σ H s:=
 ⟨⟨I.ok.mod,I.ok.kind,I.ok.glob,I.ok.blt,I.ok.above,I.ok.inj,I.ok.has,I.ok.cab,hd,hf.trans I.ok.frames,I.ok.stk,I.ok.exf,I.ok.bs,I.ok.bsz,I.ok.noex,I.ok.exfs,I.ok.funs,I.ok.frf⟩,
  I.os,I.bare,I.base,I.loc,I.cell,I.free,I.freeC,λ p hp=>I.pin p (by rw[List.append_nil]at hp;exact hp),I.hok,I.len,λ p hp=>let⟨a,b,c,d,e⟩:=I.tab p hp;⟨a,b,c,λ q hq=>d q (by rw[List.append_nil]at hq;exact hq),e⟩⟩
theorem Inv.unre{A:Around}{c:Bool}{E:Value->Shared->Prop}{pins2:List (Addr×Obj)}{σ2:St}{H2:Hp}{s2:Shared}(ok:X.Ok)(J:Inv (X.re A c pins E) pins2 σ2 H2 s2):Inv X pins σ2 H2 s2:=
 ⟨ok,J.os,J.bare,J.base,J.loc,J.cell,J.free,J.freeC,λ p hp=>J.pin p (List.mem_append_left _ hp),J.hok,J.len,λ p hp=>let⟨a,b,c,d,e⟩:=J.tab p hp;⟨a,b,c,λ q hq=>d q (List.mem_append_left _ hq),e⟩⟩
theorem Inv.track{a:Addr}{o:HO}(I:Inv X pins σ H s)(ha:H a=none)(h0:X.s₀.heap.get? a=none)(hL:X.env.locals≠a)(hc:∀x c,X.env.cells.lookup x=some c->c≠a)(hp:∀p∈X.ta++(X.pn++pins),p.1≠a)
  (new:cX X.prog X.w (upd H a o) s.heap a o):Inv X pins σ (upd H a o) s:=by
 have ne:∀b u,H b=some u->b≠a:=λ b u e=>bZ e ha
 refine⟨I.ok,I.os,I.bare,⟨I.base.keep,I.base.slot,λ b ob e n nx=>?_,I.base.there,λ b xs e=>?_,λ b ob u e=>?_,λ b ps e=>?_⟩,I.loc,I.cell,?_,λ x c e=>?_,λ p hp'=>?_,λ b u e=>?_,I.len,λ p hp'=>?_⟩
 ·rw[aa (λ z=>by rw[z,h0]at e;cases e)]
  exact I.base.free b ob e n nx
 ·have e1:=I.base.tups b xs e
  rw[aa (ne b _ e1)];exact e1
 ·have e1:=I.base.frzs b ob u e
  rw[aa (ne b _ e1)];exact e1
 ·obtain⟨m,e1⟩:=I.base.tbls b ps e
  exact⟨m,by rw[aa (ne b _ e1)];exact e1⟩
 ·rw[aa hL];exact I.free
 ·rw[aa (hc x c e)];exact I.freeC x c e
 ·obtain⟨p1,p2,p3⟩:=I.pin p hp'
  exact⟨p1,by rw[aa (hp p (List.mem_append_right _ hp'))];exact p2,p3⟩
 ·by_cases hb:b=a
  ·subst hb;rw[ao]at e;cases e;exact new
  ·rw[aa hb]at e
   exact(I.hok b u e).stay (λ c v _ q=>q) (λ c q=>by rw[aa (ne c _ q)];exact q) λ c xs q=>by rw[aa (ne c _ q)];exact q
 ·obtain⟨n1,n2,n3,n0,ps,n4,n5⟩:=I.tab p hp'
  exact⟨by rw[aa (hp p (List.mem_append_left _ hp'))];exact n1,n2,n3,n0,ps,n4,n5.mono λ b o u e=>by rw[aa (ne b _ e)];exact e⟩
theorem Inv.gone{i:Nat}{n:Str}{h':Heap}{m:Str->Option Value}{v:Option Value}{tk:Nat}(I:Inv X pins σ H s)(hN:X.N.Nodup)(hi:X.N[i]? =some n)(hm:s.heap.Ns X.env.locals m)(hn:h'.Ns X.env.locals λ x=>if x=n then v else m x)(hs:Heap.SameBut X.env.locals s.heap h'):
  Inv X pins (σ.set i none) H {s with heap:=h',toks:=tk}:=by
 obtain⟨m0,hm0,hl⟩:=id I.loc;have cne:=I.cne;have em:m0=m:=by
  obtain⟨o1,es1,ep1,e1,d1,k1⟩:=hm0;obtain⟨o2,es2,ep2,e2,d2,k2⟩:=hm;rw[e1]at e2;cases e2;rw[d1]at d2;cases d2;funext x;exact(k1.2 x).symm.trans (k2.2 x)
 subst em;obtain⟨oL,_,_,hoL,_⟩:=id hm0;have keep:∀b o,b≠X.env.locals->s.heap.get? b=some o->h'.get? b=some o:=λ b o nb e=>(hs.2 b nb).trans e
 refine⟨I.ok,I.os,I.bare,⟨λ b o e n' hb hx=>?_,λ b o e n' hb hx=>?_,I.base.free,λ b o e hx=>?_,I.base.tups,I.base.frzs,I.base.tbls⟩,⟨_,hn,λ j y v' e1 e2 e3=>?_⟩,λ y c e=>?_,I.free,I.freeC,λ p hp=>?_,λ b u e=>?_,by simpa using I.len,λ p hp=>?_⟩
 ·exact keep b o (Nat.ne_of_lt (Nat.lt_of_lt_of_le (Heap.lt_size e) I.ok.above)) (I.base.keep b o e n' hb hx)
 ·obtain⟨sl,e1⟩:=I.base.slot b o e n' hb hx
  exact⟨sl,keep b _ (Nat.ne_of_lt (Nat.lt_of_lt_of_le (Heap.lt_size e) I.ok.above)) e1⟩
 ·obtain⟨o',e1⟩:=I.base.there b o e hx
  exact⟨o',keep b _ (Nat.ne_of_lt (Nat.lt_of_lt_of_le (Heap.lt_size e) I.ok.above)) e1⟩
 ·have hj:j≠i:=λ z=>by
   subst z;rw[List.getElem?_set]at e2;simp at e2
  rw[List.getElem?_set_ne (Ne.symm hj)]at e2;obtain⟨u,r,q⟩:=hl j y v' e1 e2 e3;refine⟨u,r,?_⟩;have yn:y≠n:=λ z=>hj (tH hN e1 (z▸hi))
  rcases q with ⟨k,e⟩|⟨k,c,e,z⟩
  ·exact .inl ⟨k,by simp[yn,e]⟩
  ·exact .inr ⟨k,c,e,z.sameBut hs (cne y c e)⟩
 ·obtain⟨v',z⟩:=I.cell y c e
  exact⟨v',z.sameBut hs (cne y c e)⟩
 ·obtain⟨p1,p2,p3,p4⟩:=I.pin p hp
  exact⟨keep _ _ p3 p1,p2,p3,p4⟩
 ·refine(I.hok b u e).stay (λ c v' hc q=>keep c v' ?_ q) (λ _ q=>q) λ _ _ q=>q
  rintro rfl;rcases hc with z|z
  ·rw[<-z,I.free]at e;cases e
  ·rw[I.free]at z;cases z
 ·obtain⟨n1,n2,n3,n0,ps,n4,n5⟩:=I.tab p hp
  exact⟨n1,n2,n3,n0,ps,keep _ _ n2 n4,n5⟩
end
section
variable{M:Model}{A:Around}{E:Value->Shared->Prop}{h:Heap}{g:Array GenState}{d:Drawn}{t:Nat}{os:OsState}
variable{nm q:Str}{C N:Addr}{bs bm:List Value}{hdct:Bool}{sn:List Str}{sub:List Value}{ab:Bool}{col:Option Bool}{dd:Option Addr}{k0 k1 k2 k3 k5:Option Value}{newId:String}
variable{nm' q':Str}{C' N':Addr}{bs' bm':List Value}{hdct':Bool}{sn':List Str}{sub':List Value}{ab':Bool}{col':Option Bool}{dd':Option Addr}{k0' k1' k2' k3' k5':Option Value}{newId':String}
theorem uJ{e:Addr}{oe:Obj}{Q:Bool->Shared->Prop}(hC:h.get? C=some (excClassObj nm q C N bs bm hdct sn sub ab col dd k0 k1 k2 k3 k5 newId))(hC':h.get? C'=some (excClassObj nm' q' C' N' bs' bm' hdct' sn' sub' ab' col' dd' k0' k1' k2' k3' k5' newId'))
  (he:h.get? e=some oe)(hcls:oe.cls= .ref C)(hb':bm'.contains (.type "BaseException")=true)(hs:(Value.ref C::bm).contains (.ref C')=true)
  (hq:Q true ⟨h,g,d,t,os⟩):wpAny M A (excMatches (.ref e) (.ref C')) Q E ⟨h,g,d,t,os⟩:=by
 have hcB:(Value.ref C'::bm').contains (.type "BaseException")=true:=by rw[List.contains_cons,hb',Bool.or_true]
 have f:=tc_notTuple;unfold excMatches
 repeat (first|(with_reducible refine wpAny_loadPart_at he ?_;rw[hcls])|with_reducible refine wpAny_loadPart_at hC' ?_|(with_reducible refine wpAny_isSubtype_exc hC' ?_;rw[hcB])|(with_reducible refine wpAny_isSubtype_exc hC ?_;rw[hs])|wp_step)
 exact hq
end
theorem cX.there{P:Program}{w:World}{H:Hp}{h:Heap}{a:Addr}{o:HO}(x:cX P w H h a o):∃ob,h.get? a=some ob:=by
 cases o with
 |lst xs=>obtain⟨_,_,_,_,e⟩:=x;exact⟨_,e⟩
 |tup xs=>
  obtain⟨_,_,_,p⟩:=x;obtain⟨o,e,_⟩:=p;exact⟨_,e⟩
 |dK kvs=>obtain⟨_,_,_,_,o,_,_,e,_⟩:=x;exact⟨_,e⟩
 |dT kvs=>obtain⟨_,_,_,_,o,_,_,e,_⟩:=x;exact⟨_,e⟩
 |set S n=>obtain⟨o,_,_,_,e,_⟩:=x;exact⟨_,e⟩
 |ins C dx fs=>obtain⟨_,_,_,e,_⟩:=x;exact⟨_,e⟩
 |own y=>exact x
 |xd fs=>obtain⟨_,⟨_,_,_,e,_⟩,_⟩:=x;exact⟨_,e⟩
 |rng lo hi=>obtain⟨_,_,_,e⟩:=x;exact⟨_,e⟩
 |frz ob u=>obtain⟨e,_⟩:=x;exact⟨_,e⟩
 |tbl ps=>exact⟨_,show h.get? a=some _ from x⟩
 |met f y=>exact⟨_,show h.get? a=some _ from x⟩
 |ext φ=>obtain⟨_,e,_⟩:=x;exact e
def ph(K:PySem.W.Frag)(C C':Addr):Bool:=
 match K.lookup C with
 |some ⟨_,_,.cls cd,_⟩=>cd.mro.contains (.ref C')
 |_=>false
abbrev Cx.tr(X:Cx)(pins:List (Addr×Obj))(E':XK):Cx:=X.re X.A true pins λ e s'=>∃σ H s,Inv X pins σ H s/\CX1 X.prog X.w X.stack H s E' e s'
abbrev Cx.ha(X:Cx)(pins:List (Addr×Obj))(ea:Addr):Cx:=X.re (X.A.mark (some (.ref ea))) false pins λ _ _=>False
def aCs(X:Cx)(i:Nat)(C':Addr)(E':XK)(tb th:TS):TS:=λ D σ H=>tb D σ H/\∀cls H1,E' cls none H1->∃C,cls= .ref C/\gR X.K C/\ph X.K C C'=true/\∀(σ1:St) (ea:Addr),σ1.length=X.N.length->H1 ea=none->
 th {nx:=λ σ' H'=>D.nx (σ'.set i none) H',rt:=D.rt,bk:=λ σ' H'=>D.bk (σ'.set i none) H',ct:=λ σ' H'=>D.ct (σ'.set i none) H'} (σ1.set i (some (.ref ea))) (upd H1 ea (.ext (excφ ea C)))
section
variable{X:Cx}{E E':XK}
theorem Cx.tr_ok{pins:List (Addr×Obj)}(J:(X.tr pins E').Ok):X.Ok:=
 ⟨J.mod,J.kind,J.glob,J.blt,J.above,J.inj,J.has,J.cab,λ _=>J.hd rfl,J.frames,J.stk,J.exf,J.bs,J.bsz,J.noex,J.exfs,J.funs,J.frf⟩
theorem Cx.tr_pass{pins:List (Addr×Obj)}:nU (CX1 X.prog X.w) (X.tr pins E') E':=λ pins2 σ H s e s' I h=>⟨σ,H,s,Inv.unre (Cx.tr_ok I.ok) I,h⟩
theorem aD4(D:cQ X E)(hc:X.calm=true)(hN:X.N.Nodup){i:Nat}{n:Str}(hi:X.N[i]? =some n)(hl:X.env.scope.names.lookup n=some .local){x:Str}{C':Addr}(hm:X.mg x=some (.ref C'))(hg:Gl X x)(hC':gR X.K C')
  {body suite:List Stmt}{b₀:Stmt}{tb th:TS}{np hpos pos:Pos}(hb:∀pins,PSs (X.tr pins E') body tb)(hs:∀pins ea,PSs (X.ha pins ea) (b₀::suite) th)(hdb:(x==("__debug__":Str))=false:=by decide):
  PS X (.Try body [.ExceptHandler (some (.Name x np)) (some n) (b₀::suite) hpos] [] [] pos) (aCs X i C' E' tb th):=by
 intro pins s σ H DD I hh;obtain⟨h1,h2⟩:=hh;refine wpAny_Try_except (wpAny_mono (hb pins [] s σ H DD (I.re rfl λ _=>I.ok.hd hc) h1) (λ f s1 q=>?_) λ e s1 q=>?_)
 ·cases f with
  |next=>
   obtain⟨σ',H',J,q⟩:=q;exact wpAny_execs_nil ⟨σ',H',Inv.unre I.ok J,q⟩
  |brk=>obtain⟨σ',H',J,q⟩:=q;exact⟨σ',H',Inv.unre I.ok J,q⟩
  |cont=>obtain⟨σ',H',J,q⟩:=q;exact⟨σ',H',Inv.unre I.ok J,q⟩
  |ret u=>obtain⟨v,σ',H',J,r,q⟩:=q;exact⟨v,σ',H',Inv.unre I.ok J,r,q⟩
 ·obtain⟨σ1,H1,s0,J,ea,cls,a0,B,H2,rfl,os,bare,un,hok,fly,bk,ba,hE⟩:=q
  obtain⟨C,rfl,hC,hsub,hth⟩:=h2 cls H2 hE;have hfr:=I.ok.frames;rw[D.stk]at hfr;have fly':=fly;rw[D.stk]at fly';have mk:∀hh:Heap,Heap.FlyingW B X.stack ea (.ref C) a0 hh->s1.heap.UpToSlots hh->Inv X pins σ1 H2 {s1 with heap:=hh}:=λ hh fl up=>by
   refine J.call' (ch:=[]) os ⟨λ b o e n nf _=>fl.1 b o (bk b o e n nf),λ b o e n hb _=>?_,un.free,λ b o e _=>?_,un.tups,un.frzs,un.tbls⟩ (λ a o e=>(hok a o e).stay (λ b u _ q=>fl.1 b u q) (λ _ z=>z) λ _ _ z=>z) bare (λ b z=>nomatch z)
   ·obtain⟨s2,e2⟩:=un.slot b o e n hb (λ z=>nomatch z)
    obtain⟨_,o3,e3,nf⟩:=fly.2.2.1.mem hb;rw[e2]at e3;cases e3;obtain⟨s4,e4⟩:=up b _ e2 nf;exact⟨s4,e4⟩
   ·by_cases hb:b∈frs X.stack
    ·obtain⟨_,o3,e3,nf⟩:=fl.2.2.1.mem hb
     exact⟨o3,e3⟩
    ·obtain⟨o',e'⟩:=ba b o e hb
     exact⟨o',fl.1 b o' e'⟩
  refine wpAny_looks_onW hfr D.fr fly' λ h3 held up3=>?_
  refine wpAny_landsW held λ h4 fly4 up4=>?_
  rw[<-D.stk]at fly4;have J4:=mk h4 fly4 (up3.trans up4);have K4:Inv (X.ha pins ea) [] σ1 H2 {s1 with heap:=h4}:=J4.re rfl (λ z=>nomatch z);obtain⟨ob4,he4,hc4⟩:=fly4.there;obtain⟨tl,NN,nm,q,bs,hdct,sn,sub,ab,col,dd,k0,k1,k2,k3,k5,mN,hCo,hNn,hni,T⟩:=(pK (h:=h4) (mg:=λ _=>some (.ref C)) (x:="x") J4.kIn rfl hC).obj;obtain⟨tl',NN',nm',q',bs',hdct',sn',sub',ab',col',dd',k0',k1',k2',k3',k5',mN',hCo',hNn',hni',T'⟩:=(pK (h:=h4) (mg:=λ _=>some (.ref C')) (x:="x") J4.kIn rfl hC').obj;have hmro:(Value.ref C::tl).contains (.ref C')=true:=by
   unfold ph at hsub;split at hsub
   ·rename_i oc od cd sl ho
    have e:=J4.kIn _ _ ho;have e2:(some _:Option Obj)=some _:=e.symm.trans hCo;injection e2 with e2
    have e3:=congrArg Obj.data e2;injection e3 with e3
    subst e3;exact hsub
   ·cases hsub
  refine wpAny_handleBy_cons (codeAny_handlers_test (lz (X:=X.ha pins ea) K4 hg hm ?_ hdb)) (by intro q;cases q);refine uJ hCo hCo' he4 hc4 (T'.hasType (X:="BaseException") (b:=true) (by decide+kernel)) hmro ?_;refine codeAny_handlers_suite_as ?_;refine lands_againW fly4 λ h5 fly5 up5=>?_
  have J5:=mk h5 fly5 ((up3.trans up4).trans up5);obtain⟨f1,f2,f3,oe,vs,T5,oT,ts,he5,⟨hcl5,h05⟩,hd5,_⟩:=id fly5;have nof:ea∉frs X.stack:=λ z=>by
   obtain⟨_,o3,e3,nf⟩:=f3.mem z;rw[he5]at e3;cases e3;exact nf vs hd5
  have inB:∀b o,s0.heap.get? b=some o->b∉frs X.stack->b≠ea:=λ b o e nf z=>by
   obtain⟨o',e'⟩:=ba b o e nf;rw[z,f2]at e';cases e'
  have hL:X.env.locals∈frs X.stack:=by
   rw[D.stk];unfold frs;rw[List.filterMap_cons,D.fr];exact List.mem_cons_self
  have h2n:H2 ea=none:=by
   cases e:H2 ea with
   |none=>rfl
   |some o=>
    obtain⟨ob,e'⟩:=(hok ea o e).there;rw[f2]at e';cases e'
  have J6:Inv X pins σ1 (upd H2 ea (.ext (excφ ea C))) {s1 with heap:=h5}:=by
   refine J5.track h2n ?_ (λ z=>nof (z▸hL)) (λ y c e z=>?_) (λ p hp z=>?_) ⟨⟨oe,he5,hcl5⟩,⟨oe,he5⟩,excφ_stay⟩
   ·cases e:X.s₀.heap.get? ea with
    |none=>rfl
    |some o=>
     obtain⟨o',e'⟩:=J.base.there ea o e (by rw[D.ex];exact λ z=>nomatch z);exact absurd rfl (inB ea o' e' nof)
   ·obtain⟨v,o,ho,hd⟩:=J5.cell y c e
    rw[z]at ho;have e2:some o=some oe:=ho.symm.trans he5;cases e2;rw[hd]at hd5;cases hd5
   ·have hh:∃o,s0.heap.get? p.1=some o/\p.1≠X.env.locals/\p.1∉X.fs:=by
     rcases List.mem_append.mp hp with z|z
     ·obtain⟨_,a,b,_,_,c,_⟩:=J.tab p z
      exact⟨_,c,a,b⟩
     ·obtain⟨p1,p2,p3,p4,_⟩:=J.pin p z
      exact⟨_,p1,p3,p4⟩
    obtain⟨o,p1,p3,p4⟩:=hh;refine inB p.1 o p1 (λ w=>?_) z;rcases List.mem_cons.mp (J.stkSub p.1 w)with z|z
    ·exact p3 z
    ·exact p4 z
  have K6:Inv (X.ha pins ea) [] σ1 (upd H2 ea (.ext (excφ ea C))) {s1 with heap:=h5}:=J6.re rfl (λ z=>nomatch z);refine n8 (X:=X.ha pins ea) (v:=.ref ea) K6 hN hi (.inl hl) rfl (λ s7 I7=>?_) (.inr hl);refine wpAny_mono (hs pins ea [] s7 _ _ _ I7 (hth σ1 ea J.len h2n)) (λ f s8 q8=>?_) λ _ _ z=>z.elim
  have goes:∀{σ':St} {H':Hp} {Q:Shared->Prop},Inv (X.ha pins ea) [] σ' H' s8->(∀s9,Inv X pins (σ'.set i none) H' s9->Q s9)->
    wpAny (model X.prog X.w) X.A (do bindName X.env n .none;unbindBehindTheSuite X.env n hpos) (λ _ s9=>Q s9) X.xe s8:=λ{σ' H' Q} K8 k=>by
   have J8:Inv X pins σ' H' s8:=Inv.unre I.ok K8;obtain⟨m,hmm,_⟩:=id J8.loc;refine wpAny_nameGoes_keeps hl hmm (by rw[I.ok.kind];rfl) λ h' v hn hsb=>k _ (Inv.gone J8 hN hi hmm hn hsb)
  cases f with
  |next=>obtain⟨σ',H',K8,q⟩:=q8;exact goes K8 λ s9 J9=>⟨_,_,J9,q⟩
  |brk=>obtain⟨σ',H',K8,q⟩:=q8;exact goes K8 λ s9 J9=>⟨_,_,J9,q⟩
  |cont=>obtain⟨σ',H',K8,q⟩:=q8;exact goes K8 λ s9 J9=>⟨_,_,J9,q⟩
  |ret u=>obtain⟨v,σ',H',K8,r,q⟩:=q8;exact goes K8 λ s9 J9=>⟨v,_,_,J9,r,q⟩
end
structure il(k:Nat)(A:Around):Prop where
 dp:A.depth+3*k+5<recursionLimit
 un:A.units+16*k+200<cLine
theorem dG.h{k:Nat}{A:Around}(r:dG k A):il k A:=⟨r.dp,r.un⟩
theorem il.mark{k:Nat}{A:Around}{v:Option Value}(r:il k A):il k (A.mark v):=⟨r.dp,r.un⟩
theorem il.mono{j k:Nat}{A:Around}(r:il k A)(h:j<=k):il j A:=⟨by have:=r.dp;omega,by have:=r.un;omega⟩
theorem il.deeper{k:Nat}{A:Around}(r:il (k+1) A)(env:Env):il k (A.deeper env):=
 ⟨by have:=r.dp;show A.depth+1+3*k+5<_;omega,by have:=r.un;show A.units+3+16*k+200<_;omega⟩
theorem il.depth{k:Nat}{A:Around}(r:il k A):A.depth<recursionLimit:=by have:=r.dp;omega
abbrev aEn(A:Around):Around:={A with handled:=none}
structure FnH(P:Program)(w:World)(K:PySem.W.Frag)(mg:Str->Option Value)(base:Heap)(k:Nat)(f:Addr)(fd:FuncData)(ps:List Str)(sp:Sp):Prop where
 len:∀vs H Q E,sp vs H Q E->vs.length=ps.length
 run:∀(A:Around) (outer:List Env) (s:Shared) (H:Hp) (args:Args) (us:List Value) (vs:List V) (Q:VK) (E:XK),il k A->zx P w K mg base A outer s H->BindsTo s fd args (ps.zip us)->Vals vs us->sp vs H Q E->
  codeAny (model P w) A (.call (.ref f) args) (CR CX0 outer P w H s Q E) s
abbrev cxH(P:Program)(w:World)(K:PySem.W.Frag)(mg:Str->Option Value)(base:Heap)(N:List Str)(q:Str)(scope:Scope)(f:Addr)(cd:Value)(A:Around)(outer:List Env)(s:Shared)(H:Hp):Cx:=
 (qw CX0 P w K mg base N q scope f cd (aEn A) outer s H λ _ _ _=>False).re (A.deeper (envOfC q scope s.heap.objs.size f cd)) false [] λ _ _=>False
section
variable{P:Program}{w:World}{K:PySem.W.Frag}{mg:Str->Option Value}{base:Heap}
theorem Fun.okH{x q:Str}{st:Stmt}{f:Addr}{fd:FuncData}{N ps:List Str}{k:Nat}{sp:Sp}(F:Fun K x q st f fd)(S:ak N ps (aG st))(len:∀vs H Q E,sp vs H Q E->vs.length=ps.length)
  (hbody:∀(cdv:Value) (A:Around) (outer:List Env) (s:Shared) (H:Hp) (vs:List V) (Q:VK) (E:XK),il k (A.deeper (envOfC q (aG st) s.heap.objs.size f cdv))->sp vs H Q E->
   ∃t,PSs (cxH P w K mg base N q (aG st) f cdv A outer s H) (cM st) t/\t {nx:=λ _ H'=>Q .non H',rt:=Q} (start N vs) H):FnH P w K mg base (k+1) f fd ps sp:=by
 obtain⟨oc,od,kV,doc,pm,an,cdv,ct,osl,rfl,lk,hcd⟩:=F.ex;refine⟨len,λ A outer s H args us vs Q E hr e0 hb r hsp=>?_⟩;have KX:K.In s.heap:=e0.mod.kin.keeps λ b o e=>(e0.bs b o e).1
 have par:∀y∈ps.zip us,(aG st).names.lookup y.1=some .local\/((aG st).names.lookup y.1=some .cell/\((cellsFrom (s.heap.objs.size+1) (aG st).names []).lookup y.1).isSome=true):=λ y hy=>
  (S.par y.1 (List.of_mem_zip (a:=y.1) (b:=y.2) hy).1).imp id λ z=>⟨z,PySem.W.cellsFrom_some _ _ _ (.inl z)⟩
 refine codeAny_call_function hr.depth (KX _ _ lk) rfl S.co S.gen rfl (PySem.W.codeRec_of KX hcd) (hb _ _ _ _ (wpAny_newFunctionEnv_cells S.kind par λ env he s1 x=>?_));cases he;refine⟨(e0.mod.nolimit.keeps λ b o e=>(e0.bs b o e).1).keeps x.toInCall.keep,codeAny_func ?_⟩;obtain⟨t,ht,hq⟩:=hbody cdv A outer s H vs Q E (hr.deeper _) hsp;have e1:zx P w K mg base (aEn A) outer s H:=⟨e0.frames,e0.mod,e0.bs,e0.bsz,e0.funs,e0.frf,e0.hok,e0.bare⟩;have I0:Inv (qw CX0 P w K mg base N q (aG st) f cdv (aEn A) outer s H λ _ _ _=>False) [] (start N vs) H s1:=pW S rfl e1 (len _ _ _ _ hsp) r x;have I1:Inv (cxH P w K mg base N q (aG st) f cdv A outer s H) [] (start N vs) H s1:=I0.re rfl (λ z=>nomatch z);refine wpAny_mono (ht [] s1 (start N vs) H _ I1 hq) (λ fl s' hs=>?_) λ e s' hs=>hs.elim
 cases fl with
 |ret u=>obtain⟨v,σ',H',J,rv,q⟩:=hs;exact⟨v,H',J.os,J.bare,J.base,J.hok,rv,q⟩
 |next=>obtain⟨σ',H',J,q⟩:=hs;exact⟨.non,H',J.os,J.bare,J.base,J.hok,rfl,q⟩
 |brk=>obtain⟨_,_,_,q⟩:=hs;exact q.elim
 |cont=>obtain⟨_,_,_,q⟩:=hs;exact q.elim
end
section
variable{X:Cx}{k:Nat}{f:Addr}{fd:FuncData}{ps:List Str}{sp:Sp}{dvs:List V}{ds:List Value}{E:XK}{x:Str}{p pos:Pos}{e:Expr}{es:List Expr}{t:TA}
theorem aDf(F:FnH X.prog X.w X.K X.mg X.base k f fd ps sp)(hr:il k X.A)(hg:Gl X x)(hm:X.mg x=some (.ref f))(hk:PySem.W.keepIn X.K (.ref f)=true)(hb:Binds X.K fd ps ds)(hd:Vals dvs ds)
  (ha:PA X (e::es) t)(hdb:(x==("__debug__":Str))=false:=by decide)(he:starEach (e::es) X.env=(false,eval e X.env)::starEach es X.env:=by rfl)(hpl:(backTo pos (starEach es X.env)).any (·.1)=false:=by rfl):
  PE X (.Call (.Name x p) (e::es) [] pos) (yN sp dvs E t):=by
 intro pins s σ H Q I h;refine wpAny_Call_Name_kw (lz I hg hm (PySem.W.callWith_K (h₀:=X.base) I.ok.mod.kin hk (thn (ha pos pins s σ H _ I h) λ us s1 hz=>?_) he hpl) hdb);obtain⟨vs,H1,I1,r,q⟩:=hz;refine⟨I1.kIn,wpAny_call (codeAny_mono (F.run X.A X.stack s1 H1 ⟨us,[]⟩ (us++ds) (vs++dvs) Q E hr I1.env0 (hb s1 us I1.kIn ?_) (r.append hd) q) λ r' s' hq=>?_)⟩
 ·rw[<-(r.append hd).length];exact F.len _ _ _ _ q
 ·cases r' with
  |error e=>exact False.elim hq
  |ok fl=>
   cases fl with
   |ret u=>exact I1.after hq
   |next=>exact False.elim hq
   |brk=>exact False.elim hq
   |cont=>exact False.elim hq
end
def spW(wd:Addr->Option Str):Sp:=λ vs H Q _=>∃ea C w,vs=[.ref ea]/\H ea=some (.ext (excφ ea C))/\wd C=some w/\∀H',aU H H'->Q (.str w) H'
def spR(P:Program)(w:World)(K:PySem.W.Frag)(mg:Str->Option Value)(base:Heap)(k0:Nat)(told:Str)(wd:Addr->Option Str):Sp:=λ vs H Q _=>∃f cls dd sl fd k sp,vs=[.ref f]/\H f=some (.frz ⟨cls,dd,.func fd,sl⟩ (.own f))/\cg P w K mg base (CX1 P w) k f fd [] sp/\k<=k0/\Binds K fd [] []/\
 sp [] H (λ _ H'=>Q (.str told) H') (λ c _ H1=>∃C wo,c= .ref C/\wd C=some wo/\∀H',aU H1 H'->Q (.str wo) H')
section
variable{X:Cx}{E:XK}{n0 n1 n2 few cn pe told:Str}{C' fc:Addr}{fdc:FuncData}{kc k0:Nat}{wd:Addr->Option Str}
theorem aDT(D:cQ X E)(hc:X.calm=true)(hN:X.N=[n0,n1,n2])(nd:X.N.Nodup)(l0:X.env.scope.names.lookup n0=some .local)(l1:X.env.scope.names.lookup n1=some .local)(l2:X.env.scope.names.lookup n2=some .local)(hf:∀x,X.fn x=true)
  (hm:X.mg few=some (.ref C'))(hg:Gl X few)(hC':gR X.K C')(FC:FnH X.prog X.w X.K X.mg X.base kc fc fdc [pe] (spW wd))(hgc:Gl X cn)(hmc:X.mg cn=some (.ref fc))(hkc:PySem.W.keepIn X.K (.ref fc)=true)(hbc:Binds X.K fdc [pe] [])
  (hr:dG k0 X.A)(hkk:kc<=k0)(hw:∀C w,wd C=some w->gR X.K C/\ph X.K C C'=true){p1 p2 p3 p4 p5 p6 p7 p8 p9 p10 p11 p12 p13 p14 p15 p16:Pos}{j1:Nat}{vs:List V}{H:Hp}{Q:VK}{E0:XK}(h:spR X.prog X.w X.K X.mg X.base k0 told wd vs H Q E0)
  (d1:(few==("__debug__":Str))=false:=by decide)(d2:(cn==("__debug__":Str))=false:=by decide)(d3:(n0==("__debug__":Str))=false:=by decide)(d4:(n1==("__debug__":Str))=false:=by decide)(d5:(n2==("__debug__":Str))=false:=by decide)
  (d6:(n0==("__classdict__":Str))=false:=by decide)(d7:(n1==("__classdict__":Str))=false:=by decide)(d8:(n2==("__classdict__":Str))=false:=by decide):
  ∃t,PSs X [.Assign [.Name n1 p1] (.Constant (.str told) j1 p2) p3,.Try [.Expr (.Call (.Name n0 p4) [] [] p5) p6] [.ExceptHandler (some (.Name few p7)) (some n2) [.Assign [.Name n1 p8] (.Call (.Name cn p9) [.Name n2 p10] [] p11) p12] p13] [] [] p14,.Return (some (.Name n1 p15)) p16] t/\
   t {nx:=λ _ H'=>Q .non H',rt:=Q} (start X.N vs) H:=by
 obtain⟨f,cls,dd,sl,fd,k,sp,rfl,hH,F,hk,hb,hsp⟩:=h;have i0:X.N[0]? =some n0:=by rw[hN];rfl
 have i1:X.N[1]? =some n1:=by rw[hN];rfl
 have i2:X.N[2]? =some n2:=by rw[hN];rfl
 refine⟨_,dN (jq nd i1 (.inl l1) dI (hf:=.inl (hf _))) (dN (aD4 (E':=λ c _ H1=>∃C wo,c= .ref C/\wd C=some wo/\∀H',aU H1 H'->Q (.str wo) H') D hc nd i2 l2 hm hg hC' (tb:=rT (aAC X k0 0 λ c _ H1=>∃C wo,c= .ref C/\wd C=some wo/\∀H',aU H1 H'->Q (.str wo) H')) (th:=yO (yN (spW wd) [] E (gZ (km 2) lA)) (mY 1))
  (λ pins=>jo (lq (aDa (X:=X.tr pins _) hr Cx.tr_pass i0 (.inl l0) d3 d6))) (λ pins ea=>jo (jq (X:=X.ha pins ea) nd i1 (.inl l1) (aDf (X:=X.ha pins ea) FC ((hr.h.mono hkk).mark) hgc hmc hkc hbc .nil (aZ (fD (X:=X.ha pins ea) i2 (.inl l2) d5 d8) cF) d2) (hf:=.inl (hf _)))) d1) (jo (sY (fD i1 (.inl l1) d4 d7)))),?_⟩
 have hs:start X.N [.ref f]=[some (.ref f),none,none]:=by rw[hN];rfl
 rw[hs];have e:(λ(_:V) H1=>Q (.str told) H1)=λ(_:V) H1=>aH6 (km 1) {nx:=λ _ H'=>Q .non H',rt:=Q} [some (.ref f),some (.str told),none] H1:=by
  funext v H1;exact propext ⟨λ q=>⟨_,rfl,q⟩,λ⟨v',e',q⟩=>by cases e';exact q⟩
 rw[e]at hsp;have key:aCs X 2 C' (λ c _ H1=>∃C wo,c= .ref C/\wd C=some wo/\∀H',aU H1 H'->Q (.str wo) H') (rT (aAC X k0 0 λ c _ H1=>∃C wo,c= .ref C/\wd C=some wo/\∀H',aU H1 H'->Q (.str wo) H')) (yO (yN (spW wd) [] E (gZ (km 2) lA)) (mY 1))
  {nx:=aH6 (km 1) {nx:=λ _ H'=>Q .non H',rt:=Q},rt:=Q} [some (.ref f),some (.str told),none] H:=?_
 ·exact key
 refine⟨⟨f,cls,dd,sl,fd,k,sp,rfl,hH,F,hk,hb,hsp⟩,λ c H1 ⟨C,wo,ec,hwd,hq⟩=>⟨C,ec,(hw C wo hwd).1,(hw C wo hwd).2,λ σ1 ea hl hn=>?_⟩⟩
 ·rw[hN]at hl
  obtain⟨a,b,c,rfl⟩:∃a b c,σ1=[a,b,c]:=by
   match σ1,hl with
   |[a,b,c],_=>exact⟨a,b,c,rfl⟩
  refine⟨.ref ea,rfl,ea,C,wo,rfl,ao,hwd,λ H' sm=>⟨.str wo,rfl,hq H' λ b o e=>sm b o ?_⟩⟩;rw[aa (bZ e hn)];exact e
end
mutual
def eqD:D->D->Bool
 | .non,.non=>true
 | .bl a,.bl b=>a==b
 | .bl a,.int b=>(if a then 1 else 0)==b
 | .int a,.bl b=>a==(if b then 1 else 0)
 | .int a,.int b=>a==b
 | .str a,.str b=>a==b
 | .tup l,.tup m=>fO l m
 | .lst l,.lst m=>fO l m
 |_,_=>false
def fO:List D->List D->Bool
 |[],[]=>true
 |x::xs,y::ys=>eqD x y&&fO xs ys
 |_,_=>false
end
mutual
def fP:D->Nat
 | .tup l=>bW l+1
 | .lst l=>bW l+1
 |_=>0
def bW:List D->Nat
 |[]=>0
 |d::r=>max (fP d) (bW r)
end
mutual
def aQ:D->Bool
 | .tup l=>aj l
 | .lst l=>aj l
 | .dct=>false
 |_=>true
def aj:List D->Bool
 |[]=>true
 |d::r=>aQ d&&aj r
end
mutual
theorem iW:∀d:D,aQ d=true->eqD d d=true
 | .non,_=>by simp[eqD]
 | .bl b,_=>by simp[eqD]
 | .int i,_=>by simp[eqD]
 | .str x,_=>by simp[eqD]
 | .tup l,h=>by simp only[eqD];exact fW l (by simpa[aQ]using h)
 | .lst l,h=>by simp only[eqD];exact fW l (by simpa[aQ]using h)
 | .dct,h=>by simp[aQ]at h
theorem fW:∀l:List D,aj l=true->fO l l=true
 |[],_=>by simp[fO]
 |d::r,h=>by
  simp only[aj,Bool.and_eq_true]at h;simp only[fO,Bool.and_eq_true];exact⟨iW d h.1,fW r h.2⟩
end
mutual
theorem Rep.inj{H:Hp}:∀{x:V} {d e:D},Rep H x d->Rep H x e->d=e
 |_,_,_,.non,h=>by cases h;rfl
 |_,_,_,.bl b,h=>by cases h;rfl
 |_,_,_,.int i,h=>by cases h;rfl
 |_,_,_,.str x,h=>by cases h;rfl
 |_,_,_,.tup ha r,h=>by
  cases h with
  |tup hb r'=>rw[ha]at hb;cases hb;rw[eX.inj r r']
  |lst hb _=>rw[ha]at hb;cases hb
  |dct hb=>rw[ha]at hb;cases hb
 |_,_,_,.lst ha r,h=>by
  cases h with
  |tup hb _=>rw[ha]at hb;cases hb
  |lst hb r'=>rw[ha]at hb;cases hb;rw[eX.inj r r']
  |dct hb=>rw[ha]at hb;cases hb
 |_,_,_,.dct ha,h=>by
  cases h with
  |tup hb _=>rw[ha]at hb;cases hb
  |lst hb _=>rw[ha]at hb;cases hb
  |dct hb=>rfl
theorem eX.inj{H:Hp}:∀{xs:List V} {ds es:List D},eX H xs ds->eX H xs es->ds=es
 |_,_,_,.nil,h=>by cases h;rfl
 |_,_,_,.cons h r,h'=>by
  cases h' with
  |cons k r'=>rw[Rep.inj h k,eX.inj r r']
end
theorem lR:∀(l m:List D),fO l m=((List.range (min l.length m.length)).all (λ j=>match l[j]?,m[j]? with|some a,some b=>eqD a b|_,_=>true)&&l.length==m.length)
 |[],[]=>by simp[fO]
 |[],y::ys=>by simp[fO]
 |x::xs,[]=>by simp[fO]
 |x::xs,y::ys=>by
  have ih:=lR xs ys;simp only[fO,ih,List.length_cons,Nat.succ_min_succ,List.range_succ_eq_map,List.all_cons,List.all_map,List.getElem?_cons_zero,Function.comp_def,List.getElem?_cons_succ,Nat.succ_eq_add_one,Nat.add_one_inj,Bool.and_assoc];congr 1;congr 1;simp
theorem j7:∀{l:List D} {d:D},d∈l->fP d<=bW l
 |x::r,d,h=>by
  simp only[bW];rcases List.mem_cons.mp h with rfl|h
  ·exact Nat.le_max_left _ _
  ·exact Nat.le_trans (j7 h) (Nat.le_max_right _ _)
theorem dg:∀{l:List D} {d:D},d∈l->aj l=true->aQ d=true
 |x::r,d,h,n=>by
  simp only[aj,Bool.and_eq_true]at n;rcases List.mem_cons.mp h with rfl|h
  ·exact n.1
  ·exact dg h n.2
theorem bu{ds es:List D}{n m:Nat}(hn:n=ds.length)(hm:m=es.length):((List.range (min n m)).all (λ j=>match ds[j]?,es[j]? with|some a,some b=>eqD a b|_,_=>true)&&n==m)=fO ds es:=by
 subst hn hm;exact(lR ds es).symm
theorem eZ{P:Program}{w:World}{H:Hp}{h:Heap}(hok:HOk P w H h){a:Addr}{xs:List V}(e:H a=some (.tup xs)):∃its:List Value,Vals xs its/\h.IsTuple a its.toArray:=by
 obtain⟨_,its,r,p⟩:=hok a _ e;exact⟨its,r,p⟩
theorem dJ{P:Program}{w:World}{H:Hp}{h:Heap}(hok:HOk P w H h){a:Addr}{xs:List V}(e:H a=some (.lst xs)):∃its:List Value,Vals xs its/\h.IsList a its.toArray:=by
 obtain⟨_,its,n,r,p⟩:=hok a _ e;exact⟨its,r,_,p,rfl,n,rfl⟩
section
variable{P:Program}{w:World}{H:Hp}{s:Shared}
mutual
theorem xg(hok:HOk P w H s.heap):∀{x y:V} {d e:D} (n:Nat) {A:Around} {u v:Value},Rep H x d->Rep H y e->RelV x u->RelV y v->fP d<=n->aQ d=true->aQ e=true->A.units+n<cLine->SeqAt.EqAt A s u v (eqD d e)
 |_,_,_,_,n,A,u,v,r1,r2,ru,rv,hd,nd,ne,hu=>by
  have hu0:A.units<cLine:=by omega
  cases r1 with
  |tup h1 q1=>
   rename_i a xs ds;cases ru;obtain⟨its,w1,t1⟩:=eZ hok h1;cases r2 with
   |tup h2 q2=>
    rename_i b ys es;cases rv;obtain⟨its2,w2,t2⟩:=eZ hok h2;by_cases hab:a=b
    ·subst hab
     have e:=Rep.inj (Rep.tup h1 q1) (Rep.tup h2 q2);rw[<-e,iW _ nd];exact SeqAt.EqAt.same _
    ·simp only[fP]at hd
     obtain⟨k,rfl⟩:∃k,n=k+1:=⟨n-1,by omega⟩
     have z:=SeqAt.RcAt.tuples t1 t2 hu0 (uL hok k q1 q2 w1 w2 (by omega) (by simpa[aQ]using nd) (by simpa[aQ]using ne) (by show A.units+1+k<cLine;omega));rw[bu (by rw[List.size_toArray,<-w1.length,q1.length]) (by rw[List.size_toArray,<-w2.length,q2.length])]at z;simp only[eqD];exact SeqAt.EqAt.of_refs hab z
   |lst h2 q2=>
    cases rv;obtain⟨its2,w2,t2⟩:=dJ hok h2;simp only[eqD];exact SeqAt.EqAt.tuple_list t1 t2 hu0
   |dct h2=>simp[aQ]at ne
   |non=>cases rv;simp only[eqD];exact SeqAt.EqAt.tuple_none t1 hu0
   |bl b=>cases rv;simp only[eqD];exact SeqAt.EqAt.tuple_bool b t1 hu0
   |int i=>obtain⟨tk,rfl⟩:=rv;simp only[eqD];exact SeqAt.EqAt.tuple_int i tk t1 hu0
   |str i=>obtain⟨tk,rfl⟩:=rv;simp only[eqD];exact SeqAt.EqAt.tuple_str i tk t1 hu0
  |lst h1 q1=>
   rename_i a xs ds;cases ru;obtain⟨its,w1,t1⟩:=dJ hok h1;cases r2 with
   |lst h2 q2=>
    rename_i b ys es;cases rv;obtain⟨its2,w2,t2⟩:=dJ hok h2;by_cases hab:a=b
    ·subst hab
     have e:=Rep.inj (Rep.lst h1 q1) (Rep.lst h2 q2);rw[<-e,iW _ nd];exact SeqAt.EqAt.same _
    ·simp only[fP]at hd
     obtain⟨k,rfl⟩:∃k,n=k+1:=⟨n-1,by omega⟩
     have l1:its.toArray.size=ds.length:=by rw[List.size_toArray,<-w1.length,q1.length]
     have l2:its2.toArray.size=es.length:=by rw[List.size_toArray,<-w2.length,q2.length]
     by_cases hl:its.toArray.size=its2.toArray.size
     ·have z:=SeqAt.RcAt.lists t1 t2 hl hu0 (uL hok k q1 q2 w1 w2 (by omega) (by simpa[aQ]using nd) (by simpa[aQ]using ne) (by show A.units+1+k<cLine;omega))
      have z':=bu (ds:=ds) (es:=es) l1 l2;rw[<-hl,Nat.min_self,beq_self_eq_true,Bool.and_true]at z';rw[z']at z;simp only[eqD];exact SeqAt.EqAt.of_refs hab z
     ·have z:=SeqAt.RcAt.lists_lengths t1 t2 (by simpa using hl) hu0
      have z':=bu (ds:=ds) (es:=es) l1 l2;rw[beq_eq_false_iff_ne.mpr hl,Bool.and_false]at z';simp only[eqD];rw[<-z'];exact SeqAt.EqAt.of_refs hab z
   |tup h2 q2=>
    cases rv;obtain⟨its2,w2,t2⟩:=eZ hok h2;simp only[eqD];exact SeqAt.EqAt.list_tuple t1 t2 hu0
   |dct h2=>simp[aQ]at ne
   |non=>cases rv;simp only[eqD];exact SeqAt.EqAt.list_none t1 hu0
   |bl b=>cases rv;simp only[eqD];exact SeqAt.EqAt.list_bool b t1 hu0
   |int i=>obtain⟨tk,rfl⟩:=rv;simp only[eqD];exact SeqAt.EqAt.list_int i tk t1 hu0
   |str i=>obtain⟨tk,rfl⟩:=rv;simp only[eqD];exact SeqAt.EqAt.list_str i tk t1 hu0
  |dct h1=>simp[aQ]at nd
  |non=>
   cases ru;cases r2 with
   |tup h2 q2=>cases rv;obtain⟨_,_,t2⟩:=eZ hok h2;simp only[eqD];exact SeqAt.EqAt.none_tuple t2 hu0
   |lst h2 q2=>cases rv;obtain⟨_,_,t2⟩:=dJ hok h2;simp only[eqD];exact SeqAt.EqAt.none_list t2 hu0
   |dct h2=>simp[aQ]at ne
   |non=>cases rv;simp only[eqD];exact SeqAt.EqAt.same _
   |bl b=>cases rv;simp only[eqD];exact SeqAt.EqAt.none_bool b
   |int i=>obtain⟨tk,rfl⟩:=rv;simp only[eqD];exact SeqAt.EqAt.none_int i tk
   |str i=>obtain⟨tk,rfl⟩:=rv;simp only[eqD];exact SeqAt.EqAt.none_str i tk
  |bl a=>
   cases ru;cases r2 with
   |tup h2 q2=>cases rv;obtain⟨_,_,t2⟩:=eZ hok h2;simp only[eqD];exact SeqAt.EqAt.bool_tuple a t2 hu0
   |lst h2 q2=>cases rv;obtain⟨_,_,t2⟩:=dJ hok h2;simp only[eqD];exact SeqAt.EqAt.bool_list a t2 hu0
   |dct h2=>simp[aQ]at ne
   |non=>cases rv;simp only[eqD];exact SeqAt.EqAt.bool_none a
   |bl b=>cases rv;simp only[eqD];exact SeqAt.EqAt.bool_bool a b
   |int i=>obtain⟨tk,rfl⟩:=rv;simp only[eqD];exact SeqAt.EqAt.bool_int a i tk
   |str i=>obtain⟨tk,rfl⟩:=rv;simp only[eqD];exact SeqAt.EqAt.bool_str a i tk
  |int a=>
   obtain⟨tu,rfl⟩:=ru;cases r2 with
   |tup h2 q2=>cases rv;obtain⟨_,_,t2⟩:=eZ hok h2;simp only[eqD];exact SeqAt.EqAt.int_tuple a tu t2 hu0
   |lst h2 q2=>cases rv;obtain⟨_,_,t2⟩:=dJ hok h2;simp only[eqD];exact SeqAt.EqAt.int_list a tu t2 hu0
   |dct h2=>simp[aQ]at ne
   |non=>cases rv;simp only[eqD];exact SeqAt.EqAt.int_none a tu
   |bl b=>cases rv;simp only[eqD];exact SeqAt.EqAt.int_bool a tu b
   |int i=>obtain⟨tk,rfl⟩:=rv;simp only[eqD];exact SeqAt.EqAt.int_int a tu i tk
   |str i=>obtain⟨tk,rfl⟩:=rv;simp only[eqD];exact SeqAt.EqAt.int_str a tu i tk
  |str a=>
   obtain⟨tu,rfl⟩:=ru;cases r2 with
   |tup h2 q2=>cases rv;obtain⟨_,_,t2⟩:=eZ hok h2;simp only[eqD];exact SeqAt.EqAt.str_tuple a tu t2 hu0
   |lst h2 q2=>cases rv;obtain⟨_,_,t2⟩:=dJ hok h2;simp only[eqD];exact SeqAt.EqAt.str_list a tu t2 hu0
   |dct h2=>simp[aQ]at ne
   |non=>cases rv;simp only[eqD];exact SeqAt.EqAt.str_none a tu
   |bl b=>cases rv;simp only[eqD];exact SeqAt.EqAt.str_bool a tu b
   |int i=>obtain⟨tk,rfl⟩:=rv;simp only[eqD];exact SeqAt.EqAt.str_int a tu i tk
   |str i=>obtain⟨tk,rfl⟩:=rv;simp only[eqD];exact SeqAt.EqAt.str_str a tu i tk
 termination_by _ _ _ _ n=>(n,0)
theorem uL(hok:HOk P w H s.heap):∀{xs ys:List V} {ds es:List D} (n:Nat) {A:Around} {us vs:List Value},eX H xs ds->eX H ys es->Vals xs us->Vals ys vs->bW ds<=n->aj ds=true->aj es=true->A.units+n<cLine->
  ∀(j:Nat) (h1:j<us.toArray.size) (h2:j<vs.toArray.size),SeqAt.EqAt A s us.toArray[j] vs.toArray[j] (match ds[j]?,es[j]? with|some a,some b=>eqD a b|_,_=>true)
 |xs,ys,ds,es,n,A,us,vs,q1,q2,w1,w2,hd,nd,ne,hu,j,h1,h2=>by
  have hj1:j<us.length:=by simpa using h1
  have hj2:j<vs.length:=by simpa using h2
  have hx:j<xs.length:=by rw[w1.length];exact hj1
  have hy:j<ys.length:=by rw[w2.length];exact hj2
  have ex:=List.getElem?_eq_getElem hx;have ey:=List.getElem?_eq_getElem hy;obtain⟨d,ed,rd⟩:=q1.get ex;obtain⟨e,ee,re⟩:=q2.get ey;obtain⟨u,eu,ru⟩:=w1.get ex;obtain⟨v,ev,rv⟩:=w2.get ey;have e1:us.toArray[j]=u:=by
   rw[List.getElem_toArray];exact Option.some.inj ((List.getElem?_eq_getElem hj1).symm.trans eu)
  have e2:vs.toArray[j]=v:=by
   rw[List.getElem_toArray];exact Option.some.inj ((List.getElem?_eq_getElem hj2).symm.trans ev)
  rw[e1,e2,ed,ee];exact xg hok n rd re ru rv (Nat.le_trans (j7 (List.mem_of_getElem? ed)) hd) (dg (List.mem_of_getElem? ed) nd) (dg (List.mem_of_getElem? ee) ne) hu
 termination_by _ _ _ _ n=>(n,1)
end
theorem aAS(hok:HOk P w H s.heap){x y:V}{d e:D}(n:Nat){A:Around}{u v:Value}(r1:Rep H x d)(r2:Rep H y e)(ru:RelV x u)(rv:RelV y v)(hd:fP d<=n)(nd:aQ d=true)(ne:aQ e=true)(hu:A.units+n<cLine):
  SeqAt.RcAt A s u v (eqD d e)/\SeqAt.RcNeAt A s u v (!eqD d e):=by
 have hu0:A.units<cLine:=by omega
 cases r1 with
 |tup h1 q1=>
  rename_i a xs ds;cases ru;obtain⟨its,w1,t1⟩:=eZ hok h1;cases r2 with
  |tup h2 q2=>
   rename_i b ys es;cases rv;obtain⟨its2,w2,t2⟩:=eZ hok h2;simp only[fP]at hd;obtain⟨k,rfl⟩:∃k,n=k+1:=⟨n-1,by omega⟩
   have he:=uL hok (A:=A.in1) k q1 q2 w1 w2 (by omega) (by simpa[aQ]using nd) (by simpa[aQ]using ne) (by show A.units+1+k<cLine;omega);have z:=SeqAt.RcAt.tuples t1 t2 hu0 he;have z2:=SeqAt.RcNeAt.tuples t1 t2 hu0 he;rw[bu (by rw[List.size_toArray,<-w1.length,q1.length]) (by rw[List.size_toArray,<-w2.length,q2.length])]at z z2;simp only[eqD];exact⟨z,z2⟩
  |lst h2 q2=>
   cases rv;obtain⟨its2,w2,t2⟩:=dJ hok h2;simp only[eqD];exact⟨SeqAt.RcAt.tuple_list t1 t2 hu0,SeqAt.RcNeAt.tuple_list t1 t2 hu0⟩
  |dct h2=>simp[aQ]at ne
  |non=>cases rv;simp only[eqD];exact⟨SeqAt.RcAt.tuple_none t1 hu0,SeqAt.RcNeAt.tuple_none t1 hu0⟩
  |bl b=>cases rv;simp only[eqD];exact⟨SeqAt.RcAt.tuple_bool b t1 hu0,SeqAt.RcNeAt.tuple_bool b t1 hu0⟩
  |int i=>obtain⟨tk,rfl⟩:=rv;simp only[eqD];exact⟨SeqAt.RcAt.tuple_int i tk t1 hu0,SeqAt.RcNeAt.tuple_int i tk t1 hu0⟩
  |str i=>obtain⟨tk,rfl⟩:=rv;simp only[eqD];exact⟨SeqAt.RcAt.tuple_str i tk t1 hu0,SeqAt.RcNeAt.tuple_str i tk t1 hu0⟩
 |lst h1 q1=>
  rename_i a xs ds;cases ru;obtain⟨its,w1,t1⟩:=dJ hok h1;cases r2 with
  |lst h2 q2=>
   rename_i b ys es;cases rv;obtain⟨its2,w2,t2⟩:=dJ hok h2;simp only[fP]at hd;obtain⟨k,rfl⟩:∃k,n=k+1:=⟨n-1,by omega⟩
   have l1:its.toArray.size=ds.length:=by rw[List.size_toArray,<-w1.length,q1.length]
   have l2:its2.toArray.size=es.length:=by rw[List.size_toArray,<-w2.length,q2.length]
   have z':=bu (ds:=ds) (es:=es) l1 l2;by_cases hl:its.toArray.size=its2.toArray.size
   ·have he:=uL hok (A:=A.in1) k q1 q2 w1 w2 (by omega) (by simpa[aQ]using nd) (by simpa[aQ]using ne) (by show A.units+1+k<cLine;omega)
    have z:=SeqAt.RcAt.lists t1 t2 hl hu0 he;have z2:=SeqAt.RcNeAt.lists t1 t2 hl hu0 he;rw[<-hl,Nat.min_self,beq_self_eq_true,Bool.and_true]at z';rw[z']at z z2;simp only[eqD];exact⟨z,z2⟩
   ·rw[beq_eq_false_iff_ne.mpr hl,Bool.and_false]at z'
    simp only[eqD];rw[<-z'];exact⟨SeqAt.RcAt.lists_lengths t1 t2 (by simpa using hl) hu0,SeqAt.RcNeAt.lists_lengths t1 t2 (by simpa using hl) hu0⟩
  |tup h2 q2=>
   cases rv;obtain⟨its2,w2,t2⟩:=eZ hok h2;simp only[eqD];exact⟨SeqAt.RcAt.list_tuple t1 t2 hu0,SeqAt.RcNeAt.list_tuple t1 t2 hu0⟩
  |dct h2=>simp[aQ]at ne
  |non=>cases rv;simp only[eqD];exact⟨SeqAt.RcAt.list_none t1 hu0,SeqAt.RcNeAt.list_none t1 hu0⟩
  |bl b=>cases rv;simp only[eqD];exact⟨SeqAt.RcAt.list_bool b t1 hu0,SeqAt.RcNeAt.list_bool b t1 hu0⟩
  |int i=>obtain⟨tk,rfl⟩:=rv;simp only[eqD];exact⟨SeqAt.RcAt.list_int i tk t1 hu0,SeqAt.RcNeAt.list_int i tk t1 hu0⟩
  |str i=>obtain⟨tk,rfl⟩:=rv;simp only[eqD];exact⟨SeqAt.RcAt.list_str i tk t1 hu0,SeqAt.RcNeAt.list_str i tk t1 hu0⟩
 |dct h1=>simp[aQ]at nd
 |non=>
  cases ru;cases r2 with
  |tup h2 q2=>cases rv;obtain⟨_,_,t2⟩:=eZ hok h2;simp only[eqD];exact⟨SeqAt.RcAt.none_tuple t2 hu0,SeqAt.RcNeAt.none_tuple t2 hu0⟩
  |lst h2 q2=>cases rv;obtain⟨_,_,t2⟩:=dJ hok h2;simp only[eqD];exact⟨SeqAt.RcAt.none_list t2 hu0,SeqAt.RcNeAt.none_list t2 hu0⟩
  |dct h2=>simp[aQ]at ne
  |non=>cases rv;simp only[eqD];exact⟨SeqAt.RcAt.none_none,SeqAt.RcNeAt.none_none⟩
  |bl b=>cases rv;simp only[eqD];exact⟨SeqAt.RcAt.none_bool b,SeqAt.RcNeAt.none_bool b⟩
  |int i=>obtain⟨tk,rfl⟩:=rv;simp only[eqD];exact⟨SeqAt.RcAt.none_int i tk,SeqAt.RcNeAt.none_int i tk⟩
  |str i=>obtain⟨tk,rfl⟩:=rv;simp only[eqD];exact⟨SeqAt.RcAt.none_str i tk,SeqAt.RcNeAt.none_str i tk⟩
 |bl a=>
  cases ru;cases r2 with
  |tup h2 q2=>cases rv;obtain⟨_,_,t2⟩:=eZ hok h2;simp only[eqD];exact⟨SeqAt.RcAt.bool_tuple a t2 hu0,SeqAt.RcNeAt.bool_tuple a t2 hu0⟩
  |lst h2 q2=>cases rv;obtain⟨_,_,t2⟩:=dJ hok h2;simp only[eqD];exact⟨SeqAt.RcAt.bool_list a t2 hu0,SeqAt.RcNeAt.bool_list a t2 hu0⟩
  |dct h2=>simp[aQ]at ne
  |non=>cases rv;simp only[eqD];exact⟨SeqAt.RcAt.bool_none a,SeqAt.RcNeAt.bool_none a⟩
  |bl b=>cases rv;simp only[eqD];exact⟨SeqAt.RcAt.bool_bool a b,SeqAt.RcNeAt.bool_bool a b⟩
  |int i=>obtain⟨tk,rfl⟩:=rv;simp only[eqD];exact⟨SeqAt.RcAt.bool_int a i tk,SeqAt.RcNeAt.bool_int a i tk⟩
  |str i=>obtain⟨tk,rfl⟩:=rv;simp only[eqD];exact⟨SeqAt.RcAt.bool_str a i tk,SeqAt.RcNeAt.bool_str a i tk⟩
 |int a=>
  obtain⟨tu,rfl⟩:=ru;cases r2 with
  |tup h2 q2=>cases rv;obtain⟨_,_,t2⟩:=eZ hok h2;simp only[eqD];exact⟨SeqAt.RcAt.int_tuple a tu t2 hu0,SeqAt.RcNeAt.int_tuple a tu t2 hu0⟩
  |lst h2 q2=>cases rv;obtain⟨_,_,t2⟩:=dJ hok h2;simp only[eqD];exact⟨SeqAt.RcAt.int_list a tu t2 hu0,SeqAt.RcNeAt.int_list a tu t2 hu0⟩
  |dct h2=>simp[aQ]at ne
  |non=>cases rv;simp only[eqD];exact⟨SeqAt.RcAt.int_none a tu,SeqAt.RcNeAt.int_none a tu⟩
  |bl b=>cases rv;simp only[eqD];exact⟨SeqAt.RcAt.int_bool a tu b,SeqAt.RcNeAt.int_bool a tu b⟩
  |int i=>obtain⟨tk,rfl⟩:=rv;simp only[eqD];exact⟨SeqAt.RcAt.int_int a tu i tk,SeqAt.RcNeAt.int_int a tu i tk⟩
  |str i=>obtain⟨tk,rfl⟩:=rv;simp only[eqD];exact⟨SeqAt.RcAt.int_str a tu i tk,SeqAt.RcNeAt.int_str a tu i tk⟩
 |str a=>
  obtain⟨tu,rfl⟩:=ru;cases r2 with
  |tup h2 q2=>cases rv;obtain⟨_,_,t2⟩:=eZ hok h2;simp only[eqD];exact⟨SeqAt.RcAt.str_tuple a tu t2 hu0,SeqAt.RcNeAt.str_tuple a tu t2 hu0⟩
  |lst h2 q2=>cases rv;obtain⟨_,_,t2⟩:=dJ hok h2;simp only[eqD];exact⟨SeqAt.RcAt.str_list a tu t2 hu0,SeqAt.RcNeAt.str_list a tu t2 hu0⟩
  |dct h2=>simp[aQ]at ne
  |non=>cases rv;simp only[eqD];exact⟨SeqAt.RcAt.str_none a tu,SeqAt.RcNeAt.str_none a tu⟩
  |bl b=>cases rv;simp only[eqD];exact⟨SeqAt.RcAt.str_bool a tu b,SeqAt.RcNeAt.str_bool a tu b⟩
  |int i=>obtain⟨tk,rfl⟩:=rv;simp only[eqD];exact⟨SeqAt.RcAt.str_int a tu i tk,SeqAt.RcNeAt.str_int a tu i tk⟩
  |str i=>obtain⟨tk,rfl⟩:=rv;simp only[eqD];exact⟨SeqAt.RcAt.str_str a tu i tk,SeqAt.RcNeAt.str_str a tu i tk⟩
end
section
variable{X:Cx}
def inD(d:D)(es:List D):Bool:=es.any λ e=>eqD e d
end
theorem dD:∀{us:List Value} {ns:List Int},IntsAre us ns->Vals (ns.map V.int) us
 |_,_,.nil=>.nil
 |_,_,.cons n t r=>.cons ⟨t,rfl⟩ (dD r)
section
variable{X:Cx}
theorem oV:bx X (.builtin "sorted") (λ xs H Q=>∃p ns,xs=[.ref p]/\SqL X.K H p (ns.map V.int)/\ns.length<64/\∀ns':List Int,ns'.Perm ns->ns'.Pairwise (·<=·)->New H (.lst (ns'.map V.int)) Q):=by
 intro pins s σ H xs us Q I r h;obtain⟨p,ns,rfl,hp,h64,q⟩:=h;obtain⟨u,rfl,ru⟩:=vals1 r;cases ru;obtain⟨its,rv,pl,hz⟩:=I.list hp;have hI:IntsAre its ns:=intsAre_of rv;have hlen:its.length<64:=by
  have:=rv.length
  rw[List.length_map]at this;omega
 refine sorted_ints pl.isList hI hlen λ out ns' h1 h2 h3=>?_
 obtain⟨e,he⟩:=sortedAll_at s.heap its out;have hfr:H (s.heap.objs.size+1)=none:=I.hok.fresh (Nat.le_succ _);refine⟨.ref (s.heap.objs.size+1),upd H (s.heap.objs.size+1) (.lst (ns'.map V.int)),I.laid (t':=s.toks) (λ b o q=>sortedAll_old q) (Nat.le_succ _) ?_,rfl,(q ns' h2 h3).at hfr⟩;refine⟨?_,out.toList,e,dD h1,?_⟩
 ·rw[List.length_map,h2.length_eq]
  exact Nat.le_trans (Nat.le_of_lt h64) (by decide)
 ·rw[Array.toArray_toList]
  exact he
end
section
variable{P:Program}{w:World}{H:Hp}{s:Shared}
open Classical in
def jw(H:Hp)(d:D)(u:Value):Bool:=if h:∃e,∃y,RelV y u/\Rep H y e then eqD (choose h) d else false
theorem ju{d e:D}{y:V}{u:Value}(r:RelV y u)(h:Rep H y e):jw H d u=eqD e d:=by
 have hx:∃e,∃y,RelV y u/\Rep H y e:=⟨e,y,r,h⟩
 unfold jw;rw[dif_pos hx];obtain⟨y',r',h'⟩:=Classical.choose_spec hx;have e1:=RelV.inj r r';subst e1;rw[Rep.inj h' h]
theorem oZ{d:D}:∀{xs:List V} {es:List D} {us:List Value},eX H xs es->Vals xs us->us.any (jw H d)=inD d es
 |_,_,_,.nil,.nil=>rfl
 |_,_,_,.cons h r,.cons k t=>by
  unfold inD;rw[List.any_cons,List.any_cons,ju k h,oZ r t];rfl
theorem mH(hok:HOk P w H s.heap){d:D}{x:V}{v:Value}(rx:Rep H x d)(rv:RelV x v){n:Nat}{A:Around}(hu:A.units+n<cLine)(nd:aQ d=true):∀{xs:List V} {es:List D} {us:List Value},eX H xs es->Vals xs us->bW es<=n->aj es=true->∀u∈us,SeqAt.EqAt A s u v (jw H d u)
 |_,_,_,.nil,.nil,_,_,u,hm=>by cases hm
 |_,_,_,.cons h r,.cons k t,hd,ne,u,hm=>by
  simp only[bW]at hd;simp only[aj,Bool.and_eq_true]at ne;rcases List.mem_cons.mp hm with z|z
  ·subst z
   rw[ju k h];exact xg hok n h rx k rv (Nat.le_trans (Nat.le_max_left _ _) hd) ne.1 nd hu
  ·exact mH hok rx rv hu nd r t (Nat.le_trans (Nat.le_max_right _ _) hd) ne.2 u z
end
section
variable{X:Cx}
end
section
variable{H:Hp}{d:D}
theorem qe:∀{xs:List V} {es:List D} {us:List Value},eX H xs es->Vals xs us->us.countP (jw H d)=es.countP (λ e=>eqD e d)
 |_,_,_,.nil,.nil=>rfl
 |_,_,_,.cons h r,.cons k t=>by rw[List.countP_cons,List.countP_cons,ju k h,qe r t]
theorem uQ:∀{xs:List V} {es:List D} {us:List Value},eX H xs es->Vals xs us->us.map (jw H d)=es.map (λ e=>eqD e d)
 |_,_,_,.nil,.nil=>rfl
 |_,_,_,.cons h r,.cons k t=>by rw[List.map_cons,List.map_cons,ju k h,uQ r t]
end
section
variable{X:Cx}
def aF5:V->List V->Hp->VK->Prop:=λ x xs H Q=>∃a y d es,x= .ref a/\xs=[y]/\Rep H (.ref a) (.lst es)/\Rep H y d/\bW es<=60/\aQ d=true/\aj es=true/\Q (.int (es.countP (λ e=>eqD e d):Nat)) H
theorem aCS(hu:X.A.units+64<cLine):MtR X "list.count" aF5:=by
 intro pins s σ H x xs v us Q I rx rxs h;obtain⟨a,y,d,es,rfl,rfl,ra,rd,hd,nd,ne,q⟩:=h;cases rx;obtain⟨u,rfl,ru⟩:=Vals.one rxs;have hu1:X.A.in1.units+60<cLine:=by show X.A.units+1+60<cLine;omega
 cases ra with
 |lst ha r=>
  obtain⟨its,rv,tl⟩:=dJ I.hok ha;obtain⟨⟨cls,dd,data,sl⟩,ho,hc,n,hdd⟩:=id tl;simp only at hc hdd;subst hc hdd;refine call_meets PySem.F.slot_list_count ⟨_,ho,rfl⟩ PySem.F.entry_list_count (PySem.F.args_list_count_2 _ _) (SeqAt.list_countAt a its.toArray n dd sl u (jw H d))
   ⟨ho,λ w hw=>mH I.hok rd ru hu1 nd r rv hd ne w (by simpa using hw),?_⟩
  rw[show its.toArray.toList=its from rfl,qe r rv];exact⟨.int _,H,I.tok _,⟨_,rfl⟩,q⟩
def aF2:V->List V->Hp->VK->Prop:=λ x xs H Q=>∃a y d es j,x= .ref a/\xs=[y]/\Rep H (.ref a) (.lst es)/\Rep H y d/\bW es<=60/\aQ d=true/\aj es=true/\
 (es.map λ e=>eqD e d)[j]? =some true/\(∀m,m<j->(es.map λ e=>eqD e d)[m]? =some false)/\Q (.int (j:Nat)) H
theorem aCQ(hu:X.A.units+64<cLine):MtR X "list.index" aF2:=by
 intro pins s σ H x xs v us Q I rx rxs h;obtain⟨a,y,d,es,j,rfl,rfl,ra,rd,hd,nd,ne,e1,e2,q⟩:=h;cases rx;obtain⟨u,rfl,ru⟩:=Vals.one rxs;have hu1:X.A.in1.units+60<cLine:=by show X.A.units+1+60<cLine;omega
 cases ra with
 |lst ha r=>
  obtain⟨its,rv,tl⟩:=dJ I.hok ha;obtain⟨⟨cls,dd,data,sl⟩,ho,hc,n,hdd⟩:=id tl;simp only at hc hdd;subst hc hdd;have em:=uQ (d:=d) r rv;rw[<-em]at e1 e2;have hj:j<its.length:=by
   have:=(List.getElem?_eq_some_iff.mp e1).1
   simpa using this
  have hlen:its.length<=sizeLine:=by
   have h1:=(I.hok a _ ha).1;rw[rv.length]at h1;exact h1
  have hz:sizeLine<2^62:=by decide
  refine call_meets PySem.F.slot_list_index ⟨_,ho,rfl⟩ PySem.F.entry_list_index (PySem.F.args_list_index_2 _ _) (SeqAt.list_indexAt a its.toArray n dd sl u (jw H d) j (by simpa using hj) (by omega) ?_ λ m hm hmj=>?_)
   ⟨ho,λ w hw=>mH I.hok rd ru hu1 nd r rv hd ne w (by simpa using hw),⟨.int _,H,I.tok _,⟨_,rfl⟩,q⟩⟩
  ·rw[List.getElem?_map,List.getElem?_eq_getElem hj]at e1
   simpa using e1
  ·have h2:=e2 m hmj
   have hm':m<its.length:=by simpa using hm
   rw[List.getElem?_map,List.getElem?_eq_getElem hm']at h2;simpa using h2
end
def aAD(K:PySem.W.Frag)(c:V):TE:=tCB (aHF K) (gZ (km 0) (gZ (tC c) lA))
def kO(K:PySem.W.Frag):List V->TA
 |[]=>lA
 |c::cs=>gZ (aAD K c) (kO K cs)
def vB:List Str->TA
 |[]=>lA
 |x::xs=>gZ (tC (.str x)) (vB xs)
def Kt(K:PySem.W.Frag)(C:Addr)(c:V)(b:Bool):Prop:=∃u,RelV c u/\PySem.W.kitOne K (.ref C) u=some b
section
variable{K:PySem.W.Frag}{σ:St}{H:Hp}{ea C:Addr}
theorem vy{c:V}{b:Bool}{Q:VK}(hs:σ[0]? =some (some (.ref ea)))(hH:H ea=some (.ext (excφ ea C)))(hk:aGt K C)(h:Kt K C c b)(q:Q (.bl b) H):aAD K c σ H Q:=by
 obtain⟨u,r,e⟩:=h;exact⟨.ref ea,hs,ea,C,c,u,b,rfl,r,hH,hk,e,q⟩
theorem lB(hs:σ[0]? =some (some (.ref ea)))(hH:H ea=some (.ext (excφ ea C)))(hk:aGt K C):∀{cs:List V} {bs:List Bool} {Q:List V->Hp->Prop},Paired (Kt K C) cs bs->Q (bs.map V.bl) H->kO K cs σ H Q
 |_,_,_,.nil,q=>q
 |_,_,_,.cons h r,q=>vy hs hH hk h (lB hs hH hk r q)
theorem rR:∀{l:List Str} {Q:List V->Hp->Prop},Q (l.map V.str) H->vB l σ H Q
 |[],_,q=>q
 |x::l,_,q=>rR (l:=l) (Q:=λ xs H2=>_) q
end
structure Wd(K:PySem.W.Frag)(c1 c2:V)(ks:List (List V))(ws:List Str)(C:Addr)(w:Str):Prop where
 k:aGt K C
 q1:Kt K C c1 true
 q2:Kt K C c2 true
 bs:∃(b1 b2 b3 b4:List Bool) (j:Nat) (k1 k2 k3 k4:List V),ks=[k1,k2,k3,k4]/\Paired (Kt K C) k1 b1/\Paired (Kt K C) k2 b2/\Paired (Kt K C) k3 b3/\Paired (Kt K C) k4 b4/\(b1++b2++b3++b4).length<=100/\(b1++b2++b3++b4).count true=1/\
  (b1++b2++b3++b4)[j]? =some true/\(∀m,m<j->(b1++b2++b3++b4)[m]? =some false)/\ws[j]? =some w
theorem wW{H:Hp}:∀bs:List Bool,eX H (bs.map V.bl) (bs.map D.bl)
 |[]=>.nil
 |b::bs=>.cons (.bl b) (wW bs)
theorem aAz:∀bs:List Bool,bW (bs.map D.bl)=0
 |[]=>rfl
 |b::bs=>by
  have h:=aAz bs;simp only[List.map_cons,bW,fP,h];rfl
theorem tK:∀bs:List Bool,aj (bs.map D.bl)=true
 |[]=>rfl
 |b::bs=>by simp only[List.map_cons,aj,aQ,tK bs];rfl
theorem aEc(b:Bool):eqD (.bl b) (.bl true)=b:=by cases b<;>simp[eqD]
theorem z8:∀bs:List Bool,(bs.map D.bl).countP (λ e=>eqD e (.bl true))=bs.count true
 |[]=>rfl
 |b::bs=>by
  rw[List.map_cons,List.countP_cons,aEc,z8 bs,List.count_cons];cases b<;>rfl
section
variable{X:Cx}{n0 n1 n2 odd:Str}{c1 c2:V}{k1 k2 k3 k4:List V}{l1 l2:List Str}{a1 a2:Expr}{as1 as2 e1 e2 e3 e4 w1 w2:List Expr}{kw1 kw2:List Keyword}{Q:VK}{H:Hp}{vs:List V}
 {p1 p2 p3 p4 p5 p6 p7 p8 p9 p10 p11 p12 p13 p14 p15 p16 p17 p18 p19 p20 p21 p22 p23 p24 p25 p26 p27 p28 p29 p30 p31 p32 p33 p34 p35 p36 p37 p38 p39 p40:Pos}{q1 q2 q3 q4 q5 q6 q7:Pos}{j1 j2 j3 j4 j5:Nat}{E0:XK}{wd:Addr->Option Str}
theorem aBC(hN:X.N=[n0,n1,n2])(nd:X.N.Nodup)(m0:X.env.scope.names.lookup n0=some .local)(m1:X.env.scope.names.lookup n1=some .local)(m2:X.env.scope.names.lookup n2=some .local)(hu:X.A.units+64<cLine)
  (h1:PE X (.Call a1 as1 kw1 p1) (aAD X.K c1))(h2:PE X (.Call a2 as2 kw2 p2) (aAD X.K c2))(g1:PA X e1 (kO X.K k1))(g2:PA X e2 (kO X.K k2))(g3:PA X e3 (kO X.K k3))(g4:PA X e4 (kO X.K k4))(g5:PA X w1 (vB l1))(g6:PA X w2 (vB l2))
  (hl1:(p20.endLine==p21.line)=true)(hl2:(p30.endLine==p31.line)=true)(hz:(l1++l2).length<=100)(h:spW wd vs H Q E0)(hw:∀C w,wd C=some w->Wd X.K c1 c2 [k1,k2,k3,k4] (l1++l2) C w)
  (d0:(n0==("__debug__":Str))=false:=by decide)(d1:(n1==("__debug__":Str))=false:=by decide)(d2:(n2==("__debug__":Str))=false:=by decide)
  (f0:(n0==("__classdict__":Str))=false:=by decide)(f1:(n1==("__classdict__":Str))=false:=by decide)(f2:(n2==("__classdict__":Str))=false:=by decide):
  ∃t,PSs X [.If (.BoolOp .Or [.UnaryOp .Not (.Call a1 as1 kw1 p1) p3,.UnaryOp .Not (.Call a2 as2 kw2 p2) p4] p5) [.Return (some (.Constant (.str odd) j1 p6)) p7] [] p8,
   .Assign [.Name n1 p9] (.List e1 p10) p11,.Assign [.Name n1 p12] (.BinOp (.Name n1 p13) .Add (.List e2 p14) p15) p16,.Assign [.Name n1 p17] (.BinOp (.Name n1 p18) .Add (.List e3 p19) p22) p23,.Assign [.Name n1 p24] (.BinOp (.Name n1 p25) .Add (.List e4 p26) p27) p28,
   .If (.Compare (.Call (.Attribute (.Name n1 p29) "count" p20) [.Constant (.bool true) j2 p32] [] p21) [.NotEq] [.Constant (.int 1) j3 p33] p34) [.Return (some (.Constant (.str odd) j4 p35)) p36] [] p37,
   .Assign [.Name n2 p38] (.List w1 p39) p40,.Return (some (.Subscript (.BinOp (.Name n2 q1) .Add (.List w2 q2) q3) (.Call (.Attribute (.Name n1 q4) "index" p30) [.Constant (.bool true) j5 q5] [] p31) q6)) q7] t/\
   t {nx:=λ _ H'=>Q .non H',rt:=Q} (start X.N vs) H:=by
 obtain⟨ea,C,w,rfl,hH,hwd,hq⟩:=h;obtain⟨hk,hq1,hq2,b1,b2,b3,b4,j,k1',k2',k3',k4',ek,r1,r2,r3,r4,hlen,hcnt,hj,hjm,hjw⟩:=hw C w hwd;cases ek;have i0:X.N[0]? =some n0:=by rw[hN];rfl
 have i1:X.N[1]? =some n1:=by rw[hN];rfl
 have i2:X.N[2]? =some n2:=by rw[hN];rfl
 have v1:∀{pos:Pos},PE X (.Name n1 pos) (km 1):=λ{pos}=>fD i1 (.inl m1) d1 f1
 have cat:∀{pp pq pr:Pos} {es:List Expr} {ks:List V},PA X es (kO X.K ks)->PE X (.BinOp (.Name n1 pp) .Add (.List es pq) pr) (tOp aDY (km 1) (aCt (kO X.K ks))):=λ g=>aDc ww v1 (jt g)
 refine⟨_,dN (aD6 (aHI (aAX (aD1 h1)) (aD0 (aAX (aD1 h2)))).pt (jo (sY dI)) w6)
  (dN (jq nd i1 (.inl m1) (jt g1) (hf:=.inr m1)) (dN (jq nd i1 (.inl m1) (cat g2) (hf:=.inr m1)) (dN (jq nd i1 (.inl m1) (cat g3) (hf:=.inr m1)) (dN (jq nd i1 (.inl m1) (cat g4) (hf:=.inr m1))
  (dN (aD6 (aHr (aIH (vK PySem.F.plainAttrs_list PySem.F.slot_list_count PySem.F.type_list_count (aCS hu) v1 (aZ aDg cF) (hline:=hl1)) aA0)) (jo (sY dI)) w6)
  (dN (jq nd i2 (.inl m2) (jt g5) (hf:=.inr m2)) (jo (sY (aDd xV (aDc ww (fD i2 (.inl m2) d2 f2) (jt g6)) (vK PySem.F.plainAttrs_list PySem.F.slot_list_index PySem.F.type_list_index (aCQ hu) v1 (aZ aDg cF) (hline:=hl2)) λ _ _=>rfl))))))))),?_⟩
 have hs:start X.N [.ref ea]=[some (.ref ea),none,none]:=by rw[hN];rfl
 rw[hs];have sz:∀{n:Nat},n<=100->n<=sizeLine:=λ h=>Nat.le_trans h (by decide)
 simp only[List.length_append]at hlen hz;refine vy (ea:=ea) rfl hH hk hq1 ⟨true,rfl,vy (ea:=ea) rfl hH hk hq2 ⟨true,rfl,?_⟩⟩;refine lB (ea:=ea) rfl hH hk r1 ⟨sz (by rw[List.length_map];omega),λ a1 H1 s1 ha1 _=>?_⟩;refine⟨.ref a1,rfl,lB (ea:=ea) rfl (s1 _ _ hH) hk r2 ⟨sz (by rw[List.length_map];omega),λ x2 G2 t2 hx2 _=>⟨a1,x2,_,_,rfl,rfl,t2 _ _ ha1,hx2,sz (by simp only[List.length_map];omega),λ a2 H2 s2 ha2 _=>?_⟩⟩⟩;have hH2:=s2 _ _ (t2 _ _ (s1 _ _ hH));refine⟨.ref a2,rfl,lB (ea:=ea) rfl hH2 hk r3 ⟨sz (by rw[List.length_map];omega),λ x3 G3 t3 hx3 _=>⟨a2,x3,_,_,rfl,rfl,t3 _ _ ha2,hx3,sz (by simp only[List.length_map,List.length_append];omega),λ a3 H3 s3 ha3 _=>?_⟩⟩⟩;have hH3:=s3 _ _ (t3 _ _ hH2);refine⟨.ref a3,rfl,lB (ea:=ea) rfl hH3 hk r4 ⟨sz (by rw[List.length_map];omega),λ x4 G4 t4 hx4 _=>⟨a3,x4,_,_,rfl,rfl,t4 _ _ ha3,hx4,sz (by simp only[List.length_map,List.length_append];omega),λ a4 H4 s4 ha4 _=>?_⟩⟩⟩;rw[<-List.map_append,<-List.map_append,<-List.map_append]at ha4;generalize hbs:b1++b2++b3++b4=bs at hcnt hj hjm ha4;have hc1:(bs.map D.bl).countP (λ e=>eqD e (.bl true))=1:=(z8 bs).trans hcnt;refine⟨.ref a4,rfl,.inl ⟨rfl,_,.inl (.inl ha4)⟩,a4,.bl true,.bl true,bs.map D.bl,rfl,rfl,.lst ha4 (wW bs),.bl true,by rw[aAz];exact Nat.zero_le _,rfl,tK bs,1,1,by rw[hc1];rfl,rfl,false,rfl,?_⟩;refine rR ⟨sz (by rw[List.length_map];omega),λ a5 H5 s5 ha5 _=>?_⟩;refine⟨.ref a5,rfl,rR ⟨sz (by rw[List.length_map];omega),λ x6 G6 t6 hx6 _=>⟨a5,x6,_,_,rfl,rfl,t6 _ _ ha5,hx6,sz (by simp only[List.length_map];omega),λ a7 H7 s7 ha7 _=>?_⟩⟩⟩;have ha4':=s7 _ _ (t6 _ _ (s5 _ _ ha4));refine⟨.ref a4,rfl,.inl ⟨rfl,_,.inl (.inl ha4')⟩,a4,.bl true,.bl true,bs.map D.bl,j,rfl,rfl,.lst ha4' (wW bs),.bl true,by rw[aAz];exact Nat.zero_le _,rfl,tK bs,?_,λ m hm=>?_,a7,_,_,.str w,rfl,rfl,.inl (.inl ha7),?_,?_⟩
 ·rw[List.map_map,List.getElem?_map,hj];exact congrArg some (aEc true)
 ·rw[List.map_map,List.getElem?_map,hjm m hm];exact congrArg some (aEc false)
 ·rw[<-List.map_append]
  have hjl:j<(l1++l2).length:=(List.getElem?_eq_some_iff.mp hjw).1;unfold atI ixN;rw[if_pos (Int.natCast_nonneg j),List.length_map,if_pos (by omega),Int.toNat_natCast]
  show((l1++l2).map V.str)[j]? =_
  rw[List.getElem?_map,hjw];rfl
 ·exact hq _ λ b o e=>s7 _ _ (t6 _ _ (s5 _ _ (s4 _ _ (t4 _ _ (s3 _ _ (t3 _ _ (s2 _ _ (t2 _ _ (s1 _ _ e)))))))))
end
section
variable{s:Shared}{A:Around}{prog:Program}{w:World}{R:Result->Shared->Prop}
end
section
variable{X:Cx}{e tg iter:Expr}{ifs:List Expr}{scope:Scope}{N:List Str}{st:St->St}{ks:List Nat}{wi:TI}{g:TG}{tt:TT}{body:Env->Addr->Sem Unit}{tb:Addr->St->Hp->(Hp->Prop)->Prop}{pos:Pos}{mk:Sem Value}{obs:Obj->Prop}{o:Addr->HO}
end
section
variable{X:Cx}{elt tg iter:Expr}{ifs:List Expr}{scope:Scope}{pos:Pos}{N:List Str}{st:St->St}{ks:List Nat}{wi:TI}{g:TG}{tt:TT}{te:TE}
end
end L2
namespace VL
open PySem PySem.Spec PyProof.Rows L2
inductive D where
 |non|bl (b:Bool)|int (i:Int)|str (x:Str)|tup (l:List D)|lst (l:List D)|dct (ks vs:List D)|set (l:List Int)|scr (l:List Int)|fn (x:Str)
instance:Inhabited D:=⟨.non⟩
def kD:Key->D
 | .inl i=>.int i
 | .inr x=>.str x
variable{K:PySem.W.Frag}
def my(K:PySem.W.Frag)(H:Hp)(a:Addr)(ns:List Int):Prop:=(∃o,H a=some (.frz o (.lst (ns.map V.int))))\/
 ∃(o:Obj) (its:Array Value) (n:Nat),K.lookup a=some o/\o.cls= .type "list"/\o.dict=none/\o.data= .seq its n/\its.size<=sizeLine/\Vals (ns.map V.int) its.toList
theorem my.sq(h:my K H a ns):SqL K H a (ns.map V.int):=by
 rcases h with h|h
 ·exact .inl (.inr h)
 ·exact .inr h
def hsh(ns:List Int):Int:=reduceHash (Builtin.Tuple.tupleHashOf (ns.map hashInt))
def dxO(a:Addr)(es:List (List Int×Addr×V)):HO:=.ext λ h=>es.length<=sizeLine/\(a==sysModules)=false/\∃(xs:List (List Int×Addr×Value)) (o:Obj) (ts:Array DictEntry) (ep:Nat),Paired (λ e x=>e.1=x.1/\e.2.1=x.2.1/\RelV e.2.2 x.2.2) es xs/\
 h.get? a=some o/\o.ExactDict/\o.data= .dict ts ep/\ts.toList=xs.map λ x=>⟨hsh x.1,.ref x.2.1,x.2.2⟩
structure DxK(K:PySem.W.Frag)(H:Hp)(a:Addr)(es:List (List Int×Addr×V)):Prop where
 at_:H a=some (dxO a es)
 ks:∀e∈es,SqT K H e.2.1 (e.1.map V.int)
 nd:(es.map (·.1)).Nodup
mutual
inductive Rp(K:PySem.W.Frag):(Addr->Prop)->Hp->V->D->Prop where
 |non {A:Addr->Prop} {H:Hp}:Rp K A H .non .non
 |bl {A:Addr->Prop} {H:Hp} (b:Bool):Rp K A H (.bl b) (.bl b)
 |int {A:Addr->Prop} {H:Hp} (i:Int):Rp K A H (.int i) (.int i)
 |str {A:Addr->Prop} {H:Hp} (x:Str):Rp K A H (.str x) (.str x)
 |tup {A:Addr->Prop} {H:Hp} {a:Addr} {xs:List V} {ds:List D} (h:SqT K H a xs) (r:Rps K A H xs ds):Rp K A H (.ref a) (.tup ds)
 |lst {A:Addr->Prop} {H:Hp} {a:Addr} {xs:List V} {ds:List D} (h:H a=some (.lst xs)) (m:A a) (r:Rps K (λ p=>A p/\p≠a) H xs ds):Rp K A H (.ref a) (.lst ds)
 |dK {A:Addr->Prop} {H:Hp} {a:Addr} {kvs:List (Key×V)} {ds:List D} (h:H a=some (.dK kvs)) (m:A a) (r:Rps K (λ p=>A p/\p≠a) H (kvs.map (·.2)) ds):Rp K A H (.ref a) (.dct (kvs.map λ p=>kD p.1) ds)
 |dT {A:Addr->Prop} {H:Hp} {a:Addr} {es:List (List Int×Addr×V)} {ds:List D} (h:DxK K H a es) (m:A a) (r:Rps K (λ p=>A p/\p≠a) H (es.map (·.2.2)) ds):Rp K A H (.ref a) (.dct (.non::es.map λ e=>.tup (e.1.map .int)) ds)
 |set {A:Addr->Prop} {H:Hp} {a:Addr} {S:Int->Bool} {l:List Int} (h:H a=some (.set S l.length)) (m:A a) (hS:∀i,S i=decide (i∈l)) (nd:l.Nodup):Rp K A H (.ref a) (.set l)
 |scr {A:Addr->Prop} {H:Hp} {a:Addr} {ns:List Int} (h:my K H a ns):Rp K A H (.ref a) (.scr ns)
 |fn {A:Addr->Prop} {H:Hp} {a:Addr} {x:Str} (h:PySem.W.nsIn K mainGlobals x=some (some (.ref a))):Rp K A H (.ref a) (.fn x)
inductive Rps(K:PySem.W.Frag):(Addr->Prop)->Hp->List V->List D->Prop where
 |nil {A:Addr->Prop} {H:Hp}:Rps K A H [] []
 |cons {A:Addr->Prop} {H:Hp} {x:V} {d:D} {xs:List V} {ds:List D} (h:Rp K A H x d) (r:Rps K A H xs ds):Rps K A H (x::xs) (d::ds)
end
theorem my.mono(s:aU H H')(h:my K H a ns):my K H' a ns:=by
 rcases h with ⟨o,h⟩|h
 ·exact .inl ⟨o,s _ _ h⟩
 ·exact .inr h
theorem DxK.mono(h:DxK K H a es)(s:aU H H'):DxK K H' a es:=⟨s _ _ h.at_,λ e he=>s.sqt (h.ks e he),h.nd⟩
theorem Rp.mono'(s:aU H H')(r:Rp K A H x d)(hA:∀p o,H p=some o->A p->A' p):Rp K A' H' x d:=
 Rp.rec (motive_1:=λ A H x d _=>∀H',aU H H'->∀A':Addr->Prop,(∀p o,H p=some o->A p->A' p)->Rp K A' H' x d) (motive_2:=λ A H xs ds _=>∀H',aU H H'->∀A':Addr->Prop,(∀p o,H p=some o->A p->A' p)->Rps K A' H' xs ds)
  (λ _ _ _ _=>.non) (λ b _ _ _ _=>.bl b) (λ i _ _ _ _=>.int i) (λ x _ _ _ _=>.str x) (λ h _ ih _ s _ hA=>.tup (s.sqt h) (ih _ s _ hA))
  (λ h m _ ih _ s _ hA=>.lst (s _ _ h) (hA _ _ h m) (ih _ s _ λ p o e z=>⟨hA p o e z.1,z.2⟩)) (λ h m _ ih _ s _ hA=>.dK (s _ _ h) (hA _ _ h m) (ih _ s _ λ p o e z=>⟨hA p o e z.1,z.2⟩))
  (λ h m _ ih _ s _ hA=>.dT (h.mono s) (hA _ _ h.at_ m) (ih _ s _ λ p o e z=>⟨hA p o e z.1,z.2⟩)) (λ h m hS nd _ s _ hA=>.set (s _ _ h) (hA _ _ h m) hS nd) (λ h _ s _ _=>.scr (h.mono s)) (λ h _ _ _ _=>.fn h) (λ _ _ _ _=>.nil) (λ _ _ ih ir _ s _ hA=>.cons (ih _ s _ hA) (ir _ s _ hA)) r H' s A' hA
theorem Rps.mono'(s:aU H H')(r:Rps K A H xs ds)(hA:∀p o,H p=some o->A p->A' p):Rps K A' H' xs ds:=
 Rps.rec (motive_1:=λ A H x d _=>∀H',aU H H'->∀A':Addr->Prop,(∀p o,H p=some o->A p->A' p)->Rp K A' H' x d) (motive_2:=λ A H xs ds _=>∀H',aU H H'->∀A':Addr->Prop,(∀p o,H p=some o->A p->A' p)->Rps K A' H' xs ds)
  (λ _ _ _ _=>.non) (λ b _ _ _ _=>.bl b) (λ i _ _ _ _=>.int i) (λ x _ _ _ _=>.str x) (λ h _ ih _ s _ hA=>.tup (s.sqt h) (ih _ s _ hA))
  (λ h m _ ih _ s _ hA=>.lst (s _ _ h) (hA _ _ h m) (ih _ s _ λ p o e z=>⟨hA p o e z.1,z.2⟩)) (λ h m _ ih _ s _ hA=>.dK (s _ _ h) (hA _ _ h m) (ih _ s _ λ p o e z=>⟨hA p o e z.1,z.2⟩))
  (λ h m _ ih _ s _ hA=>.dT (h.mono s) (hA _ _ h.at_ m) (ih _ s _ λ p o e z=>⟨hA p o e z.1,z.2⟩)) (λ h m hS nd _ s _ hA=>.set (s _ _ h) (hA _ _ h m) hS nd) (λ h _ s _ _=>.scr (h.mono s)) (λ h _ _ _ _=>.fn h) (λ _ _ _ _=>.nil) (λ _ _ ih ir _ s _ hA=>.cons (ih _ s _ hA) (ir _ s _ hA)) r H' s A' hA
theorem Rp.mono(s:aU H H')(hA:∀p o,H p=some o->A p->A' p)(r:Rp K A H x d):Rp K A' H' x d:=r.mono' s hA
theorem Rps.mono(s:aU H H')(hA:∀p o,H p=some o->A p->A' p)(r:Rps K A H x d):Rps K A' H' x d:=r.mono' s hA
theorem Rp.up(s:aU H H')(r:Rp K A H x d):Rp K A H' x d:=r.mono s λ _ _ _ h=>h
theorem Rp.wk(hA:∀p o,H p=some o->A p->A' p)(r:Rp K A H x d):Rp K A' H x d:=r.mono (aU.refl H) hA
theorem Rps.up(s:aU H H')(r:Rps K A H x d):Rps K A H' x d:=r.mono s λ _ _ _ h=>h
theorem Rps.wk(hA:∀p o,H p=some o->A p->A' p)(r:Rps K A H x d):Rps K A' H x d:=r.mono (aU.refl H) hA
def jF:HO->Bool
 | .lst _=>true| .dK _=>true| .dT _=>true| .set _ _=>true| .ext _=>true|_=>false
theorem wA(s:kJ l H H')(hl:H l=some o)(ho:jF o=true)(h:SqT K H a xs):SqT K H' a xs:=by
 rcases h with (h|⟨u,h⟩)|h
 ·refine .inl (.inl (s _ _ (λ e=>?_) h))
  subst e;rw[hl]at h;cases h;cases ho
 ·refine .inl (.inr ⟨u,s _ _ (λ e=>?_) h⟩)
  subst e;rw[hl]at h;cases h;cases ho
 ·exact .inr h
theorem aBY(s:kJ l H H')(hl:H l=some o)(ho:jF o=true)(h:my K H a ns):my K H' a ns:=by
 rcases h with ⟨u,h⟩|h
 ·exact .inl ⟨u,s _ _ (λ e=>by subst e;rw[hl]at h;cases h;cases ho) h⟩
 ·exact .inr h
theorem DxK.but(h:DxK K H a es)(s:kJ l H H')(hl:H l=some o)(ho:jF o=true)(ne:a≠l):DxK K H' a es:=
 ⟨s _ _ ne h.at_,λ e he=>wA s hl ho (h.ks e he),h.nd⟩
theorem Rp.but'(s:kJ l H H')(hl:H l=some o)(ho:jF o=true)(r:Rp K A H x d)(hA:¬A l):Rp K A H' x d:=
 Rp.rec (motive_1:=λ A H x d _=>∀H',kJ l H H'->∀o:HO,H l=some o->jF o=true->¬A l->Rp K A H' x d) (motive_2:=λ A H xs ds _=>∀H',kJ l H H'->∀o:HO,H l=some o->jF o=true->¬A l->Rps K A H' xs ds)
  (λ _ _ _ _ _ _=>.non) (λ b _ _ _ _ _ _=>.bl b) (λ i _ _ _ _ _ _=>.int i) (λ x _ _ _ _ _ _=>.str x) (λ h _ ih _ s o hl ho hA=>.tup (wA s hl ho h) (ih _ s o hl ho hA))
  (λ h m _ ih _ s o hl ho hA=>.lst (s _ _ (λ e=>hA (e▸m)) h) m (ih _ s o hl ho λ z=>hA z.1)) (λ h m _ ih _ s o hl ho hA=>.dK (s _ _ (λ e=>hA (e▸m)) h) m (ih _ s o hl ho λ z=>hA z.1))
  (λ h m _ ih _ s o hl ho hA=>.dT (h.but s hl ho λ e=>hA (e▸m)) m (ih _ s o hl ho λ z=>hA z.1)) (λ h m hS nd _ s o hl ho hA=>.set (s _ _ (λ e=>hA (e▸m)) h) m hS nd) (λ h _ s o hl ho _=>.scr (aBY s hl ho h)) (λ h _ _ _ _ _ _=>.fn h) (λ _ _ _ _ _ _=>.nil) (λ _ _ ih ir _ s o hl ho hA=>.cons (ih _ s o hl ho hA) (ir _ s o hl ho hA)) r H' s o hl ho hA
theorem Rps.but'(s:kJ l H H')(hl:H l=some o)(ho:jF o=true)(r:Rps K A H xs ds)(hA:¬A l):Rps K A H' xs ds:=
 Rps.rec (motive_1:=λ A H x d _=>∀H',kJ l H H'->∀o:HO,H l=some o->jF o=true->¬A l->Rp K A H' x d) (motive_2:=λ A H xs ds _=>∀H',kJ l H H'->∀o:HO,H l=some o->jF o=true->¬A l->Rps K A H' xs ds)
  (λ _ _ _ _ _ _=>.non) (λ b _ _ _ _ _ _=>.bl b) (λ i _ _ _ _ _ _=>.int i) (λ x _ _ _ _ _ _=>.str x) (λ h _ ih _ s o hl ho hA=>.tup (wA s hl ho h) (ih _ s o hl ho hA))
  (λ h m _ ih _ s o hl ho hA=>.lst (s _ _ (λ e=>hA (e▸m)) h) m (ih _ s o hl ho λ z=>hA z.1)) (λ h m _ ih _ s o hl ho hA=>.dK (s _ _ (λ e=>hA (e▸m)) h) m (ih _ s o hl ho λ z=>hA z.1))
  (λ h m _ ih _ s o hl ho hA=>.dT (h.but s hl ho λ e=>hA (e▸m)) m (ih _ s o hl ho λ z=>hA z.1)) (λ h m hS nd _ s o hl ho hA=>.set (s _ _ (λ e=>hA (e▸m)) h) m hS nd) (λ h _ s o hl ho _=>.scr (aBY s hl ho h)) (λ h _ _ _ _ _ _=>.fn h) (λ _ _ _ _ _ _=>.nil) (λ _ _ ih ir _ s o hl ho hA=>.cons (ih _ s o hl ho hA) (ir _ s o hl ho hA)) r H' s o hl ho hA
theorem Rp.but(s:kJ l H H')(hl:H l=some o)(ho:jF o=true)(hA:¬A l)(r:Rp K A H x d):Rp K A H' x d:=r.but' s hl ho hA
theorem Rps.but(s:kJ l H H')(hl:H l=some o)(ho:jF o=true)(hA:¬A l)(r:Rps K A H x d):Rps K A H' x d:=r.but' s hl ho hA
mutual
def imm:D->Bool
 | .tup l=>uo l
 | .lst _=>false
 | .dct _ _=>false
 | .set _=>false
 |_=>true
def uo:List D->Bool
 |[]=>true
 |d::r=>imm d&&uo r
end
theorem vQ(e:uo (d::r)=true):imm d=true/\uo r=true:=by
 simp only[uo,Bool.and_eq_true]at e;exact e
theorem aGV(e:imm (.tup l)=true):uo l=true:=by simpa[imm]using e
theorem aGX(e:imm (.lst l)=true):False:=by simp[imm]at e
theorem aBg(e:imm (.dct l k)=true):False:=by simp[imm]at e
theorem aGW(e:imm (.set l)=true):False:=by simp[imm]at e
theorem Rp.imm'(r:Rp K A H x d)(e:VL.imm d=true):Rp K A' H x d:=
 Rp.rec (motive_1:=λ _ H x d _=>VL.imm d=true->Rp K A' H x d) (motive_2:=λ _ H xs ds _=>uo ds=true->Rps K A' H xs ds)
  (λ _=>.non) (λ b _=>.bl b) (λ i _=>.int i) (λ x _=>.str x) (λ h _ ih e=>.tup h (ih (aGV e)))
  (λ _ _ _ _ e=>(aGX e).elim) (λ _ _ _ _ e=>(aBg e).elim) (λ _ _ _ _ e=>(aBg e).elim) (λ _ _ _ _ e=>(aGW e).elim) (λ h _=>.scr h) (λ h _=>.fn h) (λ _=>.nil) (λ _ _ ih ir e=>.cons (ih (vQ e).1) (ir (vQ e).2)) r e
theorem Rp.imm(r:Rp K A H x d)(h:VL.imm d=true):Rp K A' H x d:=r.imm' h
theorem Rp.int_inv(r:Rp K A H v (.int i)):v= .int i:=by cases r;rfl
theorem Rp.bl_inv(r:Rp K A H v (.bl b)):v= .bl b:=by cases r;rfl
theorem Rp.tup_inv(r:Rp K A H v (.tup ds)):∃a xs,v= .ref a/\SqT K H a xs/\Rps K A H xs ds:=by cases r with|tup h r=>exact⟨_,_,rfl,h,r⟩
theorem Rp.lst_inv(r:Rp K A H v (.lst ds)):∃a xs,v= .ref a/\H a=some (.lst xs)/\A a/\Rps K (λ p=>A p/\p≠a) H xs ds:=by cases r with|lst h m r=>exact⟨_,_,rfl,h,m,r⟩
theorem Rp.scr_inv(r:Rp K A H v (.scr ns)):∃a,v= .ref a/\my K H a ns:=by cases r with|scr h=>exact⟨_,rfl,h⟩
theorem Rps.one_inv(r:Rps K A H vs [d]):∃v,vs=[v]/\Rp K A H v d:=by cases r with|cons h r=>cases r;exact⟨_,rfl,h⟩
section
variable{A:Addr->Prop}{H:Hp}
theorem Rps.length:∀{xs:List V} {ds:List D},Rps K A H xs ds->xs.length=ds.length:=by
 intro xs ds h;induction xs generalizing ds with
 |nil=>cases h;rfl
 |cons x xs ih=>cases h with|cons _ r=>exact congrArg (·+1) (ih r)
theorem Rps.get:∀{xs:List V} {ds:List D} {i:Nat} {x:V},Rps K A H xs ds->xs[i]? =some x->∃d,ds[i]? =some d/\Rp K A H x d
 |_,_,_,_,.nil,e=>by simp at e
 |_,_,0,_,.cons h _,e=>by simp at e;subst e;exact⟨_,rfl,h⟩
 |_,_,i+1,x,.cons _ r,e=>by
  obtain⟨d,h1,h2⟩:=Rps.get (i:=i) (x:=x) r (by simpa using e);exact⟨d,by simpa using h1,h2⟩
theorem Rps.getD:∀{xs:List V} {ds:List D} {i:Nat} {d:D},Rps K A H xs ds->ds[i]? =some d->∃x,xs[i]? =some x/\Rp K A H x d
 |_,_,_,_,.nil,e=>by simp at e
 |_,_,0,_,.cons h _,e=>by simp at e;subst e;exact⟨_,rfl,h⟩
 |_,_,i+1,d,.cons _ r,e=>by
  obtain⟨x,h1,h2⟩:=Rps.getD (i:=i) (d:=d) r (by simpa using e);exact⟨x,by simpa using h1,h2⟩
theorem Rps.append:∀{xs ys:List V} {ds es:List D},Rps K A H xs ds->Rps K A H ys es->Rps K A H (xs++ys) (ds++es):=by
 intro xs ys ds es h s;induction xs generalizing ds with
 |nil=>cases h;exact s
 |cons x xs ih=>cases h with|cons h r=>exact .cons h (ih r)
theorem Rps.take:∀{xs:List V} {ds:List D} (n:Nat),Rps K A H xs ds->Rps K A H (xs.take n) (ds.take n)
 |_,_,0,_=>.nil
 |_,_,_+1,.nil=>.nil
 |_,_,n+1,.cons h r=>.cons h (Rps.take n r)
theorem Rps.drop:∀{xs:List V} {ds:List D} (n:Nat),Rps K A H xs ds->Rps K A H (xs.drop n) (ds.drop n)
 |_,_,0,r=>r
 |_,_,_+1,.nil=>.nil
 |_,_,n+1,.cons _ r=>Rps.drop n r
theorem Rps.reverse:∀{xs:List V} {ds:List D},Rps K A H xs ds->Rps K A H xs.reverse ds.reverse:=by
 intro xs ds h;induction xs generalizing ds with
 |nil=>cases h;exact .nil
 |cons x xs ih=>
  cases h with
  |cons h r=>
   rw[List.reverse_cons,List.reverse_cons];exact Rps.append (ih r) (.cons h .nil)
theorem Rps.set(h:Rp K A H x d):∀{xs:List V} {ds:List D} (n:Nat),Rps K A H xs ds->Rps K A H (xs.set n x) (ds.set n d)
 |_,_,_,.nil=>.nil
 |_,_,0,.cons _ r=>.cons h r
 |_,_,n+1,.cons k r=>.cons k (Rps.set h n r)
theorem Rps.ints:∀{ns:List Int},Rps K A H (ns.map V.int) (ns.map D.int)
 |[]=>.nil
 |n::ns=>.cons (.int n) Rps.ints
theorem Rps.ints_of:∀{xs:List V} {ns:List Int},Rps K A H xs (ns.map D.int)->xs=ns.map V.int
 |_,[],.nil=>rfl
 |_,n::ns,.cons h r=>by
  cases h;rw[List.map_cons,Rps.ints_of r]
end
theorem aM(h:a=b):a=b:=h
inductive Rs(α:Type) where
 |ok (a:α)|ex (c:Str)|st
def Rs.bd{α β:Type}:Rs α->(α->Rs β)->Rs β
 | .ok a,f=>f a
 | .ex c,_=>.ex c
 | .st,_=>.st
@[simp] theorem jJ(a:α)(f:α->Rs β):(Rs.ok a).bd f=f a:=aM rfl
theorem dU{r:Rs α}(h:r.bd f= .ok b):∃a,r= .ok a/\f a= .ok b:=by
 cases r with
 |ok a=>exact⟨a,rfl,h⟩
 |ex c=>cases h
 |st=>cases h
inductive Slot where
 |no|sh (d:D)|nw (d:D)|ow (d:D)|oz (d:D)|o2 (l:List (List D))
abbrev En:=List Slot
abbrev Lab:=Addr->Nat×Nat
abbrev Mode:=Option (List Nat)
def inM(m:Mode)(n:Nat):Prop:=match m with
 |none=>True
 |some L=>n∈L
def jn:Mode->Mode->Mode
 |some a,some b=>some (a++b)
 |_,_=>none
theorem aJt(h:inM a n):inM (jn a b) n:=by
 cases a with
 |none=>cases b<;>exact trivial
 |some L=>
  cases b with
  |none=>exact trivial
  |some M=>exact List.mem_append_left _ h
theorem aJs(h:inM b n):inM (jn a b) n:=by
 cases a with
 |none=>cases b<;>exact trivial
 |some L=>
  cases b with
  |none=>exact trivial
  |some M=>exact List.mem_append_right _ h
def fpM(m:Mode)(lab:Lab)(H:Hp):Addr->Prop:=λ p=>H p=none\/inM m (lab p).1
theorem aHS(h:fpM a lab H p):fpM (jn a b) lab H p:=h.imp id aJt
theorem aHR(h:fpM b lab H p):fpM (jn a b) lab H p:=h.imp id aJs
theorem uD(s:aU H H')(h:fpM m lab H' p):fpM m lab H p:=h.imp (λ z=>s.free z) id
structure Gx where
 H0:Hp
 E:XK
 cl:Str->Addr
def aCP:D->Bool
 | .lst _=>true
 | .dct _ _=>true
 | .set _=>true
 |_=>false
def cV(K:PySem.W.Frag)(H:Hp)(lab:Lab)(i:Nat)(v:V):Slot->Prop
 | .no=>True
 | .sh d=>Rp K (λ p=>(lab p).1<=1) H v d
 | .nw d=>Rp K (λ p=>(lab p).1=1) H v d
 | .ow d=>Rp K (λ p=>(lab p).1=1\/(lab p).1=i+2) H v d/\(aCP d=true->∃a,v= .ref a/\(lab a).1=i+2)
 | .oz d=>∃a xs ds,v= .ref a/\d= .lst ds/\H a=some (.lst xs)/\(lab a).1=i+2/\Rps K (λ p=>(lab p).1<=1) H xs ds
 | .o2 l=>∃a xs,v= .ref a/\H a=some (.lst xs)/\lab a=(i+2,0)/\xs.length=l.length/\∀(j:Nat) x ds,xs[j]? =some x->l[j]? =some ds->Rp K (λ p=>lab p=(i+2,j+1)) H x (.lst ds)
structure RR(K:PySem.W.Frag)(G:Gx)(τ:List (V×D))(ρ:En)(σ:L2.St)(H:Hp)(lab:Lab):Prop where
 len:σ.length=ρ.length
 sl:∀(i:Nat) (s:Slot),ρ[i]? =some s->s= .no\/∃v,σ[i]? =some (some v)/\cV K H lab i v s
 old:aU G.H0 H
 new:∀p,(lab p).1≠0->G.H0 p=none
 tm:∀q∈τ,Rp K (λ p=>(lab p).1<=1) H q.1 q.2
theorem cV.up(s:aU H H')(h:cV K H lab i v x):cV K H' lab i v x:=by
 cases x with
 |no=>exact trivial
 |sh d=>exact Rp.up s h
 |nw d=>exact Rp.up s h
 |ow d=>exact⟨Rp.up s h.1,h.2⟩
 |oz d=>
  obtain⟨a,xs,ds,e1,e2,e3,e4,e5⟩:=h;exact⟨a,xs,ds,e1,e2,s _ _ e3,e4,e5.up s⟩
 |o2 l=>
  obtain⟨a,xs,e1,e2,e3,e4,e5⟩:=h;exact⟨a,xs,e1,s _ _ e2,e3,e4,λ j x ds f1 f2=>(e5 j x ds f1 f2).up s⟩
theorem aDP(r:Rp K A H (.ref a) d)(hm:aCP d=true):∃o,H a=some o/\jF o=true/\A a:=by
 cases r with
 |lst h m _=>exact⟨_,h,rfl,m⟩
 |dK h m _=>exact⟨_,h,rfl,m⟩
 |dT h m _=>exact⟨_,h.at_,rfl,m⟩
 |set h m _ _=>exact⟨_,h,rfl,m⟩
 |tup _ _=>cases hm
 |scr _=>cases hm
 |fn _=>cases hm
theorem aHl(r:Rp K A H v d)(hm:aCP d=true):∃a,v= .ref a:=by
 cases r with
 |lst h m _=>exact⟨_,rfl⟩
 |dK h m _=>exact⟨_,rfl⟩
 |dT h m _=>exact⟨_,rfl⟩
 |set h m _ _=>exact⟨_,rfl⟩
 |_=>cases hm
theorem cV.lab{lab lab':Lab}(hl:∀p o,H p=some o->lab' p=lab p)(h:cV K H lab i v x):cV K H lab' i v x:=by
 cases x with
 |no=>exact trivial
 |sh d=>exact Rp.wk (λ p o e q=>(hl p o e).symm▸q) h
 |nw d=>exact Rp.wk (λ p o e q=>(hl p o e).symm▸q) h
 |ow d=>
  obtain⟨h,t⟩:=h;refine⟨Rp.wk (λ p o e q=>(hl p o e).symm▸q) h,λ m=>?_⟩;obtain⟨a,rfl,ea⟩:=t m;obtain⟨o,ho,_⟩:=aDP h m;exact⟨a,rfl,(congrArg (·.1) (hl a o ho)).trans ea⟩
 |oz d=>
  obtain⟨a,xs,ds,e1,e2,e3,e4,e5⟩:=h;exact⟨a,xs,ds,e1,e2,e3,(congrArg (·.1) (hl _ _ e3)).trans e4,Rps.wk (λ p o e q=>(hl p o e).symm▸q) e5⟩
 |o2 l=>
  obtain⟨a,xs,e1,e2,e3,e4,e5⟩:=h;exact⟨a,xs,e1,e2,(hl _ _ e2).trans e3,e4,λ j x ds f1 f2=>Rp.wk (λ p o e q=>(hl p o e).symm▸q) (e5 j x ds f1 f2)⟩
section
variable{G:Gx}{τ:List (V×D)}{ρ:En}{σ:L2.St}{H H':Hp}{lab lab':Lab}
theorem RR.up(R:RR K G τ ρ σ H lab)(s:aU H H'):RR K G τ ρ σ H' lab:=
 ⟨R.len,λ i x e=>(R.sl i x e).imp id λ⟨v,e1,e2⟩=>⟨v,e1,e2.up s⟩,R.old.trans s,R.new,λ q hq=>(R.tm q hq).up s⟩
theorem RR.relab(R:RR K G τ ρ σ H lab)(hl:∀p o,H p=some o->lab' p=lab p)(hn:∀p,(lab' p).1≠0->G.H0 p=none):RR K G τ ρ σ H lab':=
 ⟨R.len,λ i x e=>(R.sl i x e).imp id λ⟨v,e1,e2⟩=>⟨v,e1,e2.lab hl⟩,R.old,hn,λ q hq=>Rp.wk (λ p o e z=>by rw[hl p o e];exact z) (R.tm q hq)⟩
theorem RR.drop(R:RR K G (τ'++τ) ρ σ H lab):RR K G τ ρ σ H lab:=⟨R.len,R.sl,R.old,R.new,λ z hz=>R.tm z (List.mem_append_right _ hz)⟩
theorem RR.put(R:RR K G τ ρ σ H lab)(h:cV K H lab i v s):RR K G τ (ρ.set i s) (σ.set i (some v)) H lab:=by
 refine⟨by rw[List.length_set,List.length_set,R.len],λ j x e=>?_,R.old,R.new,R.tm⟩;by_cases hj:i=j
 ·subst hj
  have hi:i<ρ.length:=by
   have:=(List.getElem?_eq_some_iff.mp e).1
   rwa [List.length_set]at this
  rw[List.getElem?_set_self hi]at e;cases e;exact .inr ⟨v,by rw[List.getElem?_set_self (by rw[R.len];exact hi)],h⟩
 ·rw[List.getElem?_set_ne hj]at e
  rcases R.sl j x e with z|⟨u,e1,e2⟩
  ·exact .inl z
  ·exact .inr ⟨u,by rw[List.getElem?_set_ne hj];exact e1,e2⟩
def bc(H:Hp)(n:Nat)(lab:Lab):Lab:=λ p=>match H p with
 |none=>(n,0)
 |some _=>lab p
theorem bM(h:H p=some o):bc H n lab p=lab p:=by unfold bc;rw[h]
theorem tL(h:H p=none):bc H n lab p=(n,0):=by unfold bc;rw[h]
theorem RR.fresh{P:Nat->Prop}(h1:P 1)(hm:∀k,inM m k->P k)(R:RR K G τ ρ σ H lab)(s:aU H H')(r:Rp K (fpM m lab H) H' v d):
  RR K G τ ρ σ H' (bc H 1 lab)/\Rp K (λ p=>P (bc H 1 lab p).1) H' v d:=by
 refine⟨(R.relab (λ p o e=>bM e) λ p hp=>?_).up s,Rp.wk (λ p o e z=>?_) r⟩
 ·cases e:H p with
  |none=>exact R.old.free e
  |some o=>rw[bM e]at hp;exact R.new p hp
 ·rcases z with z|z
  ·rw[tL z];exact h1
  ·cases e:H p with
   |none=>rw[tL e];exact h1
   |some o=>rw[bM e];exact hm _ z
theorem RR.freshO(i:Nat)(hm:∀k,inM m k->k=1\/k=i+2)(R:RR K G τ ρ σ H lab)(s:aU H H')(r:Rp K (fpM m lab H) H' v d)(ht:aCP d=true->∃a,v= .ref a/\H a=none):
  ∃lab',RR K G τ ρ σ H' lab'/\cV K H' lab' i v (.ow d):=by
 obtain⟨R',r'⟩:=R.fresh (P:=λ k=>k=1\/k=i+2) (.inl rfl) hm s r;cases hd:aCP d with
 |false=>exact⟨_,R',r',λ z=>absurd z (by simp[hd])⟩
 |true=>
  obtain⟨a,rfl,ha⟩:=ht hd;refine⟨λ p=>if p=a then(i+2,0)else bc H 1 lab p,?_,Rp.wk (λ p o e z=>?_) r',λ _=>⟨a,rfl,by show(if a=a then((i+2,0):Nat×Nat)else bc H 1 lab a).1=i+2;rw[if_pos rfl]⟩⟩
  ·refine(R.relab (lab':=λ p=>if p=a then(i+2,0)else bc H 1 lab p) (λ p o e=>?_) λ p hp=>?_).up s
   ·rw[if_neg (λ z=>by subst z;rw[ha]at e;cases e),bM e]
   ·by_cases z:p=a
    ·subst z;exact R.old.free ha
    ·rw[if_neg z]at hp;exact R'.new p hp
  ·dsimp only
   by_cases q:p=a
   ·rw[if_pos q];exact .inr rfl
   ·rw[if_neg q];exact z
theorem aHK(h:cV K H lab i v (.oz d)):Rp K (λ p=>(lab p).1<=1\/(lab p).1=i+2) H v d:=by
 obtain⟨a,xs,ds,rfl,rfl,h1,h2,h3⟩:=h;exact .lst h1 (.inr h2) (h3.wk λ p o e z=>⟨.inl z,λ q=>by subst q;lia⟩)
end
structure Ct where
 ι:Type
 X:ι->Cx
 prog:Program
 w:World
 K:PySem.W.Frag
 mg:Str->Option Value
 base:Heap
 k:Nat
 G:Gx
 cx:∀i,(X i).prog=prog/\(X i).w=w/\(X i).K=K/\(X i).mg=mg/\(X i).base=base
 calm:∀i,(X i).calm=true
 room:∀i,dG k (X i).A
 own:∀i,PassesOwn (model (X i).prog (X i).w) (X i).A (X i).env (X i).xe
 pass:∀i,nU (CX1 (X i).prog (X i).w) (X i) G.E
 dOk:Bool
 dcx:dOk=true->∀i,cQ (X i) G.E
theorem Ct.hK(C:Ct)(i:C.ι):(C.X i).K=C.K:=(C.cx i).2.2.1
def WR{α:Type}(G:Gx)(r:Rs α)(P:α->Prop):Prop:=match r with
 | .ok a=>P a
 | .ex c=>∀H',aU G.H0 H'->G.E (.ref (G.cl c)) none H'
 | .st=>False
theorem WR.bd(h:WR G (r.bd k) P):WR G r (λ a=>WR G (k a) P):=by
 cases r with
 |ok a=>exact h
 |ex c=>exact h
 |st=>exact h
theorem WR.imp(h:WR G r P)(f:∀a,r= .ok a->P a->P' a):WR G r P':=by
 cases r with
 |ok a=>exact f a rfl h
 |ex c=>exact h
 |st=>exact h
abbrev QE(K:PySem.W.Frag)(m:Mode)(lab:Lab)(H:Hp)(Q:VK):D->Prop:=λ d=>∀v H',aU H H'->Rp K (fpM m lab H) H' v d->Q v H'
abbrev QA(K:PySem.W.Frag)(m:Mode)(lab:Lab)(H:Hp)(Q:List V->Hp->Prop):List D->Prop:=λ ds=>∀vs H',aU H H'->Rps K (fpM m lab H) H' vs ds->Q vs H'
abbrev QT(H:Hp)(Q:Bool->Hp->Prop):Bool->Prop:=λ b=>∀H',aU H H'->Q b H'
def jR(K:PySem.W.Frag)(G:Gx)(m:Mode)(t:TE)(f:En->Rs D):Prop:=∀τ σ H ρ lab (Q:VK),RR K G τ ρ σ H lab->WR G (f ρ) (QE K m lab H Q)->t σ H Q
def aGn(K:PySem.W.Frag)(G:Gx)(m:Mode)(t:TA)(f:En->Rs (List D)):Prop:=∀τ σ H ρ lab (Q:List V->Hp->Prop),RR K G τ ρ σ H lab->WR G (f ρ) (QA K m lab H Q)->t σ H Q
def aCk(K:PySem.W.Frag)(G:Gx)(t:TT)(f:En->Rs Bool):Prop:=∀τ σ H ρ lab (Q:Bool->Hp->Prop),RR K G τ ρ σ H lab->WR G (f ρ) (QT H Q)->t σ H Q
def SE(C:Ct)(m:Mode)(e:Expr)(f:En->Rs D):Prop:=∃t,(∀i,PE (C.X i) e t)/\jR C.K C.G m t f
def SA(C:Ct)(m:Mode)(es:List Expr)(f:En->Rs (List D)):Prop:=∃t,(∀i,PA (C.X i) es t)/\aGn C.K C.G m t f
def ST(C:Ct)(e:Expr)(f:En->Rs Bool):Prop:=∃t,(∀i,PT (C.X i) e t)/\aCk C.K C.G t f
def SW(C:Ct)(e:Expr)(f:En->Rs Bool):Prop:=∃t,(∀i,PW (C.X i) e t)/\aCk C.K C.G t f
theorem SW.st(h:SW C e f):ST C e f:=let⟨t,h1,h2⟩:=h;⟨t,λ i=>(h1 i).pt,h2⟩
def cP(i:Nat):En->Rs D:=λ ρ=>match ρ[i]? with
 |some (.sh d)=>.ok d
 |some (.nw d)=>.ok d
 |some (.ow d)=>.ok d
 |some (.oz d)=>.ok d
 |some (.o2 l)=>.ok (.lst (l.map .lst))
 |_=>.st
def aD(i:Nat):En->Rs D:=λ ρ=>match ρ[i]? with
 |some (.sh d)=>.ok d
 |some (.nw d)=>.ok d
 |_=>.st
def iG(i:Nat):En->Rs D:=λ ρ=>match ρ[i]? with
 |some (.nw d)=>.ok d
 |_=>.st
def rN(i:Nat):En->Rs D:=λ ρ=>match ρ[i]? with
 |some (.ow d)=>.ok d
 |some (.o2 l)=>.ok (.lst (l.map .lst))
 |_=>.st
def cD(d:D):En->Rs D:=λ _=>.ok d
theorem yt{K:PySem.W.Frag}{H:Hp}{lab:Lab}{i:Nat}{v:V}{l:List (List D)}(h:cV K H lab i v (.o2 l)):Rp K (λ p=>(lab p).1=i+2) H v (.lst (l.map .lst)):=by
 obtain⟨a,xs,rfl,ha,hla,hlen,hin⟩:=h;refine .lst ha (by rw[hla]) ?_;have go:∀(xs:List V) (l:List (List D)) (n:Nat),xs.length=l.length->0<n->(∀(j:Nat) x ds,xs[j]? =some x->l[j]? =some ds->Rp K (λ p=>lab p=(i+2,n+j)) H x (.lst ds))->Rps K (λ p=>(lab p).1=i+2/\p≠a) H xs (l.map .lst):=by
  intro xs;induction xs with
  |nil=>intro l n hl _ _;cases l with|nil=>exact .nil|cons _ _=>simp at hl
  |cons x xs ih=>
   intro l n hl hn h;cases l with
   |nil=>simp at hl
   |cons ds l=>
    refine .cons (Rp.wk (λ p o e z=>⟨by rw[z],λ e=>by rw[e,hla]at z;have z2:(0:Nat)=n+0:=congrArg Prod.snd z;lia⟩) (h 0 x ds rfl rfl)) (ih l (n+1) (by simpa using hl) (by lia) λ j y es e1 e2=>?_);have z:=h (j+1) y es (by simpa using e1) (by simpa using e2);rw[show n+1+j=n+(j+1)by lia];exact z
 exact go xs l 1 hlen (by lia) λ j x ds e1 e2=>by have z:=hin j x ds e1 e2;rw[show 1+j=j+1 by lia];exact z
section
variable{C:Ct}{pos:Pos}
theorem aBT(K:PySem.W.Frag)(G:Gx)(i:Nat):jR K G (some [0,1,i+2]) (km i) (cP i):=by
 intro τ σ H ρ lab Q R W;unfold cP at W;cases e:ρ[i]? with
 |none=>rw[e]at W;exact W.elim
 |some s=>
  rw[e]at W;rcases R.sl i s e with rfl|⟨v,ev,hv⟩
  ·exact False.elim W
  ·cases s with
   |no=>exact False.elim W
   |sh d=>exact⟨v,ev,W v H (aU.refl H) (Rp.wk (λ p o e z=>.inr (by show(lab p).1∈[0,1,i+2];rcases(show(lab p).1=0\/(lab p).1=1 by lia)with q|q<;>rw[q]<;>simp)) hv)⟩
   |nw d=>exact⟨v,ev,W v H (aU.refl H) (Rp.wk (λ p o e z=>.inr (by show(lab p).1∈[0,1,i+2];rw[z];simp)) hv)⟩
   |ow d=>exact⟨v,ev,W v H (aU.refl H) (Rp.wk (λ p o e z=>.inr (by show(lab p).1∈[0,1,i+2];rcases z with q|q<;>rw[q]<;>simp)) hv.1)⟩
   |oz d=>exact⟨v,ev,W v H (aU.refl H) (Rp.wk (λ p o e z=>.inr (by show(lab p).1∈[0,1,i+2];rcases(show(lab p).1=0\/(lab p).1=1\/(lab p).1=i+2 by lia)with q|q|q<;>rw[q]<;>simp)) (aHK hv))⟩
   |o2 l=>exact⟨v,ev,W v H (aU.refl H) (Rp.wk (λ p o e z=>.inr (by show(lab p).1∈[0,1,i+2];rw[z];simp)) (yt hv))⟩
theorem aDC(K:PySem.W.Frag)(G:Gx)(i:Nat):jR K G (some [0,1]) (km i) (aD i):=by
 intro τ σ H ρ lab Q R W;unfold aD at W;cases e:ρ[i]? with
 |none=>rw[e]at W;exact W.elim
 |some s=>
  rw[e]at W;rcases R.sl i s e with rfl|⟨v,ev,hv⟩
  ·exact False.elim W
  ·cases s with
   |sh d=>exact⟨v,ev,W v H (aU.refl H) (Rp.wk (λ p o e z=>.inr (by show(lab p).1∈[0,1];rcases(show(lab p).1=0\/(lab p).1=1 by lia)with q|q<;>rw[q]<;>simp)) hv)⟩
   |nw d=>exact⟨v,ev,W v H (aU.refl H) (Rp.wk (λ p o e z=>.inr (by show(lab p).1∈[0,1];rw[z];simp)) hv)⟩
   |_=>exact False.elim W
theorem aDE(K:PySem.W.Frag)(G:Gx)(i:Nat):jR K G (some [1]) (km i) (iG i):=by
 intro τ σ H ρ lab Q R W;unfold iG at W;cases e:ρ[i]? with
 |none=>rw[e]at W;exact W.elim
 |some s=>
  rw[e]at W;rcases R.sl i s e with rfl|⟨v,ev,hv⟩
  ·exact False.elim W
  ·cases s with
   |nw d=>exact⟨v,ev,W v H (aU.refl H) (Rp.wk (λ p o e z=>.inr (by show(lab p).1∈[1];rw[z];simp)) hv)⟩
   |_=>exact False.elim W
theorem aDD(K:PySem.W.Frag)(G:Gx)(i:Nat):jR K G (some [1,i+2]) (km i) (rN i):=by
 intro τ σ H ρ lab Q R W;unfold rN at W;cases e:ρ[i]? with
 |none=>rw[e]at W;exact W.elim
 |some s=>
  rw[e]at W;rcases R.sl i s e with rfl|⟨v,ev,hv⟩
  ·exact False.elim W
  ·cases s with
   |ow d=>exact⟨v,ev,W v H (aU.refl H) (Rp.wk (λ p o e z=>.inr (by show(lab p).1∈[1,i+2];rcases z with q|q<;>rw[q]<;>simp)) hv.1)⟩
   |o2 l=>exact⟨v,ev,W v H (aU.refl H) (Rp.wk (λ p o e z=>.inr (by show(lab p).1∈[1,i+2];rw[z];simp)) (yt hv))⟩
   |_=>exact False.elim W
theorem gW(i:Nat)(hN:∀j,(C.X j).N[i]? =some x:=by intro _;rfl)(hv:∀j,Vis (C.X j).env.scope x:=by intro _;first|exact Or.inl rfl|exact Or.inr (Or.inl rfl)|exact Or.inr (Or.inr rfl))(hd:(x==("__debug__":Str))=false:=by decide)
  (hcd:(x==("__classdict__":Str))=false:=by decide):SE C (some [0,1,i+2]) (.Name x pos) (cP i):=⟨_,λ j=>fD (hN j) (hv j) hd hcd,aBT _ _ i⟩
theorem aB(i:Nat)(hN:∀j,(C.X j).N[i]? =some x:=by intro _;rfl)(hv:∀j,Vis (C.X j).env.scope x:=by intro _;first|exact Or.inl rfl|exact Or.inr (Or.inl rfl)|exact Or.inr (Or.inr rfl))(hd:(x==("__debug__":Str))=false:=by decide)
  (hcd:(x==("__classdict__":Str))=false:=by decide):SE C (some [0,1]) (.Name x pos) (aD i):=⟨_,λ j=>fD (hN j) (hv j) hd hcd,aDC _ _ i⟩
theorem jB(i:Nat)(hN:∀j,(C.X j).N[i]? =some x:=by intro _;rfl)(hv:∀j,Vis (C.X j).env.scope x:=by intro _;first|exact Or.inl rfl|exact Or.inr (Or.inl rfl)|exact Or.inr (Or.inr rfl))(hd:(x==("__debug__":Str))=false:=by decide)
  (hcd:(x==("__classdict__":Str))=false:=by decide):SE C (some [1]) (.Name x pos) (iG i):=⟨_,λ j=>fD (hN j) (hv j) hd hcd,aDE _ _ i⟩
theorem wH(i:Nat)(hN:∀j,(C.X j).N[i]? =some x:=by intro _;rfl)(hv:∀j,Vis (C.X j).env.scope x:=by intro _;first|exact Or.inl rfl|exact Or.inr (Or.inl rfl)|exact Or.inr (Or.inr rfl))(hd:(x==("__debug__":Str))=false:=by decide)
  (hcd:(x==("__classdict__":Str))=false:=by decide):SE C (some [1,i+2]) (.Name x pos) (rN i):=⟨_,λ j=>fD (hN j) (hv j) hd hcd,aDD _ _ i⟩
theorem aJ:SE C (some []) (.Constant (.int i) j pos) (cD (.int i)):=⟨_,λ _=>aA0,λ τ σ H ρ lab Q R W=>W _ H (aU.refl H) (.int i)⟩
theorem kY:SE C (some []) (.Constant (.bool b) j pos) (cD (.bl b)):=⟨_,λ _=>aDg,λ τ σ H ρ lab Q R W=>W _ H (aU.refl H) (.bl b)⟩
theorem aDK:SE C (some []) (.Constant (.str x) j pos) (cD (.str x)):=⟨_,λ _=>dI,λ τ σ H ρ lab Q R W=>W _ H (aU.refl H) (.str x)⟩
theorem aFU(hm:C.mg x=some u)(r:RelV v u)(hd:∀A H,Rp C.K A H v d)(hdb:(x==("__debug__":Str))=false:=by decide)(hg:∀i,Gl (C.X i) x:=by intro _;rfl):SE C (some []) (.Name x pos) (cD d):=
 ⟨_,λ i=>cW (hg i) (by rw[(C.cx i).2.2.2.1];exact hm) r hdb,λ τ σ H ρ lab Q R W=>W _ H (aU.refl H) (hd _ _)⟩
def uC(d:D):Rs D:=if imm d=true then .ok d else .st
def bA(f:En->Rs D):En->Rs D:=λ ρ=>(f ρ).bd uC
theorem bY(h:SE C m e f):SE C (some []) e (bA f):=by
 obtain⟨t,h1,h2⟩:=h;refine⟨t,h1,λ τ σ H ρ lab Q R W=>h2 τ σ H ρ lab Q R (W.bd.imp λ d _ w v H' s r=>?_)⟩;unfold uC at w;by_cases hd:imm d=true
 ·rw[if_pos hd]at w
  exact w v H' s (r.imm hd)
 ·rw[if_neg hd]at w
  exact False.elim w
def aF:En->Rs (List D):=λ _=>.ok []
def aA(f:En->Rs D)(g:En->Rs (List D)):En->Rs (List D):=λ ρ=>(f ρ).bd λ d=>(g ρ).bd λ ds=>.ok (d::ds)
variable{m m1 m2:Mode}{e a b:Expr}{es:List Expr}{f fa fb:En->Rs D}{g:En->Rs (List D)}
theorem aH:SA C (some []) [] aF:=⟨_,λ _=>cF,λ τ σ H ρ lab Q R W=>W _ H (aU.refl H) .nil⟩
theorem aC(h:SE C m1 e f)(hr:SA C m2 es g)(hs:∀i,starEach (e::es) (C.X i).env=(false,eval e (C.X i).env)::starEach es (C.X i).env:=by intro _;rfl):SA C (jn m1 m2) (e::es) (aA f g):=by
 obtain⟨t,h1,h2⟩:=h;obtain⟨u,k1,k2⟩:=hr;refine⟨_,λ i=>aZ (h1 i) (k1 i) (hs i),λ τ σ H ρ lab Q R W=>?_⟩;refine h2 τ σ H ρ lab _ R (W.bd.imp λ d _ w x H1 s1 r1=>?_);refine k2 τ σ H1 ρ lab _ (R.up s1) (w.bd.imp λ ds _ w xs H2 s2 r2=>?_);exact w (x::xs) H2 (s1.trans s2) (.cons (r1.mono s2 λ p o _ z=>aHS z) (r2.wk λ p o _ z=>aHR (uD s1 z)))
def cA(g:En->Rs (List D)):En->Rs D:=λ ρ=>(g ρ).bd λ ds=>if ds.length<=sizeLine then .ok (.tup ds)else .st
def fM(g:En->Rs (List D)):En->Rs D:=λ ρ=>(g ρ).bd λ ds=>if ds.length<=sizeLine then .ok (.lst ds)else .st
theorem cu{x1}(h:SA C m es g):SE C m (.Tuple es x1 pos) (cA g):=by
 obtain⟨t,h1,h2⟩:=h;refine⟨_,λ i=>aFd (h1 i),λ τ σ H ρ lab Q R W=>h2 τ σ H ρ lab _ R (W.bd.imp λ ds _ w xs H1 s1 r1=>?_)⟩;by_cases hz:ds.length<=sizeLine
 ·rw[if_pos hz]at w
  exact⟨by rw[r1.length];exact hz,λ p H' s hp _=>w _ H' (s1.trans s) (.tup (SqT.of hp) (r1.up s))⟩
 ·rw[if_neg hz]at w
  exact False.elim w
theorem aAH(h:SA C m es g):SE C m (.List es pos) (fM g):=by
 obtain⟨t,h1,h2⟩:=h;refine⟨_,λ i=>jt (h1 i),λ τ σ H ρ lab Q R W=>h2 τ σ H ρ lab _ R (W.bd.imp λ ds _ w xs H1 s1 r1=>?_)⟩;by_cases hz:ds.length<=sizeLine
 ·rw[if_pos hz]at w
  exact⟨by rw[r1.length];exact hz,λ p H' s hp hn=>w _ H' (s1.trans s) (.lst hp (.inl (s1.free hn)) ((r1.wk λ q o e z=>⟨z,λ e'=>by subst e';rw[hn]at e;cases e⟩).up s))⟩
 ·rw[if_neg hz]at w
  exact False.elim w
def aKH(H:Hp)(v:V)(d:D):Prop:=aCP d=true->∃a,v= .ref a/\H a=none
def aJD(K:PySem.W.Frag)(G:Gx)(m:Mode)(t:TE)(f:En->Rs D):Prop:=∀τ σ H ρ lab (Q:VK),RR K G τ ρ σ H lab->WR G (f ρ) (λ d=>∀v H',aU H H'->Rp K (fpM m lab H) H' v d->aKH H v d->Q v H')->t σ H Q
def SF(C:Ct)(m:Mode)(e:Expr)(f:En->Rs D):Prop:=∃t,(∀i,PE (C.X i) e t)/\aJD C.K C.G m t f
theorem jR.toF{K:PySem.W.Frag}{G:Gx}{t:TE}{f:En->Rs D}(h:jR K G (some []) t f):aJD K G (some []) t f:=λ τ σ H ρ lab Q R W=>
 h τ σ H ρ lab Q R (W.imp λ d _ w v H' s r=>w v H' s r λ hm=>by
  obtain⟨a,rfl⟩:=aHl r hm;obtain⟨o,_,_,z⟩:=aDP r hm;rcases z with z|z
  ·exact⟨a,rfl,z⟩
  ·cases z)
theorem aJW(h:SE C (some []) e f):SF C (some []) e f:=let⟨t,h1,h2⟩:=h;⟨t,h1,h2.toF⟩
theorem pA(h:SA C m es g):SF C m (.List es pos) (fM g):=by
 obtain⟨t,h1,h2⟩:=h;refine⟨_,λ i=>jt (h1 i),λ τ σ H ρ lab Q R W=>h2 τ σ H ρ lab _ R (W.bd.imp λ ds _ w xs H1 s1 r1=>?_)⟩;by_cases hz:ds.length<=sizeLine
 ·rw[if_pos hz]at w
  exact⟨by rw[r1.length];exact hz,λ p H' s hp hn=>w _ H' (s1.trans s) (.lst hp (.inl (s1.free hn)) ((r1.wk λ q o e z=>⟨z,λ e'=>by subst e';rw[hn]at e;cases e⟩).up s)) λ _=>⟨p,rfl,s1.free hn⟩⟩
 ·rw[if_neg hz]at w
  exact False.elim w
def OpS(K:PySem.W.Frag)(r:R2)(fd:D->D->Rs D):Prop:=∀(A:Addr->Prop) x y d e H (Q:VK) z,Rp K A H x d->Rp K A H y e->fd d e= .ok z->(∀v H',aU H H'->Rp K (λ p=>H p=none\/A p) H' v z->Q v H')->r x y H Q
def uY(K:PySem.W.Frag)(r:List V->Hp->VK->Prop)(fd:List D->Rs D):Prop:=∀(A:Addr->Prop) xs ds H (Q:VK) z,Rps K A H xs ds->fd ds= .ok z->(∀v H',aU H H'->Rp K (λ p=>H p=none\/A p) H' v z->Q v H')->r xs H Q
def okD(r:Rs D):Rs D:=match r with
 | .ok d=>.ok d
 |_=>.st
def op2(fd:D->D->Rs D)(fa fb:En->Rs D):En->Rs D:=λ ρ=>(fa ρ).bd λ x=>(fb ρ).bd λ y=>okD (fd x y)
def op1(fd:D->Rs D)(fa:En->Rs D):En->Rs D:=λ ρ=>(fa ρ).bd λ x=>okD (fd x)
def opA(fd:List D->Rs D)(fa:En->Rs (List D)):En->Rs D:=λ ρ=>(fa ρ).bd λ x=>okD (fd x)
theorem WR.okD(h:WR G (okD r) P):∃z,r= .ok z/\P z:=by
 cases r with
 |ok z=>exact⟨z,rfl,h⟩
 |ex c=>exact False.elim h
 |st=>exact False.elim h
theorem wD{K:PySem.W.Frag}{G:Gx}{r:R2}{ta tb:TE}{fd:D->D->Rs D}(hs:OpS K r fd)(h1:jR K G m1 ta fa)(h2:jR K G m2 tb fb):jR K G (jn m1 m2) (tOp r ta tb) (op2 fd fa fb):=by
 intro τ σ H ρ lab Q R W;refine h1 τ σ H ρ lab _ R (W.bd.imp λ d _ w x H1 s1 r1=>?_);refine h2 τ σ H1 ρ lab _ (R.up s1) (w.bd.imp λ e _ w y H2 s2 r2=>?_);obtain⟨z,ez,w⟩:=w.okD;refine hs (fpM (jn m1 m2) lab H) x y d e H2 Q z (r1.mono s2 λ p o _ q=>aHS q) (r2.wk λ p o _ q=>aHR (uD s1 q)) ez λ v H' s r=>w v H' ((s1.trans s2).trans s) (r.wk λ p o _ q=>?_)
 rcases q with q|q
 ·exact .inl ((s1.trans s2).free q)
 ·exact q
theorem aBV{K:PySem.W.Frag}{G:Gx}{r:List V->Hp->VK->Prop}{ta:TA}{fd:List D->Rs D}(hs:uY K r fd)(h1:aGn K G m ta g):jR K G m (tCB r ta) (opA fd g):=by
 intro τ σ H ρ lab Q R W;refine h1 τ σ H ρ lab _ R (W.bd.imp λ d _ w x H1 s1 r1=>?_);obtain⟨z,ez,w⟩:=w.okD;refine hs (fpM m lab H) x d H1 Q z r1 ez λ v H' s r=>w v H' (s1.trans s) (r.wk λ p o _ q=>?_)
 rcases q with q|q
 ·exact .inl (s1.free q)
 ·exact q
theorem gY(h:SE C m e f)(hi:∀ρ d,f ρ= .ok d->imm d=true):SE C (some []) e f:=by
 obtain⟨t,h1,h2⟩:=h;exact⟨t,h1,λ τ σ H ρ lab Q R W=>h2 τ σ H ρ lab Q R (W.imp λ d ed w v H' s r=>w v H' s (r.imm (hi ρ d ed)))⟩
theorem jG(h:∀x y z,fd x y= .ok z->imm z=true)(e:op2 fd fa fb ρ= .ok d):imm d=true:=by
 obtain⟨x,_,e⟩:=dU e;obtain⟨y,_,e⟩:=dU e;unfold okD at e;split at e
 ·rename_i z hz
  cases e;exact h x y _ hz
 ·cases e
theorem rJ(h:∀x z,fd x= .ok z->imm z=true)(e:opA fd g ρ= .ok d):imm d=true:=by
 obtain⟨x,_,e⟩:=dU e;unfold okD at e;split at e
 ·rename_i z hz
  cases e;exact h x _ hz
 ·cases e
theorem vD(ro:∀i,OpR (C.X i) (binaryOp op) r)(hs:OpS C.K r fd)(ha:SE C m1 a fa)(hb:SE C m2 b fb):SE C (jn m1 m2) (.BinOp a op b pos) (op2 fd fa fb):=by
 obtain⟨t,h1,h2⟩:=ha;obtain⟨u,k1,k2⟩:=hb;exact⟨_,λ i=>aDc (ro i) (h1 i) (k1 i),wD hs h2 k2⟩
theorem wJ(ro:∀i,OpR (C.X i) (compareOp op) r)(hs:OpS C.K r fd)(ha:SE C m1 a fa)(hb:SE C m2 b fb)(hm:behindInMarks op b=false:=by first|exact aDs _|(with_unfolding_all rfl)):
  SE C (jn m1 m2) (.Compare a [op] [b] pos) (op2 fd fa fb):=by
 obtain⟨t,h1,h2⟩:=ha;obtain⟨u,k1,k2⟩:=hb;exact⟨_,λ i=>aFf (ro i) (h1 i) (k1 i) hm,wD hs h2 k2⟩
variable{p:Pos}{x:Str}{id T:String}
theorem nq(ro:∀i,bx (C.X i) (.builtin id) r)(hs:uY C.K r fd)(hg:∀i,Gl (C.X i) x)(hm:C.mg x=none)(hv:bootBuiltins x=some (.builtin id))(ha:SA C m (e::es) g)
  (hn:x≠"__name__":=by decide)(hdb:(x==("__debug__":Str))=false:=by decide)(he:∀i,starEach (e::es) (C.X i).env=(false,eval e (C.X i).env)::starEach es (C.X i).env:=by intro _;rfl)
  (hpl:∀i,(backTo pos (starEach es (C.X i).env)).any (·.1)=false:=by intro _;rfl):SE C m (.Call (.Name x p) (e::es) [] pos) (opA fd g):=by
 obtain⟨t,h1,h2⟩:=ha;exact⟨_,λ i=>jX (ro i) (hg i) (by rw[(C.cx i).2.2.2.1];exact hm) hv (h1 i) hn hdb (he i) (hpl i),aBV hs h2⟩
theorem aDL(ro:∀i,bx (C.X i) (.type T) r)(hs:uY C.K r fd)(hg:∀i,Gl (C.X i) x)(hm:C.mg x=none)(hv:bootBuiltins x=some (.type T))(ha:SA C m (e::es) g)
  (hn:x≠"__name__":=by decide)(hdb:(x==("__debug__":Str))=false:=by decide)(he:∀i,starEach (e::es) (C.X i).env=(false,eval e (C.X i).env)::starEach es (C.X i).env:=by intro _;rfl)
  (hpl:∀i,(backTo pos (starEach es (C.X i).env)).any (·.1)=false:=by intro _;rfl):SE C m (.Call (.Name x p) (e::es) [] pos) (opA fd g):=by
 obtain⟨t,h1,h2⟩:=ha;exact⟨_,λ i=>lr (ro i) (hg i) (by rw[(C.cx i).2.2.2.1];exact hm) hv (h1 i) hn hdb (he i) (hpl i),aBV hs h2⟩
def uR(f g:En->Rs D):En->Rs D:=λ ρ=>(f ρ).bd λ d=>match d with
 | .bl true=>g ρ
 | .bl false=>.ok (.bl false)
 |_=>.st
def aI3:D->Rs D
 | .bl b=>.ok (.bl (!b))
 |_=>.st
variable{rest:List Expr}
theorem pB{op}(h:SE C m a fa):SE C m (.BoolOp op [a] pos) fa:=by
 obtain⟨t,h1,h2⟩:=h;exact⟨_,λ i=>aIC (h1 i),h2⟩
theorem nC(ha:SE C m1 a fa)(hb:SE C m2 (.BoolOp .And (b::rest) pos) fb):SE C m2 (.BoolOp .And (a::b::rest) pos) (uR fa fb):=by
 obtain⟨t,h1,h2⟩:=ha;obtain⟨u,k1,k2⟩:=hb;refine⟨_,λ i=>aIG (h1 i) (k1 i),λ τ σ H ρ lab Q R W=>h2 τ σ H ρ lab _ R (W.bd.imp λ d _ w x H1 s1 r1=>?_)⟩;cases r1 with
 |bl c=>
  refine⟨c,rfl,?_⟩;cases c with
  |true=>
   rw[if_pos rfl];exact k2 τ σ H1 ρ lab Q (R.up s1) (w.imp λ z _ w v H' s r=>w v H' (s1.trans s) (r.wk λ p o _ q=>uD s1 q))
  |false=>
   rw[if_neg Bool.false_ne_true];exact w _ H1 s1 (.bl false)
 |_=>exact False.elim w
theorem aHg(ha:SE C m a fa):SE C (some []) (.UnaryOp .Not a pos) (op1 aI3 fa):=by
 obtain⟨t,h1,h2⟩:=ha;refine⟨_,λ i=>aID (h1 i),λ τ σ H ρ lab Q R W=>h2 τ σ H ρ lab _ R (W.bd.imp λ d _ w x H1 s1 r1=>?_)⟩;obtain⟨z,ez,w⟩:=w.okD;cases r1 with
 |bl c=>cases ez;exact⟨c,rfl,w _ H1 s1 (.bl _)⟩
 |_=>cases ez
def chD(fd fd':D->D->Rs D)(fa fb fc:En->Rs D):En->Rs D:=λ ρ=>(fa ρ).bd λ x=>(fb ρ).bd λ y=>(okD (fd x y)).bd λ z=>match z with
 | .bl true=>(fc ρ).bd λ w=>okD (fd' y w)
 | .bl false=>.ok (.bl false)
 |_=>.st
theorem aCA{K:PySem.W.Frag}{G:Gx}{r r':R2}{ta tb tc:TE}{fd fd':D->D->Rs D}{fc:En->Rs D}{m3:Mode}(hs:OpS K r fd)(hs':OpS K r' fd')(hi:∀x y z,fd' x y= .ok z->imm z=true)(h1:jR K G m1 ta fa)(h2:jR K G m2 tb fb)(h3:jR K G m3 tc fc):
  jR K G (some []) (aCu r r' ta tb tc) (chD fd fd' fa fb fc):=by
 intro τ σ H ρ lab Q R W;refine h1 τ σ H ρ lab _ R (W.bd.imp λ d _ w x H1 s1 r1=>?_);refine h2 τ σ H1 ρ lab _ (R.up s1) (w.bd.imp λ e _ w y H2 s2 r2=>?_);obtain⟨z,ez,w⟩:=w.bd.okD;refine hs (λ _=>True) x y d e H2 _ z (r1.mono s2 λ p o _ q=>trivial) (r2.wk λ p o _ q=>trivial) ez λ v H3 s3 r3=>?_
 cases r3 with
 |bl c=>
  refine⟨c,rfl,?_⟩;cases c with
  |false=>
   rw[if_neg Bool.false_ne_true];exact w _ H3 ((s1.trans s2).trans s3) (.bl false)
  |true=>
   rw[if_pos rfl];refine h3 τ σ H3 ρ lab _ ((R.up s1).up (s2.trans s3)) (w.bd.imp λ e' _ w y' H4 s4 r4=>?_);obtain⟨z',ez',w⟩:=w.okD;exact hs' (λ _=>True) y y' e e' H4 Q z' (r2.mono (s3.trans s4) λ p o _ q=>trivial) (r4.wk λ p o _ q=>trivial) ez' λ v H5 s5 r5=>w v H5 ((((s1.trans s2).trans s3).trans s4).trans s5) (r5.imm (hi _ _ _ ez'))
 |_=>exact False.elim w
theorem yV(ro:∀i,OpR (C.X i) (compareOp op) r)(hs:OpS C.K r fd)(ro':∀i,OpR (C.X i) (compareOp op') r')(hs':OpS C.K r' fd')(hi:∀x y z,fd' x y= .ok z->imm z=true)
  (ha:SE C m1 a fa)(hb:SE C m2 b fb)(hc:SE C m3 c fc)(hm:lastMarks [op,op'] [b,c]=false:=by with_unfolding_all rfl):SE C (some []) (.Compare a [op,op'] [b,c] pos) (chD fd fd' fa fb fc):=by
 obtain⟨t,h1,h2⟩:=ha;obtain⟨u,k1,k2⟩:=hb;obtain⟨v,l1,l2⟩:=hc;exact⟨_,λ i=>aDe (ro i) (ro' i) (h1 i) (k1 i) (l1 i) hm,aCA hs hs' hi h2 k2 l2⟩
def aH4:D->Rs Bool
 | .non=>.ok false
 | .bl b=>.ok b
 | .int i=>.ok (i !=0)
 | .tup l=>.ok (!l.isEmpty)
 | .lst l=>.ok (!l.isEmpty)
 |_=>.st
def blD:D->Rs Bool
 | .bl b=>.ok b
 |_=>.st
def tst(f:En->Rs D):En->Rs Bool:=λ ρ=>(f ρ).bd aH4
def tsb(f:En->Rs D):En->Rs Bool:=λ ρ=>(f ρ).bd blD
theorem t7{K:PySem.W.Frag}{A:Addr->Prop}{H:Hp}{xs:List V}{ds:List D}(r:Rps K A H xs ds):(!ds.isEmpty)= !xs.isEmpty:=by cases r<;>rfl
theorem o7(ha:SE C m a fa)(he:∀i whole,isTrue a (C.X i).env whole=(do let v <-whole;standAt a.pos;holding [v] (truthy v)):=by intro _ _;rfl):ST C a (tst fa):=by
 obtain⟨t,h1,h2⟩:=ha;refine⟨λ σ H Q=>t σ H λ x H'=>∃k,aIz C.K x H' k/\Q k H',λ i=>by rw[<-C.hK i];exact aD2 (h1 i) (he i),λ τ σ H ρ lab Q R W=>h2 τ σ H ρ lab _ R (W.bd.imp λ d _ w x H1 s1 r1=>?_)⟩;cases r1 with
 |non=>exact⟨false,rfl,w H1 s1⟩
 |bl b=>exact⟨b,rfl,w H1 s1⟩
 |int i=>exact⟨i !=0,rfl,w H1 s1⟩
 |tup h r=>exact⟨_,.inr (.inl ⟨_,h,rfl⟩),by rw[<-t7 r];exact w H1 s1⟩
 |lst h m r=>exact⟨_,.inl ⟨_,SqL.of h,rfl⟩,by rw[<-t7 r];exact w H1 s1⟩
 |_=>exact False.elim w
theorem aFN{K:PySem.W.Frag}{G:Gx}{t:TE}{f:En->Rs D}(h:jR K G m t f):aCk K G (aGw t) (tsb f):=λ τ σ H ρ lab Q R W=>h τ σ H ρ lab _ R (W.bd.imp λ d _ w x H1 s1 r1=>by
 cases r1 with
 |bl b=>exact⟨b,rfl,w H1 s1⟩
 |_=>exact False.elim w)
theorem lC(ro:∀i,OpR (C.X i) (compareOp op) r)(hs:OpS C.K r fd)(ha:SE C m1 a fa)(hb:SE C m2 b fb)(hm:behindInMarks op b=false:=by first|exact aDs _|(with_unfolding_all rfl)):
  ST C (.Compare a [op] [b] pos) (tsb (op2 fd fa fb)):=by
 obtain⟨t,h1,h2⟩:=ha;obtain⟨u,k1,k2⟩:=hb;exact⟨_,λ i=>aF7 (ro i) (h1 i) (k1 i) hm,aFN (wD hs h2 k2)⟩
variable{ga gb:En->Rs Bool}
def orT(f g:En->Rs Bool):En->Rs Bool:=λ ρ=>(f ρ).bd λ k=>if k=true then .ok true else g ρ
def pM(f:En->Rs Bool):En->Rs Bool:=λ ρ=>(f ρ).bd λ k=>.ok (!k)
theorem vz(ha:ST C a ga):SW C (.BoolOp .Or [a] pos) ga:=let⟨t,h1,h2⟩:=ha;⟨t,λ i=>aD0 (h1 i),h2⟩
theorem aBM(ha:ST C a ga)(hb:SW C (.BoolOp .Or (b::rest) pos) gb):SW C (.BoolOp .Or (a::b::rest) pos) (orT ga gb):=by
 obtain⟨t,h1,h2⟩:=ha;obtain⟨u,k1,k2⟩:=hb;refine⟨_,λ i=>aHI (h1 i) (k1 i),λ τ σ H ρ lab Q R W=>h2 τ σ H ρ lab _ R (W.bd.imp λ k _ w H1 s1=>?_)⟩;cases k with
 |false=>
  rw[if_neg Bool.false_ne_true]at w ⊢;exact k2 τ σ H1 ρ lab Q (R.up s1) (w.imp λ z _ w H' s=>w H' (s1.trans s))
 |true=>
  rw[if_pos rfl]at w ⊢;exact w H1 s1
theorem mz(ha:ST C a ga):ST C (.UnaryOp .Not a pos) (pM ga):=by
 obtain⟨t,h1,h2⟩:=ha;exact⟨_,λ i=>aAX (h1 i),λ τ σ H ρ lab Q R W=>h2 τ σ H ρ lab _ R (W.bd.imp λ k _ w H1 s1=>w H1 s1)⟩
end
inductive Ou where
 |nx (ρ:En)|rt (d:D)|bk (ρ:En)|ct (ρ:En)|ex (c:Str)|st
def Rs.bo{α:Type}:Rs α->(α->Ou)->Ou
 | .ok a,f=>f a
 | .ex c,_=>.ex c
 | .st,_=>.st
@[simp] theorem dH(a:α)(f:α->Ou):(Rs.ok a).bo f=f a:=aM rfl
def Ou.sq:Ou->(En->Ou)->Ou
 | .nx ρ,f=>f ρ
 |o,_=>o
@[simp] theorem bL(ρ:En)(f:En->Ou):(Ou.nx ρ).sq f=f ρ:=aM rfl
@[simp] theorem sq_rt(d:D)(f:En->Ou):(Ou.rt d).sq f= .rt d:=aM rfl
def WS(K:PySem.W.Frag)(G:Gx)(τ:List (V×D))(o:Ou)(De:Ends):Prop:=match o with
 | .nx ρ=>∀σ H lab,RR K G τ ρ σ H lab->De.nx σ H
 | .bk ρ=>∀σ H lab,RR K G τ ρ σ H lab->De.bk σ H
 | .ct ρ=>∀σ H lab,RR K G τ ρ σ H lab->De.ct σ H
 | .rt d=>∀v H,aU G.H0 H->Rp K (λ p=>G.H0 p=none) H v d->De.rt v H
 | .ex c=>∀H',aU G.H0 H'->G.E (.ref (G.cl c)) none H'
 | .st=>False
theorem WS.bo{K:PySem.W.Frag}(h:WS K G τ (r.bo k) De):WR G r (λ a=>WS K G τ (k a) De):=by
 cases r with
 |ok a=>exact h
 |ex c=>exact h
 |st=>exact h
def aKB(K:PySem.W.Frag)(G:Gx)(t:TS)(f:En->Ou):Prop:=∀τ σ H ρ lab (De:Ends),RR K G τ ρ σ H lab->WS K G τ (f ρ) De->t De σ H
def SS(C:Ct)(s:Stmt)(f:En->Ou):Prop:=∃t,(∀i,PS (C.X i) s t)/\aKB C.K C.G t f
def SSs(C:Ct)(s:List Stmt)(f:En->Ou):Prop:=∃t,(∀i,PSs (C.X i) s t)/\aKB C.K C.G t f
section
variable{C:Ct}{pos:Pos}{s:Stmt}{ss:List Stmt}{f g:En->Ou}{e:Expr}{m:Mode}{fe:En->Rs D}
theorem bw:SSs C [] .nx:=⟨_,λ _=>w6,λ τ σ H ρ lab De R W=>W σ H lab R⟩
def aY(f g:En->Ou):En->Ou:=λ ρ=>(f ρ).sq g
theorem aN(h:SS C s f):SSs C [s] f:=let⟨t,h1,h2⟩:=h;⟨t,λ i=>jo (h1 i),h2⟩
theorem aK(h:SS C s f)(k:SSs C ss g):SSs C (s::ss) (aY f g):=by
 obtain⟨t,h1,h2⟩:=h;obtain⟨u,k1,k2⟩:=k;refine⟨_,λ i=>dN (h1 i) (k1 i),λ τ σ H ρ lab De R W=>h2 τ σ H ρ lab _ R ?_⟩;unfold aY at W;cases h:f ρ with
 |nx ρ'=>rw[h]at W;exact λ σ' H' lab' R'=>k2 τ σ' H' ρ' lab' De R' W
 |rt d=>rw[h]at W;exact W
 |bk ρ'=>rw[h]at W;exact W
 |ct ρ'=>rw[h]at W;exact W
 |ex c=>rw[h]at W;exact W
 |st=>rw[h]at W;exact W
def frz(i:Nat)(ρ:En):En:=match ρ[i]? with
 |some (.ow d)=>ρ.set i (.nw d)
 |some (.o2 l)=>ρ.set i (.nw (.lst (l.map .lst)))
 |_=>ρ
theorem RR.frz{K:PySem.W.Frag}(R:RR K G τ ρ σ H lab)(i:Nat):∃lab',RR K G τ (frz i ρ) σ H lab':=by
 have go:∀d,(∃s,ρ[i]? =some s/\∀v,cV K H lab i v s->Rp K (λ p=>(lab p).1=1\/(lab p).1=i+2) H v d)->(∃v s,ρ[i]? =some s/\σ[i]? =some (some v)/\cV K H lab i v s)->∃lab',RR K G τ (ρ.set i (.nw d)) σ H lab':=by
  rintro d ⟨s0,es0,hrp⟩ ⟨v,s,es,ev,hs⟩;rw[es]at es0;cases es0;have hv:=hrp v hs;let lab':Lab:=λ p=>if (lab p).1=i+2 then(1,0)else lab p
  have lo:∀{p},(lab p).1≠i+2->lab' p=lab p:=λ{p} h=>by show(if (lab p).1=i+2 then((1,0):Nat×Nat)else lab p)=_;rw[if_neg h]
  have ln:∀{p},(lab p).1=i+2->lab' p=(1,0):=λ{p} h=>by show(if (lab p).1=i+2 then((1,0):Nat×Nat)else lab p)=_;rw[if_pos h]
  refine⟨lab',by rw[List.length_set];exact R.len,λ j x e=>?_,R.old,λ p hp=>?_,λ q hq=>Rp.wk (λ p o e z=>by rw[lo (by lia)];exact z) (R.tm q hq)⟩
  ·by_cases hj:i=j
   ·subst hj
    have hi:i<ρ.length:=(List.getElem?_eq_some_iff.mp es).1;rw[List.getElem?_set_self hi]at e;cases e;refine .inr ⟨v,ev,Rp.wk (λ p o e z=>?_) hv⟩;rcases z with z|z
    ·rw[lo (by lia)];exact z
    ·rw[ln z]
   ·rw[List.getElem?_set_ne hj]at e
    rcases R.sl j x e with z|⟨u,e1,e2⟩
    ·exact .inl z
    ·refine .inr ⟨u,e1,?_⟩
     cases x with
     |no=>trivial
     |sh d'=>exact Rp.wk (λ p o e z=>by rw[lo (by lia)];exact z) e2
     |nw d'=>exact Rp.wk (λ p o e z=>by rw[lo (by lia)];exact z) e2
     |ow d'=>
      refine⟨Rp.wk (λ p o e z=>by rw[lo (by lia)];exact z) e2.1,λ hm=>?_⟩;obtain⟨a,rfl,ha⟩:=e2.2 hm;exact⟨a,rfl,by rw[lo (by lia)];exact ha⟩
     |oz d'=>
      obtain⟨a,xs,ds,q1,q2,q3,q4,q5⟩:=e2;exact⟨a,xs,ds,q1,q2,q3,by rw[lo (by lia)];exact q4,Rps.wk (λ p o e z=>by rw[lo (by lia)];exact z) q5⟩
     |o2 l=>
      obtain⟨a,xs,q1,q2,q3,q4,q5⟩:=e2;refine⟨a,xs,q1,q2,?_,q4,λ jj y ds f1 f2=>Rp.wk (λ p o e z=>?_) (q5 jj y ds f1 f2)⟩
      ·rw[lo (by rw[q3];show j+2≠i+2;lia)];exact q3
      ·rw[lo (by rw[z];show j+2≠i+2;lia)];exact z
  ·by_cases h:(lab p).1=i+2
   ·exact R.new p (by lia)
   ·rw[lo h]at hp;exact R.new p hp
 unfold VL.frz;cases e:ρ[i]? with
 |none=>exact⟨lab,R⟩
 |some s=>
  rcases R.sl i s e with rfl|⟨v,ev,hv⟩
  ·exact⟨lab,R⟩
  ·cases s with
   |no=>exact⟨lab,R⟩
   |sh d=>exact⟨lab,R⟩
   |nw d=>exact⟨lab,R⟩
   |oz d=>exact⟨lab,R⟩
   |ow d=>exact go d ⟨_,e,λ _ h=>h.1⟩ ⟨v,_,e,ev,hv⟩
   |o2 l=>exact go _ ⟨_,e,λ _ h=>(yt h).wk λ _ _ _ z=>.inr z⟩ ⟨v,_,e,ev,hv⟩
def aG9(i:Nat)(f:En->Ou):En->Ou:=λ ρ=>f (frz i ρ)
theorem aFH(i:Nat)(h:SSs C ss f):SSs C ss (aG9 i f):=by
 obtain⟨t,h1,h2⟩:=h;refine⟨t,h1,λ τ σ H ρ lab De R W=>?_⟩;obtain⟨lab',R'⟩:=R.frz i;exact h2 τ σ H _ lab' De R' W
def aJh:Mode->Bool
 |some L=>L.all (·!=0)
 |none=>false
def retS(fe:En->Rs D):En->Ou:=λ ρ=>(fe ρ).bo .rt
theorem bK(he:SE C m e fe)(hm:aJh m=true:=by rfl):SS C (.Return (some e) pos) (retS fe):=by
 obtain⟨t,h1,h2⟩:=he;refine⟨_,λ i=>sY (h1 i),λ τ σ H ρ lab De R W=>h2 τ σ H ρ lab _ R (W.bo.imp λ d _ w v H' s r=>w v H' (R.old.trans s) (r.wk λ p o _ z=>?_))⟩;rcases z with z|z
 ·exact R.old.free z
 ·cases m with
  |none=>cases hm
  |some L=>
   refine R.new p λ e0=>?_
   have:=List.all_eq_true.mp hm _ z
   rw[e0]at this;simp at this
def zY(fe:En->Rs D):En->Ou:=λ ρ=>(fe ρ).bo λ _=>.nx ρ
theorem aFI(he:SE C m e fe)(hs:∀i,swapsWith e none pos.line (C.X i).env=pure false:=by intro _;rfl):SS C (.Expr e pos) (zY fe):=by
 obtain⟨t,h1,h2⟩:=he;exact⟨_,λ i=>lq (h1 i) (hs i),λ τ σ H ρ lab De R W=>h2 τ σ H ρ lab _ R (W.bo.imp λ d _ w v H' s r=>w σ H' lab (R.up s))⟩
def ifS(c:En->Rs Bool)(f g:En->Ou):En->Ou:=λ ρ=>(c ρ).bo λ k=>if k=true then f ρ else g ρ
theorem fQ{a b:List Stmt}(hc:ST C c fc)(ha:SSs C a f)(hb:SSs C b g):SS C (.If c a b pos) (ifS fc f g):=by
 obtain⟨tc,c1,c2⟩:=hc;obtain⟨t,h1,h2⟩:=ha;obtain⟨u,k1,k2⟩:=hb;refine⟨_,λ i=>aD6 (c1 i) (h1 i) (k1 i),λ τ σ H ρ lab De R W=>c2 τ σ H ρ lab _ R (W.bo.imp λ k _ w H1 s1=>?_)⟩;cases k with
 |true=>rw[if_pos rfl]at w ⊢;exact h2 τ σ H1 ρ lab De (R.up s1) w
 |false=>rw[if_neg Bool.false_ne_true]at w ⊢;exact k2 τ σ H1 ρ lab De (R.up s1) w
def SV(C:Ct)(i:Nat)(s:Stmt)(m:Mode)(f:En->Rs D):Prop:=∃t,(∀j,PS (C.X j) s (yO t (mY i)))/\jR C.K C.G m t f
theorem ji(he:SE C m e fe)(hN:∀j,(C.X j).N[i]? =some x:=by intro _;rfl)(hx:∀j,Loc (C.X j).env.scope x:=by intro _;first|exact Or.inl rfl|exact Or.inr rfl)(hs:∀j,swapsWith e (some (.Name x pos')) pos.line (C.X j).env=pure false:=by intro _;rfl)(hf:∀j,(C.X j).fn x=true\/(C.X j).env.scope.names.lookup x=some .local:=by intro _;first|exact .inl rfl|exact .inr rfl)(nd:∀j,(C.X j).N.Nodup:=by intro _;assumption):
  SV C i (.Assign [.Name x pos'] e pos) m fe:=by
 obtain⟨t,h1,h2⟩:=he;exact⟨t,λ j=>jq (nd j) (hN j) (hx j) (h1 j) (hs j) (hf j),h2⟩
def SVF(C:Ct)(i:Nat)(s:Stmt)(m:Mode)(f:En->Rs D):Prop:=∃t,(∀j,PS (C.X j) s (yO t (mY i)))/\aJD C.K C.G m t f
theorem qI(he:SF C m e fe)(hN:∀j,(C.X j).N[i]? =some x:=by intro _;rfl)(hx:∀j,Loc (C.X j).env.scope x:=by intro _;first|exact Or.inl rfl|exact Or.inr rfl)(hs:∀j,swapsWith e (some (.Name x pos')) pos.line (C.X j).env=pure false:=by intro _;rfl)(hf:∀j,(C.X j).fn x=true\/(C.X j).env.scope.names.lookup x=some .local:=by intro _;first|exact .inl rfl|exact .inr rfl)(nd:∀j,(C.X j).N.Nodup:=by intro _;assumption):
  SVF C i (.Assign [.Name x pos'] e pos) m fe:=by
 obtain⟨t,h1,h2⟩:=he;exact⟨t,λ j=>jq (nd j) (hN j) (hx j) (h1 j) (hs j) (hf j),h2⟩
def aB7(P:Nat->Bool):Mode->Bool
 |some L=>L.all P
 |none=>false
theorem lw(h:aB7 P m=true):∀k,inM m k->P k=true:=by
 intro k hk;cases m with
 |none=>cases h
 |some L=>exact List.all_eq_true.mp h k hk
abbrev okS:Mode->Bool:=aB7 λ k=>decide (k<=1)
abbrev okN:Mode->Bool:=aB7 λ k=>k==1
abbrev okO(i:Nat):Mode->Bool:=aB7 λ k=>k==1||k==i+2
def cY(i:Nat)(fe:En->Rs D):En->Ou:=λ ρ=>(fe ρ).bo λ d=>.nx (ρ.set i (.sh d))
def lF(i:Nat)(fe:En->Rs D):En->Ou:=λ ρ=>(fe ρ).bo λ d=>.nx (ρ.set i (.nw d))
def gh(i:Nat)(fe:En->Rs D):En->Ou:=λ ρ=>(fe ρ).bo λ d=>.nx (ρ.set i (.ow d))
theorem RR.shared{K:PySem.W.Frag}(hm:okS m=true)(R:RR K G τ ρ σ H lab)(s:aU H H')(r:Rp K (fpM m lab H) H' v d):
  RR K G τ ρ σ H' (bc H 1 lab)/\Rp K (λ p=>(bc H 1 lab p).1<=1) H' v d:=R.fresh (P:=λ k=>k<=1) (by decide) (λ k hk=>of_decide_eq_true (lw hm k hk)) s r
theorem cJ{i:Nat}(h:SV C i s m fe)(hm:okS m=true:=by rfl):SS C s (cY i fe):=by
 obtain⟨t,h1,h2⟩:=h;refine⟨_,h1,λ τ σ H ρ lab De R W=>h2 τ σ H ρ lab _ R (W.bo.imp λ d _ w v H' s r=>?_)⟩;obtain⟨R',r'⟩:=R.shared hm s r;exact w _ _ _ (R'.put (s:=.sh d) r')
theorem ni(h:SV C i s m fe)(hm:okN m=true:=by rfl):SS C s (lF i fe):=by
 obtain⟨t,h1,h2⟩:=h;refine⟨_,h1,λ τ σ H ρ lab De R W=>h2 τ σ H ρ lab _ R (W.bo.imp λ d _ w v H' s r=>?_)⟩;obtain⟨R',r'⟩:=R.fresh (P:=λ k=>k=1) rfl (λ k hk=>beq_iff_eq.mp (lw hm k hk)) s r;exact w _ _ _ (R'.put (s:=.nw d) r')
theorem iz(h:SVF C i s m fe)(hm:okO i m=true:=by rfl):SS C s (gh i fe):=by
 obtain⟨t,h1,h2⟩:=h;refine⟨_,h1,λ τ σ H ρ lab De R W=>h2 τ σ H ρ lab _ R (W.bo.imp λ d _ w v H' s r ht=>?_)⟩;obtain⟨lab',R',r'⟩:=R.freshO i (λ k hk=>by have:=lw hm k hk;simpa using this) s r ht;exact w _ _ _ (R'.put (s:=.ow d) r')
def aJC(K:PySem.W.Frag)(G:Gx)(g:TG)(fg:D->En->Rs En):Prop:=∀τ v d σ H ρ lab (Q:L2.St->Hp->Prop) ρ',RR K G τ ρ σ H lab->Rp K (λ p=>(lab p).1<=1) H v d->fg d ρ= .ok ρ'->(∀σ',RR K G τ ρ' σ' H lab->Q σ' H)->g v σ H Q
def aKC(K:PySem.W.Frag)(G:Gx)(g:TGs)(fg:List D->En->Rs En):Prop:=∀τ vs ds σ H ρ lab (Q:L2.St->Hp->Prop) ρ',RR K G τ ρ σ H lab->Rps K (λ p=>(lab p).1<=1) H vs ds->fg ds ρ= .ok ρ'->(∀σ',RR K G τ ρ' σ' H lab->Q σ' H)->g vs σ H Q
def SG(C:Ct)(tg:Expr)(ks:List Nat)(fg:D->En->Rs En):Prop:=∃g,(∀i,PG (C.X i) tg g)/\aJC C.K C.G g fg/\uW g ks/\zu g
def SGs(C:Ct)(tg:List Expr)(ks:List Nat)(fg:List D->En->Rs En):Prop:=∃g,(∀i,PGs (C.X i) tg g)/\aKC C.K C.G g fg/\uV g ks/\qF g
def gnm(i:Nat):D->En->Rs En:=λ d ρ=>.ok (ρ.set i (.sh d))
def iw:List D->En->Rs En:=λ ds ρ=>match ds with
 |[]=>.ok ρ
 |_=>.st
def bF(f:D->En->Rs En)(g:List D->En->Rs En):List D->En->Rs En:=λ ds ρ=>match ds with
 |d::r=>(f d ρ).bd (g r)
 |_=>.st
def iU(n:Nat)(g:List D->En->Rs En):D->En->Rs En:=λ d ρ=>match d with
 | .tup ds=>if ds.length=n then g ds ρ else .st
 |_=>.st
variable{ks:List Nat}{fg:D->En->Rs En}{fgs:List D->En->Rs En}{tg:Expr}{tgs:List Expr}
theorem bV(hN:∀j,(C.X j).N[i]? =some x:=by intro _;rfl)(hx:∀j,Loc (C.X j).env.scope x:=by intro _;first|exact Or.inl rfl|exact Or.inr rfl)(hf:∀j,(C.X j).fn x=true\/(C.X j).env.scope.names.lookup x=some .local:=by intro _;first|exact .inl rfl|exact .inr rfl)(nd:∀j,(C.X j).N.Nodup:=by intro _;assumption)(hk:i∈ks:=by decide):SG C (.Name x pos) ks (gnm i):=
 ⟨_,λ j=>aFc (nd j) (hN j) (hx j) (hf j),λ τ v d σ H ρ lab Q ρ' R r e q=>by cases e;exact q _ (R.put (s:=.sh d) r),aG2 hk,aG4⟩
theorem rA:SGs C [] ks iw:=by
 refine⟨_,λ _=>aFb,λ τ vs ds σ H ρ lab Q ρ' R r e q=>?_,aG1,aG3⟩;cases r with
 |nil=>cases e;exact⟨rfl,q _ R⟩
 |cons _ _=>cases e
theorem gK(h:SG C tg ks fg)(k:SGs C tgs ks fgs)(hs:∀i,(assignEach (tg::tgs) (C.X i).env).map (·.2)=assign tg (C.X i).env::(assignEach tgs (C.X i).env).map (·.2):=by intro _;rfl):SGs C (tg::tgs) ks (bF fg fgs):=by
 obtain⟨g,h1,h2,h3,h4⟩:=h;obtain⟨u,k1,k2,k3,k4⟩:=k;refine⟨_,λ i=>aD9 (h1 i) (k1 i) (hs i),λ τ vs ds σ H ρ lab Q ρ' R r e q=>?_,aE3 h3 h4 k3 k4,aE8 h4 k4⟩;cases r with
 |nil=>cases e
 |cons h r=>
  obtain⟨ρ1,e1,e2⟩:=dU e;exact⟨_,_,rfl,h2 τ _ _ σ H ρ lab _ ρ1 R h e1 λ σ1 R1=>k2 τ _ _ σ1 H ρ1 lab Q ρ' R1 r e2 q⟩
theorem wG(h:SGs C tgs ks fgs)(hn:∀i,(assignEach tgs (C.X i).env).length=n:=by intro _;rfl)(hst:∀i,(assignEach tgs (C.X i).env).findIdx? (·.1)=none:=by intro _;rfl):SG C (.Tuple tgs k pos) ks (iU n fgs):=by
 obtain⟨u,k1,k2,k3,k4⟩:=h;refine⟨aG5 C.K n u,λ i=>by rw[<-C.hK i];exact aHx (C.calm i) (k1 i) (hn i) (hst i),λ τ v d σ H ρ lab Q ρ' R r e q=>?_,aIn k3,aIo k4⟩;cases r with
 |tup h r=>
  unfold iU at e;dsimp only at e;split at e
  ·rename_i hl
   exact⟨_,_,rfl,h,by rw[r.length];exact hl,k2 τ _ _ σ H ρ lab Q ρ' R r e q⟩
  ·cases e
 |_=>cases e
def aEs(fe:En->Rs D)(fg:D->En->Rs En):En->Ou:=λ ρ=>(fe ρ).bo λ d=>match fg d ρ with
 | .ok ρ'=>.nx ρ'
 |_=>.st
theorem aH9(he:SE C m e fe)(hg:SG C tg ks fg)(hm:okS m=true:=by rfl)(hs:∀i,swapsWithSole [tg] e pos.line (C.X i).env=pure false:=by intro _;rfl)(hw:∀i,swappedStores [tg] e (C.X i).env=pure none:=by intro _;rfl)
  (h1:∀i,(assignEach [tg] (C.X i).env).map (·.2)=[assign tg (C.X i).env]:=by intro _;rfl):SS C (.Assign [tg] e pos) (aEs fe fg):=by
 obtain⟨t,p1,p2⟩:=he;obtain⟨g,q1,q2,_,_⟩:=hg;refine⟨_,λ i=>aD7 (p1 i) (q1 i) (hs i) (hw i) (h1 i),λ τ σ H ρ lab De R W=>p2 τ σ H ρ lab _ R (W.bo.imp λ d _ w v H' s r=>?_)⟩;obtain⟨R',r'⟩:=R.shared hm s r;cases hgd:fg d ρ with
 |ok ρ'=>rw[hgd]at w;exact q2 τ v d σ H' ρ _ _ ρ' R' r' hgd λ σ' R2=>w σ' H' _ R2
 |ex c=>rw[hgd]at w;exact False.elim w
 |st=>rw[hgd]at w;exact False.elim w
def JL(K:PySem.W.Frag)(lab:Lab)(J:It)(H:Hp)(ds:List D):Prop:=∀i,(ds.length<=i->J.stop i H)/\(i<ds.length->J.go i H/\∀x H',J.yld i H x H'->aU H H'/\∃d,ds[i]? =some d/\Rp K (λ p=>(lab p).1<=1) H' x d)
def aJB(K:PySem.W.Frag)(G:Gx)(wi:TI)(f:En->Rs (List D)):Prop:=∀τ σ H ρ lab (Rr:It->Hp->Prop),RR K G τ ρ σ H lab->
 WR G (f ρ) (λ ds=>∀J H1 lab1 τ1,aU H H1->(∀p o,H p=some o->lab1 p=lab p)->RR K G (τ1++τ) ρ σ H1 lab1->(∀lab' H',(∀q∈τ1,Rp K (λ p=>(lab' p).1<=1) H' q.1 q.2)->JL K lab' J H' ds)->Rr J H1)->wi σ H Rr
def SI(C:Ct)(tg iter:Expr)(f:En->Rs (List D)):Prop:=∃wi,(∀i,PI (C.X i) tg iter wi)/\aJB C.K C.G wi f
def aJu(K:PySem.W.Frag)(tl:TE):TI:=λ σ H R=>tl σ H λ x H1=>∃a,x= .ref a/\(((∃xs,SqL K H1 a xs)/\R (Itl K a) H1)\/((∃xs,SqT K H1 a xs)/\R (Itt K a) H1))
theorem aHw(hl:PE X l tl):PI X tg l (aJu X.K tl):=by
 intro pins s σ H R I h;refine thn (hl pins s σ H _ I h) λ v s1 ⟨x,H1,I1,r1,a,e,q1⟩=>?_
 subst e;cases r1;have hp:∀b∈[s1.heap.objs.size],uX X pins H1 b:=λ b hb=>by
  have e:b=s1.heap.objs.size:=by simpa using hb
  rw[e];exact I1.fpOk (Nat.le_refl _) (I1.hok.fresh (Nat.le_refl _))
 rcases q1 with ⟨⟨xs,hq⟩,q⟩|⟨⟨xs,hq⟩,q⟩
 ·obtain⟨its,rv,p,hz⟩:=I1.list hq
  refine wpAny_pyIter_list p.isList ?_;exact⟨_,_,_,_,H1,rfl,I1.kept (t':=s1.toks) λ b o e=>Heap.get?_push_of_some _ e,aBw a _,⟨_,Heap.get?_push_size _ rfl,rfl,rfl⟩,hp,q⟩
 ·obtain⟨its,rv,p,hz⟩:=I1.tuple hq
  refine wpAny_pyIter_tuple (show s1.heap.IsTuple a its.toArray from p) ?_;exact⟨_,_,_,_,H1,rfl,I1.kept (t':=s1.toks) λ b o e=>Heap.get?_push_of_some _ e,aAA a _,⟨_,Heap.get?_push_size _ rfl,rfl,rfl⟩,hp,q⟩
def itD:D->Rs (List D)
 | .tup l=>.ok l
 | .lst l=>.ok l
 | .scr l=>.ok (l.map .int)
 |_=>.st
def dh(fe:En->Rs D):En->Rs (List D):=λ ρ=>(fe ρ).bd itD
theorem aBc{K:PySem.W.Frag}(h:SqL K H a xs)(r:Rps K (λ p=>(lab p).1<=1) H xs ds):JL K lab (Itl K a) H ds:=by
 have hl:=r.length;refine λ i=>⟨λ hi=>⟨xs,h,by lia⟩,λ hi=>⟨⟨xs,xs[i]'(by lia),h,by simp[hl,hi]⟩,λ x H' y=>?_⟩⟩
 obtain⟨e,y⟩:=y;subst e;obtain⟨d,h1,h2⟩:=r.get (y xs h);exact⟨aU.refl _,d,h1,h2⟩
theorem aIe{K:PySem.W.Frag}(h:SqT K H a xs)(r:Rps K (λ p=>(lab p).1<=1) H xs ds):JL K lab (Itt K a) H ds:=by
 have hl:=r.length;refine λ i=>⟨λ hi=>⟨xs,h,by lia⟩,λ hi=>⟨⟨xs,xs[i]'(by lia),h,by simp[hl,hi]⟩,λ x H' y=>?_⟩⟩
 obtain⟨e,y⟩:=y;subst e;obtain⟨d,h1,h2⟩:=r.get (y xs h);exact⟨aU.refl _,d,h1,h2⟩
theorem jL(he:SE C m e fe)(hm:okS m=true:=by rfl):SI C tg e (dh fe):=by
 obtain⟨t,p1,p2⟩:=he;refine⟨aJu C.K t,λ i=>by rw[<-C.hK i];exact aHw (p1 i),λ τ σ H ρ lab Rr R W=>p2 τ σ H ρ lab _ R (W.bd.imp λ d _ w v H1 s r=>?_)⟩;obtain⟨R',r'⟩:=R.shared hm s r;cases d with
 |tup l=>
  cases r' with
  |tup h q=>
   rename_i a xs;refine⟨_,rfl,.inr ⟨⟨_,h⟩,w _ H1 _ [(.ref a,.tup l)] s (λ p o e=>bM e) ⟨R'.len,R'.sl,R'.old,R'.new,λ z hz=>?_⟩ λ lab' H' hq=>?_⟩⟩
   ·rcases List.mem_cons.mp hz with rfl|hz
    ·exact .tup h q
    ·exact R'.tm z hz
   ·have z:=hq _ (List.mem_cons_self ..)
    cases z with
    |tup h' q'=>exact aIe h' q'
 |lst l=>
  cases r' with
  |lst h mm q=>
   rename_i a xs;refine⟨_,rfl,.inl ⟨⟨_,SqL.of h⟩,w _ H1 _ [(.ref a,.lst l)] s (λ p o e=>bM e) ⟨R'.len,R'.sl,R'.old,R'.new,λ z hz=>?_⟩ λ lab' H' hq=>?_⟩⟩
   ·rcases List.mem_cons.mp hz with rfl|hz
    ·exact .lst h mm q
    ·exact R'.tm z hz
   ·have z:=hq _ (List.mem_cons_self ..)
    cases z with
    |lst h' _ q'=>exact aBc (SqL.of h') (q'.wk λ _ _ _ z=>z.1)
 |scr l=>
  cases r' with
  |scr h=>
   rename_i a;refine⟨_,rfl,.inl ⟨⟨_,h.sq⟩,w _ H1 _ [(.ref a,.scr l)] s (λ p o e=>bM e) ⟨R'.len,R'.sl,R'.old,R'.new,λ z hz=>?_⟩ λ lab' H' hq=>?_⟩⟩
   ·rcases List.mem_cons.mp hz with rfl|hz
    ·exact .scr h
    ·exact R'.tm z hz
   ·have z:=hq _ (List.mem_cons_self ..)
    cases z with
    |scr h'=>exact aBc h'.sq Rps.ints
 |_=>exact False.elim w
end
section
variable{C:Ct}{pos:Pos}{s:Stmt}{ss:List Stmt}{f g:En->Ou}{e a b:Expr}{es:List Expr}{m m1 m2:Mode}{fe fa fb:En->Rs D}{ks:List Nat}{fg:D->En->Rs En}{tg:Expr}{fi:En->Rs (List D)}{ga:En->Rs (List D)}
def bB(lo hi:Int):List D:=(List.range (hi-lo).toNat).map λ(k:Nat)=>.int (lo+(k:Int))
def dZ:List D->Rs (List D)
 |[.int j]=>if -(2^62)<=j/\j<2^62 then .ok (bB 0 j)else .st
 |_=>.st
def ud:List D->Rs (List D)
 |[.int i,.int j]=>if (-(2^62)<=i/\i<2^62)/\(-(2^62)<=j/\j<2^62)then .ok (bB i j)else .st
 |_=>.st
def cZ(r:List D->Rs (List D))(ga:En->Rs (List D)):En->Rs (List D):=λ ρ=>(ga ρ).bd r
theorem aEO{K:PySem.W.Frag}{lo hi:Int}:JL K lab (Itr lo (hi-lo).toNat) H (bB lo hi):=by
 have hl:(bB lo hi).length=(hi-lo).toNat:=by unfold bB;simp
 refine λ i=>⟨λ h=>by show(hi-lo).toNat<=i;lia,λ h=>⟨by show i<(hi-lo).toNat;lia,λ x H' y=>?_⟩⟩
 obtain⟨e,rfl⟩:=y;subst e;refine⟨aU.refl _,.int (lo+i),?_,.int _⟩;unfold bB;rw[List.getElem?_map,List.getElem?_range (by lia)];rfl
theorem gF(ha:SA C m [a] ga)(hm:C.mg "range"=none)(hs:∀i,starEach [a] (C.X i).env=[(false,eval a (C.X i).env)]:=by intro _;rfl)(hg:∀i,Gl (C.X i) "range":=by intro _;rfl):SI C tg (.Call (.Name "range" p) [a] [] pos) (cZ dZ ga):=by
 obtain⟨t,h1,h2⟩:=ha;refine⟨_,λ i=>aCK (hg i) (by rw[(C.cx i).2.2.2.1];exact hm) (h1 i) (hs i),λ τ σ H ρ lab Rr R W=>h2 τ σ H ρ lab _ R (W.bd.imp λ ds _ w vs H1 s r=>?_)⟩;unfold dZ at w;split at w
 ·rename_i j _
  split at w
  ·rename_i hj
   cases r with
   |cons h r=>
    cases h;cases r;refine⟨j,rfl,hj.1,hj.2,?_⟩;have z:=w (Itr 0 (j-0).toNat) H1 lab [] s (λ _ _ _=>rfl) (R.up s) λ lab' H' _=>aEO
    rwa [Int.sub_zero]at z
  ·exact False.elim w
 ·exact False.elim w
theorem wF(ha:SA C m [a,b] ga)(hm:C.mg "range"=none)(hs:∀i,starEach [a,b] (C.X i).env=[(false,eval a (C.X i).env),(false,eval b (C.X i).env)]:=by intro _;rfl)(hs2:∀i,starEach [b] (C.X i).env=[(false,eval b (C.X i).env)]:=by intro _;rfl)(hg:∀i,Gl (C.X i) "range":=by intro _;rfl):SI C tg (.Call (.Name "range" p) [a,b] [] pos) (cZ ud ga):=by
 obtain⟨t,h1,h2⟩:=ha;refine⟨_,λ i=>aCJ (hg i) (by rw[(C.cx i).2.2.2.1];exact hm) (h1 i) (hs i) (hs2 i),λ τ σ H ρ lab Rr R W=>h2 τ σ H ρ lab _ R (W.bd.imp λ ds _ w vs H1 s r=>?_)⟩;unfold ud at w;split at w
 ·rename_i i j _
  split at w
  ·rename_i hj
   cases r with
   |cons h r=>
    cases h;cases r with
    |cons h r=>
     cases h;cases r;exact⟨i,j,rfl,⟨hj.1.1,hj.1.2,hj.2.1,hj.2.2⟩,w (Itr i (j-i).toNat) H1 lab [] s (λ _ _ _=>rfl) (R.up s) λ lab' H' _=>aEO⟩
  ·exact False.elim w
 ·exact False.elim w
def forL(fg:D->En->Rs En)(b:En->Ou):List D->En->Ou
 |[],ρ=>.nx ρ
 |d::ds,ρ=>match fg d ρ with
  | .ok ρ1=>match b ρ1 with
   | .nx ρ2=>forL fg b ds ρ2
   | .ct ρ2=>forL fg b ds ρ2
   | .bk ρ2=>.nx ρ2
   |o=>o
  |_=>.st
def dO(fi:En->Rs (List D))(fg:D->En->Rs En)(b:En->Ou):En->Ou:=λ ρ=>(fi ρ).bo λ ds=>forL fg b ds ρ
theorem dX(hi:SI C tg e fi)(hg:SG C tg ks fg)(hb:SSs C ss f)(hs:∀i,∀x,foldedSetIterable e (C.X i).env x=pure x:=by intro _ _;rfl):SS C (.For tg e ss [] pos) (dO fi fg f):=by
 obtain⟨wi,i1,i2⟩:=hi;obtain⟨gg,g1,g2,_,g4⟩:=hg;obtain⟨tb,b1,b2⟩:=hb;refine⟨_,λ i=>aHs (C.own i) (C.calm i) (i1 i) (g1 i) (b1 i) (hs i),λ τ σ H ρ lab De R W=>i2 τ σ H ρ lab _ R (W.bo.imp λ ds _ w J H1 lab1 τ1 s1 _ R1 jl=>?_)⟩;refine⟨λ i n σ' H'=>∃ρ' lab',RR C.K C.G (τ1++τ) ρ' σ' H' lab'/\n=ds.length-i/\i<=ds.length/\WS C.K C.G τ (forL fg f (ds.drop i) ρ') De,⟨ds.length,ρ,lab1,R1,by lia,by lia,w⟩,?_⟩;rintro i n σ' H' ⟨ρ',lab',R',rfl,hi,w'⟩;have jj:=jl lab' H' λ q hq=>R'.tm q (List.mem_append_left _ hq)
 by_cases hlt:i<ds.length
 ·obtain⟨go,yl⟩:=(jj i).2 hlt
  refine .inr ⟨go,λ σ2 H2=>∃ρ2 lab2,RR C.K C.G (τ1++τ) ρ2 σ2 H2 lab2/\WS C.K C.G τ (forL fg f (ds.drop (i+1)) ρ2) De,λ σ2 H2 ⟨ρ2,lab2,R2,w2⟩=>⟨ds.length-(i+1),by lia,ρ2,lab2,R2,rfl,hlt,w2⟩,λ x H2 hy=>?_⟩;obtain⟨s2,d,ed,rx⟩:=yl x H2 hy;replace R':=R'.up s2;have ed2:ds.drop i=d::ds.drop (i+1):=by
   rw[List.drop_eq_getElem_cons hlt]
   have:=List.getElem?_eq_getElem hlt
   rw[ed]at this;cases this;rfl
  rw[ed2]at w';unfold forL at w';cases eg:fg d ρ' with
  |ex c=>rw[eg]at w';exact False.elim w'
  |st=>rw[eg]at w';exact False.elim w'
  |ok ρ1=>
   rw[eg]at w';refine g2 (τ1++τ) x d σ' H2 ρ' lab' _ ρ1 R' rx eg λ σ1 R1'=>b2 (τ1++τ) σ1 H2 ρ1 lab' _ R1' ?_
   dsimp only at w';cases eb:f ρ1 with
   |nx ρ2=>rw[eb]at w';exact λ σ2 H3 lab2 R2=>⟨ρ2,lab2,R2,w'⟩
   |ct ρ2=>rw[eb]at w';exact λ σ2 H3 lab2 R2=>⟨ρ2,lab2,R2,w'⟩
   |bk ρ2=>rw[eb]at w';exact λ σ2 H3 lab2 R2=>w' σ2 H3 lab2 R2.drop
   |rt d=>rw[eb]at w';exact w'
   |ex c=>rw[eb]at w';exact w'
   |st=>rw[eb]at w';exact w'
 ·have e:i=ds.length:=by lia
  subst e;rw[List.drop_length]at w';exact .inl ⟨(jj _).1 (Nat.le_refl _),w' σ' H' lab' R'.drop⟩
def itW(c:En->Rs Bool)(b:En->Ou):Nat->En->Ou
 |0,_=>.st
 |n+1,ρ=>(c ρ).bo λ k=>if k=true then(match b ρ with
   | .nx ρ2=>itW c b n ρ2
   | .ct ρ2=>itW c b n ρ2
   | .bk ρ2=>.nx ρ2
   |o=>o)else .nx ρ
def fuel:Nat:=1000000
def vp(c:En->Rs Bool)(b:En->Ou):En->Ou:=itW c b fuel
theorem aCz(hc:ST C c fc)(hb:SSs C ss f):SS C (.While c ss [] pos) (vp fc f):=by
 obtain⟨tc,c1,c2⟩:=hc;obtain⟨tb,b1,b2⟩:=hb;refine⟨_,λ i=>aD3 (C.own i) (c1 i) (b1 i),λ τ σ H ρ lab De R W=>?_⟩;refine⟨λ n σ' H'=>∃ρ' lab',RR C.K C.G τ ρ' σ' H' lab'/\WS C.K C.G τ (itW fc f n ρ') De,⟨fuel,ρ,lab,R,W⟩,?_⟩;rintro n σ' H' ⟨ρ',lab',R',w'⟩;cases n with
 |zero=>exact False.elim w'
 |succ n=>
  refine c2 τ σ' H' ρ' lab' _ R' (WS.bo (show WS C.K C.G τ ((fc ρ').bo _) De from w') |>.imp λ k _ w H1 s1=>?_);cases k with
  |false=>
   rw[if_neg Bool.false_ne_true]at w ⊢;exact w σ' H1 lab' (R'.up s1)
  |true=>
   rw[if_pos rfl]at w ⊢;refine⟨λ σ2 H2=>∃ρ2 lab2,RR C.K C.G τ ρ2 σ2 H2 lab2/\WS C.K C.G τ (itW fc f n ρ2) De,λ σ2 H2 ⟨ρ2,lab2,R2,w2⟩=>⟨n,Nat.lt_succ_self n,ρ2,lab2,R2,w2⟩,?_⟩;refine b2 τ σ' H1 ρ' lab' _ (R'.up s1) ?_;cases eb:f ρ' with
   |nx ρ2=>rw[eb]at w;exact λ σ2 H3 lab2 R2=>⟨ρ2,lab2,R2,w⟩
   |ct ρ2=>rw[eb]at w;exact λ σ2 H3 lab2 R2=>⟨ρ2,lab2,R2,w⟩
   |bk ρ2=>rw[eb]at w;exact w
   |rt d=>rw[eb]at w;exact w
   |ex c=>rw[eb]at w;exact w
   |st=>rw[eb]at w;exact w
def wZ(x:Str)(ga:En->Rs (List D)):En->Ou:=λ ρ=>(ga ρ).bo λ ds=>if ds.length<=sizeLine then .ex x else .st
theorem aDA{rest:List Expr}(hd:C.dOk=true)(hm:C.mg x=some (.ref Ca))(hcl:C.G.cl x=Ca)(hC:gR C.K Ca)(ha:SA C m (e₀::rest) ga)(he:∀i,starEach (e₀::rest) (C.X i).env=(false,eval e₀ (C.X i).env)::starEach rest (C.X i).env:=by intro _;rfl)(hplain:∀i,(backTo cpos (starEach rest (C.X i).env)).any (·.1)=false:=by intro _;rfl)(hdb:(x==("__debug__":Str))=false:=by decide)(hg:∀i,Gl (C.X i) x:=by intro _;rfl):SS C (.Raise (some (.Call (.Name x np) (e₀::rest) [] cpos)) none pos) (wZ x ga):=by
 obtain⟨t,h1,h2⟩:=ha;refine⟨_,λ i=>aD5 (C.dcx hd i) (C.calm i) (by rw[(C.cx i).2.2.2.1];exact hm) (by rw[C.hK i];exact hC) (hg i) (h1 i) (he i) (hplain i) hdb,λ τ σ H ρ lab De R W=>h2 τ σ H ρ lab _ R (W.bo.imp λ ds _ w vs H1 s r=>?_)⟩;by_cases hz:ds.length<=sizeLine
 ·rw[if_pos hz]at w
  refine⟨by rw[r.length];exact hz,?_⟩
  have:=w H1 (R.old.trans s)
  rwa [hcl]at this
 ·rw[if_neg hz]at w
  exact False.elim w
def spF(K:PySem.W.Frag)(cl:Str->Addr)(n:Nat)(F:List D->Rs D):Sp:=λ vs H Q E=>∃ds,vs.length=n/\Rps K (λ _=>True) H vs ds/\WR ⟨H,E,cl⟩ (F ds) (λ d=>∀v H',aU H H'->Rp K (λ p=>H p=none) H' v d->Q v H')
def aR(F:List D->Rs D)(ga:En->Rs (List D)):En->Rs D:=λ ρ=>(ga ρ).bd F
theorem aDG{K:PySem.W.Frag}(hn:∀ρ ds,ga ρ= .ok ds->ds.length=n)(h:aGn K G m t ga):jR K G (some []) (yN (spF K G.cl n F) [] G.E t) (aR F ga):=by
 intro τ σ H ρ lab Q R W;refine h τ σ H ρ lab _ R (W.bd.imp λ ds eds w vs H1 s r=>⟨ds,by rw[List.append_nil,r.length];exact hn ρ ds eds,by rw[List.append_nil];exact r.wk λ _ _ _ _=>trivial,?_⟩);cases hF:F ds with
 |ok d=>
  rw[hF]at w;exact λ v H' s' r'=>w v H' (s.trans s') (r'.wk λ p o _ z=>.inl (s.free z))
 |ex c=>rw[hF]at w;exact λ H' s'=>w H' ((R.old.trans s).trans s')
 |st=>rw[hF]at w;exact w
variable{k:Nat}{fn:Addr}{fd:FuncData}{ps:List Str}{x:Str}{p:Pos}{F:List D->Rs D}{n:Nat}
theorem aFV(hF:cg C.prog C.w C.K C.mg C.base (CX1 C.prog C.w) k fn fd ps (spF C.K C.G.cl n F))(hr:k<=C.k)(hm:C.mg x=some (.ref fn))(hk:PySem.W.keepIn C.K (.ref fn)=true)(hb:Binds C.K fd ps [])(ha:SA C m (e::es) ga)(hn:∀ρ ds,ga ρ= .ok ds->ds.length=n)(hdb:(x==("__debug__":Str))=false:=by decide)(he:∀i,starEach (e::es) (C.X i).env=(false,eval e (C.X i).env)::starEach es (C.X i).env:=by intro _;rfl)(hpl:∀i,(backTo pos (starEach es (C.X i).env)).any (·.1)=false:=by intro _;rfl)(hg:∀i,Gl (C.X i) x:=by intro _;rfl):SE C (some []) (.Call (.Name x p) (e::es) [] pos) (aR F ga):=by
 obtain⟨t,h1,h2⟩:=ha;refine⟨_,λ i=>?_,aDG hn h2⟩;obtain⟨e1,e2,e3,e4,e5⟩:=C.cx i;refine aFg (CX:=CX1 (C.X i).prog (C.X i).w) (by rw[e1,e2,e3,e4,e5];exact hF) ((C.room i).mono hr) (hg i) (by rw[e4];exact hm) (by rw[e3];exact hk) (by rw[e3];exact hb) .nil (C.pass i) (h1 i) hdb (he i) (hpl i)
theorem aGG(h:aF ρ= .ok ds):ds.length=0:=by cases h;rfl
theorem aEC(h:∀ρ ds,ga ρ= .ok ds->ds.length=n):∀ρ ds,aA fa ga ρ= .ok ds->ds.length=n+1:=λ ρ ds e=>by
 obtain⟨d,_,e⟩:=dU e;obtain⟨r,er,e⟩:=dU e;cases e;rw[List.length_cons,h ρ r er]
end
def aq(mg:Str->Option Value):Str->Addr:=λ x=>match mg x with
 |some (.ref a)=>a
 |_=>0
abbrev ctD(P:Program)(w:World)(K:PySem.W.Frag)(mg:Str->Option Value)(base:Heap)(N:List Str)(q:Str)(sc:Scope)(f:Addr)(cdv:Value)(A:Around)(outer:List Env)(s:Shared)(H:Hp)(E:XK)(k:Nat)(hr:dG k (A.deeper (envOfC q sc s.heap.objs.size f cdv))):Ct where
 ι:=Unit
 X:=λ _=>qw (CX1 P w) P w K mg base N q sc f cdv A outer s H E
 prog:=P
 w:=w
 K:=K
 mg:=mg
 base:=base
 k:=k
 G:=⟨H,E,aq mg⟩
 cx:=λ _=>⟨rfl,rfl,rfl,rfl,rfl⟩
 calm:=λ _=>rfl
 room:=λ _=>hr
 own:=λ _=>cQ.own cQ.of
 pass:=λ _=>cQ.pass cQ.of
 dOk:=true
 dcx:=λ _ _=>cQ.of
def bG(n:Nat)(ds:List D):En:=ds.map .sh++List.replicate (n-ds.length) .no
def fL(n:Nat)(f:En->Ou):List D->Rs D:=λ ds=>match f (bG n ds)with
 | .nx _=>.ok .non
 | .rt d=>.ok d
 | .ex c=>.ex c
 |_=>.st
theorem RR.start{K:PySem.W.Frag}(r:Rps K (λ _=>True) H vs ds):RR K ⟨H,E,cl⟩ [] (bG N.length ds) (start N vs) H (λ _=>(0,0)):=by
 have hl:=r.length;refine⟨by unfold bG L2.start;simp[hl],λ i s e=>?_,aU.refl H,λ p hp=>absurd rfl hp,λ q hq=>by cases hq⟩;unfold bG at e;by_cases hi:i<ds.length
 ·rw[List.getElem?_append_left (by simpa using hi),List.getElem?_map]at e
  cases ed:ds[i]? with
  |none=>rw[ed]at e;cases e
  |some d=>
   rw[ed]at e;cases e;obtain⟨x,ex,rx⟩:=r.getD ed;refine .inr ⟨x,?_,rx.wk λ _ _ _ _=>Nat.zero_le _⟩;unfold L2.start;rw[List.getElem?_append_left (by simpa[hl]using hi),List.getElem?_map,ex];rfl
 ·rw[List.getElem?_append_right (by simpa using hi),List.getElem?_replicate]at e
  split at e
  ·cases e;exact .inl rfl
  ·cases e
section
variable{P:Program}{w:World}{K:PySem.W.Frag}{mg:Str->Option Value}{base:Heap}
theorem aIs{x q:Str}{st:Stmt}(F:L2.Fun K x q st fn fd)(S:ak N ps (aG st))
  (hb:∀cdv A outer s H E hr,SSs (ctD P w K mg base N q (aG st) fn cdv A outer s H E k hr) (cM st) f):
  cg P w K mg base (CX1 P w) (k+1) fn fd ps (spF K (aq mg) ps.length (fL N.length f)):=by
 refine F.okX S (λ vs H Q E ⟨ds,hl,_⟩=>hl) λ cdv A outer s H vs Q E hr ⟨ds,hl,r,W⟩=>?_
 obtain⟨t,h1,h2⟩:=hb cdv A outer s H E hr;refine⟨t,h1 (),h2 [] _ H _ _ _ (RR.start r) ?_⟩;unfold fL at W;cases e:f (bG N.length ds)with
 |nx ρ=>rw[e]at W;exact λ σ' H' lab R=>W .non H' R.old .non
 |rt d=>rw[e]at W;exact λ v H' s r=>W v H' s r
 |ex c=>rw[e]at W;exact W
 |bk ρ=>rw[e]at W;exact False.elim W
 |ct ρ=>rw[e]at W;exact False.elim W
 |st=>rw[e]at W;exact False.elim W
theorem aGa{st:Stmt}(F:L2.Fun K x q st fn fd)(S:ak N ps (aG st))
  (hb:∀cdv A outer s H E hr,SSs (ctD P w K mg base N q (aG st) fn cdv A outer s H E k hr) (cM st) f)(hn:ps.length=n)(hF:fL N.length f=FF):
  cg P w K mg base (CX1 P w) (k+1) fn fd ps (spF K (aq mg) n FF):=by
 subst hn hF;exact aIs F S hb
end
theorem OpR.or(h:OpR X f r)(h':OpR X f r'):OpR X f (λ x y H Q=>r x y H Q\/r' x y H Q):=by
 intro pins s σ H x y v u Q I rx ry q;rcases q with q|q
 ·exact h pins s σ H x y v u Q I rx ry q
 ·exact h' pins s σ H x y v u Q I rx ry q
theorem OpS.or{K:PySem.W.Frag}(h:OpS K r fd)(h':OpS K r' fd'):OpS K (λ x y H Q=>r x y H Q\/r' x y H Q) (λ d e=>match fd d e with
  | .ok z=>.ok z
  |_=>fd' d e):=by
 intro A x y d e H Q z rx ry ez q;dsimp only at ez;cases hd:fd d e with
 |ok w=>rw[hd]at ez;cases ez;exact .inl (h A x y d e H Q _ rx ry hd q)
 |ex c=>rw[hd]at ez;exact .inr (h' A x y d e H Q z rx ry ez q)
 |st=>rw[hd]at ez;exact .inr (h' A x y d e H Q z rx ry ez q)
section
variable{K:PySem.W.Frag}
def i2(p:Int->Int->Bool)(g:Int->Int->D):D->D->Rs D
 | .int i,.int j=>if p i j=true then .ok (g i j)else .st
 |_,_=>.st
theorem aA3{g:Int->Int->Int}(hp:∀i j,p i j=true->c i j):OpS K (rI c λ i j=>.int (g i j)) (i2 p λ i j=>.int (g i j)):=by
 intro A x y d e H Q z rx ry ez q;unfold i2 at ez;split at ez
 ·rename_i i j
  split at ez
  ·rename_i h
   cases ez;obtain rfl:=rx.int_inv;obtain rfl:=ry.int_inv;exact⟨i,j,rfl,rfl,hp i j h,q _ H (aU.refl H) (.int _)⟩
  ·cases ez
 ·cases ez
theorem aFl{g:Int->Int->Int}:OpS K (rI0 λ i j=>.int (g i j)) (i2 (λ _ _=>true) λ i j=>.int (g i j)):=by
 intro A x y d e H Q z rx ry ez q;unfold i2 at ez;split at ez
 ·rename_i i j
  cases ez;obtain rfl:=rx.int_inv;obtain rfl:=ry.int_inv;exact⟨i,j,rfl,rfl,q _ H (aU.refl H) (.int _)⟩
 ·cases ez
theorem wu{g:Int->Int->Bool}:OpS K (rI0 λ i j=>.bl (g i j)) (i2 (λ _ _=>true) λ i j=>.bl (g i j)):=by
 intro A x y d e H Q z rx ry ez q;unfold i2 at ez;split at ez
 ·rename_i i j
  cases ez;obtain rfl:=rx.int_inv;obtain rfl:=ry.int_inv;exact⟨i,j,rfl,rfl,q _ H (aU.refl H) (.bl _)⟩
 ·cases ez
theorem xZ{g:Int->Int->Int}:∀x y z,i2 p (λ i j=>.int (g i j)) x y= .ok z->imm z=true:=by
 intro x y z e;unfold i2 at e;split at e
 ·split at e
  ·cases e;rfl
  ·cases e
 ·cases e
theorem aEY{g:Int->Int->Bool}:∀x y z,i2 p (λ i j=>.bl (g i j)) x y= .ok z->imm z=true:=by
 intro x y z e;unfold i2 at e;split at e
 ·split at e
  ·cases e;rfl
  ·cases e
 ·cases e
def bQ:D->D->Rs D
 | .int i,.int j=>.ok (.int (i+j))
 | .lst l,.lst m=>if l.length+m.length<=sizeLine then .ok (.lst (l++m))else .st
 | .tup l,.tup m=>if l.length+m.length<=sizeLine then .ok (.tup (l++m))else .st
 |_,_=>.st
def aHG(K:PySem.W.Frag):R2:=λ x y H Q=>∃a b xs ys,x= .ref a/\y= .ref b/\SqT K H a xs/\SqT K H b ys/\xs.length+ys.length<=sizeLine/\
 (xs=[]->Q (.ref b) H)/\(ys=[]->Q (.ref a) H)/\New H (.tup (xs++ys)) Q
theorem aFr:OpR X (binaryOp .Add) (aHG X.K):=by
 intro pins s σ H x y v u Q I rx ry h;obtain⟨a,b,xs,ys,rfl,rfl,ha,hb,hz,q0,q1,q2⟩:=h;by_cases hx:xs=[]
 ·subst hx
  cases rx;cases ry;obtain⟨its,r1,p1,_⟩:=I.tuple ha;obtain⟨its2,r2,p2,_⟩:=I.tuple hb;cases r1;exact HT.aEm p1 p2 ⟨.ref b,H,I,rfl,q0 rfl⟩
 ·exact aFs pins s σ H _ _ v u Q I rx ry ⟨a,b,xs,ys,rfl,rfl,ha,hb,hx,hz,q1,λ _ p hp=>q2.at hp⟩
def aDZ(K:PySem.W.Frag):R2:=λ x y H Q=>rI0 (λ i j=>.int (i+j)) x y H Q\/(aDY x y H Q\/aHG K x y H Q)
theorem aFt:OpR X (binaryOp .Add) (aDZ X.K):=OpR.or aI1 (OpR.or ww aFr)
theorem aIL:OpS K (aDZ K) bQ:=by
 intro A x y d e H Q z rx ry ez q;unfold bQ at ez;split at ez
 ·cases ez;obtain rfl:=rx.int_inv;obtain rfl:=ry.int_inv;exact .inl ⟨_,_,rfl,rfl,q _ H (aU.refl H) (.int _)⟩
 ·split at ez
  ·rename_i hl
   cases ez;obtain⟨_,_,rfl,h1,m1,r1⟩:=rx.lst_inv;obtain⟨_,_,rfl,h2,m2,r2⟩:=ry.lst_inv;refine .inr (.inl ⟨_,_,_,_,rfl,rfl,h1,h2,by rw[r1.length,r2.length];exact hl,λ p H' s hp hn=>q _ H' s (.lst hp (.inl hn) ?_)⟩);exact(((r1.wk λ _ _ _ z=>z.1).append (r2.wk λ _ _ _ z=>z.1)).wk (A':=λ q=>(H q=none\/A q)/\q≠p) λ q o e z=>⟨.inr z,λ e'=>by subst e';rw[hn]at e;cases e⟩).up s
  ·cases ez
 ·split at ez
  ·rename_i hl
   cases ez;obtain⟨_,_,rfl,h1,r1⟩:=rx.tup_inv;obtain⟨_,_,rfl,h2,r2⟩:=ry.tup_inv;have r1':=r1.wk (A':=λ p=>H p=none\/A p) λ _ _ _ z=>.inr z
   have r2':=r2.wk (A':=λ p=>H p=none\/A p) λ _ _ _ z=>.inr z
   refine .inr (.inr ⟨_,_,_,_,rfl,rfl,h1,h2,by rw[r1.length,r2.length];exact hl,λ e=>?_,λ e=>?_,λ p H' s hp hn=>q _ H' s (.tup (SqT.of hp) ((r1'.append r2').up s))⟩)
   ·subst e
    cases r1';exact q _ H (aU.refl H) (.tup h2 r2')
   ·subst e
    cases r2';rw[List.append_nil]at q;exact q _ H (aU.refl H) (.tup h1 r1')
  ·cases ez
 ·cases ez
def jZ:D->D->Rs D
 | .int i,.int j=>if (decide (-(2^64)<i)&&decide (i<2^64))||(decide (-(2^64)<j)&&decide (j<2^64))then .ok (.int (i*j))else .st
 | .lst l,.int k=>if decide (-(2^63)<=k)&&decide (k<2^63)&&decide (l.length*k.toNat<=sizeLine)&&uo l then .ok (.lst (List.replicate k.toNat l).flatten)else .st
 |_,_=>.st
theorem Rps.rep(r:Rps K A H xs ds):∀k:Nat,Rps K A H (List.replicate k xs).flatten (List.replicate k ds).flatten
 |0=>.nil
 |k+1=>by
  rw[List.replicate_succ,List.replicate_succ,List.flatten_cons,List.flatten_cons];exact r.append (Rps.rep r k)
def aHD:R2:=λ x y H Q=>rI aGu (λ i j=>.int (i*j)) x y H Q\/aJ3 x y H Q
theorem aFo:OpR X (binaryOp .Mult) aHD:=OpR.or aIR aIO
theorem aIJ:OpS K aHD jZ:=by
 intro A x y d e H Q z rx ry ez q;unfold jZ at ez;split at ez
 ·split at ez
  ·rename_i hc
   cases ez;obtain rfl:=rx.int_inv;obtain rfl:=ry.int_inv;refine .inl ⟨_,_,rfl,rfl,?_,q _ H (aU.refl H) (.int _)⟩;simp only[Bool.or_eq_true,Bool.and_eq_true,decide_eq_true_eq]at hc;exact hc
  ·cases ez
 ·split at ez
  ·rename_i hc
   simp only[Bool.and_eq_true,decide_eq_true_eq]at hc;cases ez;obtain⟨_,_,rfl,h1,m1,r1⟩:=rx.lst_inv;obtain rfl:=ry.int_inv;refine .inr ⟨_,_,_,rfl,rfl,h1,hc.1.1.1,hc.1.1.2,by rw[r1.length];exact hc.1.2,λ p hp=>q _ _ (bO hp _) (.lst ao (.inl hp) ?_)⟩;exact((r1.rep _).wk (A':=λ q=>(H q=none\/A q)/\q≠p) λ q o e z=>⟨.inr z.1,λ e'=>by subst e';rw[hp]at e;cases e⟩).up (bO hp _)
  ·cases ez
 ·cases ez
def intsOf:List D->Option (List Int)
 |[]=>some []
 | .int i::r=>(intsOf r).map (i::·)
 |_=>none
theorem gO:∀{l:List D} {ns:List Int},intsOf l=some ns->l=ns.map .int
 |[],ns,h=>by cases h;rfl
 | .int i::r,ns,h=>by
  simp only[intsOf,Option.map_eq_some_iff]at h;obtain⟨ms,h1,rfl⟩:=h;rw[gO h1];rfl
 | .non::_,_,h=>by cases h
 | .bl _::_,_,h=>by cases h
 | .str _::_,_,h=>by cases h
 | .tup _::_,_,h=>by cases h
 | .lst _::_,_,h=>by cases h
 | .dct _ _::_,_,h=>by cases h
 | .set _::_,_,h=>by cases h
 | .scr _::_,_,h=>by cases h
theorem iT:∀ns:List Int,intsOf (ns.map .int)=some ns
 |[]=>rfl
 |n::ns=>by simp only[List.map_cons,intsOf,iT ns,Option.map_some]
def ltT(p:List Int->List Int->Bool):D->D->Rs D
 | .tup l,.tup m=>match intsOf l,intsOf m with
  |some ns,some ms=>.ok (.bl (p ns ms))
  |_,_=>.st
 |_,_=>.st
theorem aB0(r:Rp K A H x (.tup l))(e:intsOf l=some ns):∃a,x= .ref a/\SqT K H a (ns.map V.int):=by
 have:=gO e
 subst this;cases r with
 |tup h r=>
  have:=r.ints_of
  subst this;exact⟨_,rfl,h⟩
theorem aB6(hr:∀x y H Q,(∃a b ns ms,x= .ref a/\y= .ref b/\SqT K H a (ns.map V.int)/\SqT K H b (ms.map V.int)/\Q (.bl (p ns ms)) H)->r x y H Q):OpS K r (ltT p):=by
 intro A x y d e H Q z rx ry ez q;unfold ltT at ez;split at ez
 ·split at ez
  ·rename_i ns ms e1 e2
   cases ez;obtain⟨a,rfl,ha⟩:=aB0 rx e1;obtain⟨b,rfl,hb⟩:=aB0 ry e2;exact hr _ _ _ _ ⟨a,b,ns,ms,rfl,rfl,ha,hb,q _ H (aU.refl H) (.bl _)⟩
  ·cases ez
 ·cases ez
def ltD:D->D->Rs D:=λ d e=>match i2 (λ _ _=>true) (λ i j=>.bl (decide (i<j))) d e with
 | .ok z=>.ok z
 |_=>ltT HT.lexLt d e
def leD:D->D->Rs D:=λ d e=>match i2 (λ _ _=>true) (λ i j=>.bl (decide (i<=j))) d e with
 | .ok z=>.ok z
 |_=>ltT HT.lexLe d e
def gtD:D->D->Rs D:=i2 (λ _ _=>true) (λ i j=>.bl (decide (j<i)))
def geD:D->D->Rs D:=i2 (λ _ _=>true) (λ i j=>.bl (decide (j<=i)))
theorem aIT(hu:X.A.units<cLine):OpR X (compareOp .Lt) (λ x y H Q=>rI0 (λ i j=>.bl (decide (i<j))) x y H Q\/aF0 X.K x y H Q):=OpR.or aJc (aIU hu)
theorem aIV(hu:X.A.units<cLine):OpR X (compareOp .LtE) (λ x y H Q=>rI0 (λ i j=>.bl (decide (i<=j))) x y H Q\/aF1 X.K x y H Q):=OpR.or aJd (aIW hu)
theorem aDk:OpS K (λ x y H Q=>rI0 (λ i j=>.bl (decide (i<j))) x y H Q\/aF0 K x y H Q) ltD:=OpS.or wu (aB6 λ _ _ _ _ h=>h)
theorem aDl:OpS K (λ x y H Q=>rI0 (λ i j=>.bl (decide (i<=j))) x y H Q\/aF1 K x y H Q) leD:=OpS.or wu (aB6 λ _ _ _ _ h=>h)
theorem aBf(e:ltT p x y= .ok z):imm z=true:=by
 unfold ltT at e;split at e
 ·split at e
  ·cases e;rfl
  ·cases e
 ·cases e
theorem aEW:∀x y z,ltD x y= .ok z->imm z=true:=by
 intro x y z e;unfold ltD at e;split at e
 ·rename_i w hw;cases e;exact aEY _ _ _ hw
 ·exact aBf e
theorem aIl:∀x y z,leD x y= .ok z->imm z=true:=by
 intro x y z e;unfold leD at e;split at e
 ·rename_i w hw;cases e;exact aEY _ _ _ hw
 ·exact aBf e
def isD(neg:Bool):D->D->Rs D
 | .bl a,.bl b=>if neg then .st else .ok (.bl (a==b))
 |d,.non=>match d with
  | .non=>.ok (.bl (!neg))
  |_=>.ok (.bl neg)
 |_,_=>.st
theorem aIX:OpR X (compareOp .Is) (λ x y H Q=>(∃b c,x= .bl b/\y= .bl c/\Q (.bl (b==c)) H)\/(y= .non/\Q (.bl (decide (x= .non))) H)):=OpR.or aDn aIY
theorem aHm(r:Rp K A H x d)(h:d≠.non):x≠.non:=by
 cases r with
 |non=>exact absurd rfl h
 |_=>exact λ e=>by cases e
theorem aJb:OpS K (λ x y H Q=>(∃b c,x= .bl b/\y= .bl c/\Q (.bl (b==c)) H)\/(y= .non/\Q (.bl (decide (x= .non))) H)) (isD false):=by
 intro A x y d e H Q z rx ry ez q;unfold isD at ez;split at ez
 ·cases ez;cases rx;cases ry;exact .inl ⟨_,_,rfl,rfl,q _ H (aU.refl H) (.bl _)⟩
 ·cases ry
  split at ez
  ·cases ez;cases rx;exact .inr ⟨rfl,by rw[decide_eq_true rfl];exact q _ H (aU.refl H) (.bl _)⟩
  ·rename_i hn
   cases ez;exact .inr ⟨rfl,by rw[decide_eq_false (aHm rx hn)];exact q _ H (aU.refl H) (.bl _)⟩
 ·cases ez
theorem aIm:∀x y z,isD n x y= .ok z->imm z=true:=by
 intro x y z e;unfold isD at e;split at e
 ·split at e
  ·cases e
  ·cases e;rfl
 ·split at e<;>(cases e;rfl)
 ·cases e
def atD(l:List D)(i:Int):Rs D:=match atI l i with
 |some d=>.ok d
 |none=>.st
def ixD:D->D->Rs D
 | .tup l,.int i=>atD l i
 | .lst l,.int i=>atD l i
 | .scr l,.int i=>atD (l.map .int) i
 |_,_=>.st
theorem Rps.at(r:Rps K A H xs ds)(e:atI ds i=some d):∃x,atI xs i=some x/\Rp K A H x d:=by
 unfold atI at e ⊢;rw[r.length];cases h:ixN ds.length i with
 |none=>rw[h]at e;cases e
 |some j=>
  rw[h]at e;obtain⟨x,e1,e2⟩:=r.getD (i:=j) (d:=d) e;exact⟨x,e1,e2⟩
theorem aJa:OpS K (rIx K) ixD:=by
 intro A x y d e H Q z rx ry ez q;unfold ixD at ez;split at ez
 ·unfold atD at ez
  split at ez
  ·rename_i w hw
   cases ez;obtain⟨_,_,rfl,h,r⟩:=rx.tup_inv;obtain rfl:=ry.int_inv;obtain⟨v,e1,e2⟩:=r.at hw;exact .inr (.inl ⟨_,_,_,v,rfl,rfl,h,e1,q v H (aU.refl H) (e2.wk λ _ _ _ z=>.inr z)⟩)
  ·cases ez
 ·unfold atD at ez
  split at ez
  ·rename_i w hw
   cases ez;obtain⟨_,_,rfl,h,m,r⟩:=rx.lst_inv;obtain rfl:=ry.int_inv;obtain⟨v,e1,e2⟩:=r.at hw;exact .inl ⟨_,_,_,v,rfl,rfl,SqL.of h,e1,q v H (aU.refl H) (e2.wk λ _ _ _ z=>.inr z.1)⟩
  ·cases ez
 ·unfold atD at ez
  split at ez
  ·rename_i w hw
   cases ez;obtain⟨_,rfl,h⟩:=rx.scr_inv;obtain rfl:=ry.int_inv;obtain⟨v,e1,e2⟩:=(Rps.ints (K:=K) (A:=A) (H:=H)).at hw;exact .inl ⟨_,_,_,v,rfl,rfl,h.sq,e1,q v H (aU.refl H) (e2.wk λ _ _ _ z=>.inr z)⟩
  ·cases ez
 ·cases ez
def gM:List D->Rs D
 |[.tup l]=>.ok (.int l.length)
 |[.lst l]=>.ok (.int l.length)
 |[.scr l]=>.ok (.int l.length)
 |_=>.st
theorem aIt:uY K (λ xs H Q=>∃p ys,xs=[.ref p]/\(SqL K H p ys\/SqT K H p ys)/\Q (.int ys.length) H) gM:=by
 intro A xs ds H Q z r ez q;unfold gM at ez;split at ez
 ·cases ez
  obtain⟨_,rfl,h0⟩:=r.one_inv;obtain⟨_,_,rfl,h,r⟩:=h0.tup_inv;exact⟨_,_,rfl,.inr h,by rw[r.length];exact q _ H (aU.refl H) (.int _)⟩
 ·cases ez
  obtain⟨_,rfl,h0⟩:=r.one_inv;obtain⟨_,_,rfl,h,m,r⟩:=h0.lst_inv;exact⟨_,_,rfl,.inl (SqL.of h),by rw[r.length];exact q _ H (aU.refl H) (.int _)⟩
 ·cases ez
  obtain⟨_,rfl,h0⟩:=r.one_inv;obtain⟨_,rfl,h⟩:=h0.scr_inv;exact⟨_,_,rfl,.inl h.sq,by rw[List.length_map];exact q _ H (aU.refl H) (.int _)⟩
 ·cases ez
theorem aGY:∀x z,gM x= .ok z->imm z=true:=by
 intro x z e;unfold gM at e;split at e<;>first|(cases e;rfl)|cases e
def tyD:D->String
 | .non=>"NoneType"| .bl _=>"bool"| .int _=>"int"| .str _=>"str"| .tup _=>"tuple"| .lst _=>"list"| .dct _ _=>"dict"| .set _=>"set"| .scr _=>"script"| .fn _=>"function"
def lQ(T:String):D->Rs D:=λ d=>if mW (tyD d) T true=true then .ok (.bl true)else if mW (tyD d) T false=true then .ok (.bl false)else .st
def aHE(K:PySem.W.Frag)(T:String):List V->Hp->VK->Prop:=λ xs H Q=>∃x d A b,xs=[x,.ty T]/\Rp K A H x d/\mW (tyD d) T b=true/\Q (.bl b) H
theorem aCh:bx X (.builtin "isinstance") (aHE X.K T):=by
 intro pins s σ H xs us Q I rv h;obtain⟨x,d,A,b,rfl,rd,ok,q⟩:=h;cases rd with
 |tup h r=>
  obtain⟨u,w',rfl,ru,rw'⟩:=vals2 rv;cases ru;cases rw';obtain⟨its,_,⟨o,h1,h2,_⟩,_⟩:=I.tuple h;exact PySem.W.kia_one PySem.W.kitx_tuple I.kIn ⟨o,h1,h2⟩ (aAo ok) (λ z=>nomatch z) λ tk=>⟨.bl b,H,I.tok _,rfl,q⟩
 |set h m hS nd=>cases b<;>simp[mW,tyD]at ok
 |scr h=>cases b<;>simp[mW,tyD]at ok
 |fn h=>cases b<;>simp[mW,tyD]at ok
 |non=>exact jb pins s σ H _ us Q I rv ⟨_,T,_,b,rfl,.non,ok,q⟩
 |bl c=>exact jb pins s σ H _ us Q I rv ⟨_,T,_,b,rfl,.bl c,ok,q⟩
 |int c=>exact jb pins s σ H _ us Q I rv ⟨_,T,_,b,rfl,.int c,ok,q⟩
 |str c=>exact jb pins s σ H _ us Q I rv ⟨_,T,_,b,rfl,.str c,ok,q⟩
 |lst h m r=>exact jb pins s σ H _ us Q I rv ⟨_,T,_,b,rfl,.lst h,ok,q⟩
 |dK h m r=>exact jb pins s σ H _ us Q I rv ⟨_,T,_,b,rfl,.dK h,ok,q⟩
 |dT h m r=>
  obtain⟨u,w',rfl,ru,rw'⟩:=vals2 rv;cases ru;cases rw';obtain⟨⟨_,_,_,o,_,_,_,h1,h2,_⟩,_⟩:=(show cX X.prog X.w H s.heap _ (dxO _ _)from I.hok _ _ h.at_);exact PySem.W.kia_one PySem.W.kitx_dict I.kIn ⟨o,h1,h2.1⟩ (aAo ok) (λ z=>nomatch z) λ tk=>⟨.bl b,H,I.tok _,rfl,q⟩
end
section
variable{C:Ct}{pos p p2:Pos}{m:Mode}{a:Expr}{fa:En->Rs D}
theorem pG(ha:SE C m a fa)(hm:C.mg "isinstance"=none)(hmT:C.mg x=none)(hn:x≠"__name__":=by decide)(hd:(x==("__debug__":Str))=false:=by decide)(he:∀i,starEach [a,.Name x p2] (C.X i).env=(false,eval a (C.X i).env)::starEach [.Name x p2] (C.X i).env:=by intro _;rfl)(hpl:∀i,(backTo pos (starEach [.Name x p2] (C.X i).env)).any (·.1)=false:=by intro _;rfl)(hg:∀i,Gl (C.X i) "isinstance":=by intro _;rfl)(hv:bootBuiltins "isinstance"=some (.builtin "isinstance"):=by decide+kernel)(hgT:∀i,Gl (C.X i) x:=by intro _;rfl)(hvT:bootBuiltins x=some (.type T):=by decide+kernel):
  SE C (some []) (.Call (.Name "isinstance" p) [a,.Name x p2] [] pos) (op1 (lQ T) fa):=by
 obtain⟨t,h1,h2⟩:=ha;refine⟨tCB (aHE C.K T) (gZ t (gZ (tC (.ty T)) lA)),λ i=>?_,λ τ σ H ρ lab Q R W=>?_⟩
 ·rw[<-C.hK i]
  exact jX aCh (hg i) (by rw[(C.cx i).2.2.2.1];exact hm) hv (aZ (h1 i) (aZ (aB5 (v:=.ty T) (hgT i) (by rw[(C.cx i).2.2.2.1];exact hmT) hvT rfl hn hd) cF) (he i)) (by decide) (by decide) (he i) (hpl i)
 ·refine h2 τ σ H ρ lab _ R (W.bd.imp λ d _ w x H1 s1 r1=>?_)
  obtain⟨z,ez,w⟩:=w.okD;unfold lQ at ez;split at ez
  ·rename_i h;cases ez;exact⟨x,d,_,true,rfl,r1,h,w _ H1 s1 (.bl _)⟩
  ·split at ez
   ·rename_i h;cases ez;exact⟨x,d,_,false,rfl,r1,h,w _ H1 s1 (.bl _)⟩
   ·cases ez
end
def yM:Slot->Slot
 | .ow d=>.sh d
 | .nw d=>.sh d
 | .oz d=>.sh d
 | .o2 l=>.sh (.lst (l.map .lst))
 |s=>s
def shE(ρ:En):En:=ρ.map yM
def stV(js:List (Option Nat))(σ:L2.St):L2.St:=js.map λ o=>o.bind λ j=>(σ[j]?).join
def stE(js:List (Option Nat))(ρ:En):En:=js.map λ o=>match o with
 |none=>.no
 |some j=>(ρ[j]?).getD .no
theorem aFX{K:PySem.W.Frag}(h:cV K H lab i v s):∃d,(s= .no\/yM s= .sh d)/\(s= .no\/Rp K (λ _=>True) H v d):=by
 cases s with
 |no=>exact⟨.non,.inl rfl,.inl rfl⟩
 |sh d=>exact⟨d,.inr rfl,.inr (Rp.wk (λ _ _ _ _=>trivial) h)⟩
 |nw d=>exact⟨d,.inr rfl,.inr (Rp.wk (λ _ _ _ _=>trivial) h)⟩
 |ow d=>exact⟨d,.inr rfl,.inr (Rp.wk (λ _ _ _ _=>trivial) h.1)⟩
 |oz d=>exact⟨d,.inr rfl,.inr (Rp.wk (λ _ _ _ _=>trivial) (aHK h))⟩
 |o2 l=>exact⟨_,.inr rfl,.inr (Rp.wk (λ _ _ _ _=>trivial) (yt h))⟩
theorem RR.shE{K:PySem.W.Frag}(R:RR K G τ ρ σ H lab):RR K G τ (shE ρ) σ H (λ _=>(0,0)):=by
 refine⟨by unfold VL.shE;rw[List.length_map];exact R.len,λ i s e=>?_,R.old,λ p hp=>absurd rfl hp,λ q hq=>(R.tm q hq).wk λ _ _ _ _=>Nat.zero_le _⟩;unfold VL.shE at e;rw[List.getElem?_map]at e;cases e0:ρ[i]? with
 |none=>rw[e0]at e;cases e
 |some s0=>
  rw[e0]at e;cases e;rcases R.sl i s0 e0 with rfl|⟨v,ev,hv⟩
  ·exact .inl rfl
  ·obtain⟨d,h1,h2⟩:=aFX hv
   rcases h1 with rfl|h1
   ·exact .inl rfl
   ·rcases h2 with rfl|h2
    ·exact .inl rfl
    ·exact .inr ⟨v,ev,by rw[h1];exact h2.wk λ _ _ _ _=>Nat.zero_le _⟩
theorem aCy{i:Nat}(e:(stE js ρ)[i]? =some s):s= .no\/∃j,js[i]? =some (some j)/\ρ[j]? =some s:=by
 unfold stE at e;rw[List.getElem?_map]at e;cases ej:js[i]? with
 |none=>rw[ej]at e;cases e
 |some o=>
  rw[ej]at e;cases o with
  |none=>cases e;exact .inl rfl
  |some j=>
   cases er:ρ[j]? with
   |none=>simp[er]at e;exact .inl e.symm
   |some s'=>simp[er]at e;subst e;exact .inr ⟨j,rfl,er⟩
theorem RR.block{K:PySem.W.Frag}{τ:List (V×D)}(R:RR K G τ (VL.shE ρ) σ H lab)(hz:∀p,(lab p).1<=1)(hl:H l=none):
  RR K G τ (stE js (VL.shE ρ)) (stV js σ) H (λ p=>if p=l then(2,0)else(0,0)):=by
 have nl:∀p o,H p=some o->p≠l:=λ p o e z=>by subst z;rw[hl]at e;cases e
 refine⟨by unfold stE stV;rw[List.length_map,List.length_map],λ i s e=>?_,R.old,λ p hp=>?_,λ q hq=>(R.tm q hq).wk λ p o e _=>by rw[if_neg (nl p o e)];exact Nat.zero_le _⟩
 ·rcases aCy e with rfl|⟨j,ej,es⟩
  ·exact .inl rfl
  ·rcases R.sl j s es with rfl|⟨v,ev,hv⟩
   ·exact .inl rfl
   ·refine .inr ⟨v,?_,?_⟩
    ·unfold stV
     rw[List.getElem?_map,ej];simp[ev]
    ·unfold VL.shE at es
     rw[List.getElem?_map]at es;cases e0:ρ[j]? with
     |none=>rw[e0]at es;cases es
     |some s0=>
      rw[e0]at es;cases es;cases s0 with
      |no=>trivial
      |oz d=>exact Rp.wk (λ p o e _=>by show(if p=l then((2,0):Nat×Nat)else(0,0)).1<=1;rw[if_neg (nl p o e)];exact Nat.zero_le _) hv
      |nw d=>exact Rp.wk (λ p o e _=>by show(if p=l then((2,0):Nat×Nat)else(0,0)).1<=1;rw[if_neg (nl p o e)];exact Nat.zero_le _) hv
      |sh d=>exact Rp.wk (λ p o e _=>by show(if p=l then((2,0):Nat×Nat)else(0,0)).1<=1;rw[if_neg (nl p o e)];exact Nat.zero_le _) hv
      |ow d=>exact Rp.wk (λ p o e _=>by show(if p=l then((2,0):Nat×Nat)else(0,0)).1<=1;rw[if_neg (nl p o e)];exact Nat.zero_le _) hv
      |o2 d=>exact Rp.wk (λ p o e _=>by show(if p=l then((2,0):Nat×Nat)else(0,0)).1<=1;rw[if_neg (nl p o e)];exact Nat.zero_le _) hv
 ·by_cases hp':p=l
  ·subst hp';exact R.old.free hl
  ·exact absurd (show(if p=l then((2,0):Nat×Nat)else(0,0)).1=0 by rw[if_neg hp']) hp
def aKZ(XN N:List Str)(js:List (Option Nat))(ks:List Nat)(sc:Scope):Bool:=(List.range js.length).all λ i=>match js[i]? with
 |some (some j)=>match N[i]?,XN[j]? with
  |some x,some y=>x==y&&sc.names.lookup x==some .free&& !ks.contains i
  |_,_=>false
 |_=>true
theorem aBD(h1:sc.kind= .function)(h2:(sc.names.all λ y=>y.2 != .cell||sc.names.lookup y.1==some .cell)=true)(h3:(sc.names.all λ y=>y.2 != .local||sc.names.lookup y.1==some .local)=true)
  (h4:(sc.names.all λ y=>y.2 != .free||(X.env.kindOf y.1==some .cell||X.env.kindOf y.1==some .free))=true)(h5:js.length=N.length)(h6:aKZ X.N N js ks sc=true):gU X sc N (stV js) ks:=by
 refine⟨h1,λ y hy e=>?_,λ y hy e=>?_,λ y hy e=>?_,λ σ=>by unfold stV;rw[List.length_map];exact h5,λ σ i x v e1 e2=>?_⟩
 ·have:=List.all_eq_true.mp h2 y hy
  rw[e]at this;simpa using this
 ·have:=List.all_eq_true.mp h3 y hy
  rw[e]at this;simpa using this
 ·have:=List.all_eq_true.mp h4 y hy
  rw[e]at this;simpa using this
 ·unfold stV at e2
  rw[List.getElem?_map]at e2;cases ej:js[i]? with
  |none=>rw[ej]at e2;cases e2
  |some o=>
   rw[ej]at e2;cases o with
   |none=>cases e2
   |some j=>
    have hi:i<js.length:=(List.getElem?_eq_some_iff.mp ej).1
    have:=List.all_eq_true.mp h6 i (List.mem_range.mpr hi)
    rw[ej,e1]at this;dsimp only at this;cases ey:X.N[j]? with
    |none=>rw[ey]at this;cases this
    |some y=>
     rw[ey]at this;simp only[Bool.and_eq_true,beq_iff_eq,Bool.not_eq_true']at this;obtain⟨⟨h,h'⟩,h''⟩:=this;subst h;refine⟨h',λ hk=>?_,j,ey,?_⟩
     ·rw[List.contains_iff_mem.mpr hk]at h'';cases h''
     ·simp only[Option.map_some,Option.bind_some,Option.some.injEq]at e2
      cases es:σ[j]? with
      |none=>rw[es]at e2;cases e2
      |some w=>rw[es]at e2;simp at e2;subst e2;rfl
abbrev Ct.blk(C:Ct)(sc:Scope)(N:List Str):Ct where
 ι:=C.ι×Addr×List Addr×Shared×Hp
 X:=λ i=>(C.X i.1).block sc i.2.1 N i.2.2.1 i.2.2.2.1 i.2.2.2.2
 prog:=C.prog
 w:=C.w
 K:=C.K
 mg:=C.mg
 base:=C.base
 k:=C.k
 G:={C.G with E:=λ _ _ _=>False}
 cx:=λ i=>C.cx i.1
 calm:=λ i=>C.calm i.1
 room:=λ i=>C.room i.1
 own:=λ i=>PassesOwn.never
 pass:=λ i pins σ H s e s' I h=>by obtain⟨_,_,_,_,_,_,_,_,_,_,_,_,_,hE⟩:=h;exact hE
 dOk:=false
 dcx:=λ h=>absurd h Bool.false_ne_true
def lcL(ρ:En)(fg:D->En->Rs En)(ft:En->Rs Bool)(fe:En->Rs D):List D->Rs (List D)
 |[]=>.ok []
 |d::ds=>(fg d ρ).bd λ ρ1=>(ft ρ1).bd λ k=>if k=true then(fe ρ1).bd λ y=>(lcL ρ fg ft fe ds).bd λ ys=>.ok (y::ys)else lcL ρ fg ft fe ds
def lcD(fi:En->Rs (List D))(js:List (Option Nat))(fg:D->En->Rs En)(ft:En->Rs Bool)(fe:En->Rs D):En->Rs D:=λ ρ=>(fi (shE ρ)).bd λ ds=>
 if ds.length<sizeLine then(match lcL (stE js (shE ρ)) fg ft fe ds with
  | .ok l=>.ok (.lst l)
  |_=>.st)else .st
def aGo(C:Ct)(ifs:List Expr)(f:En->Rs Bool):Prop:=∃t,(∀i,aCm (C.X i) ifs t)/\aCk C.K C.G t f
def je:En->Rs Bool:=λ _=>.ok true
theorem ou:aGo C [] je:=⟨_,λ _=>aIA,λ τ σ H ρ lab Q R W=>W H (aU.refl H)⟩
theorem aDH(h:ST C c f):aGo C [c] f:=let⟨t,h1,h2⟩:=h;⟨t,λ i=>aHz (h1 i),h2⟩
theorem aED(h:lcL ρ fg ft fe (d::ds)= .ok l):
  ∃ρ1 k,fg d ρ= .ok ρ1/\ft ρ1= .ok k/\((k=true/\∃y ys,fe ρ1= .ok y/\lcL ρ fg ft fe ds= .ok ys/\l=y::ys)\/(k=false/\lcL ρ fg ft fe ds= .ok l)):=by
 unfold lcL at h;obtain⟨ρ1,e1,h⟩:=dU h;obtain⟨k,e2,h⟩:=dU h;refine⟨ρ1,k,e1,e2,?_⟩;cases k with
 |true=>
  rw[if_pos rfl]at h;obtain⟨y,e3,h⟩:=dU h;obtain⟨ys,e4,h⟩:=dU h;cases h;exact .inl ⟨rfl,y,ys,e3,e4,rfl⟩
 |false=>
  rw[if_neg Bool.false_ne_true]at h;exact .inr ⟨rfl,h⟩
theorem RR.but_blk{K:PySem.W.Frag}{τ:List (V×D)}(R:RR K G τ (stE js (VL.shE ρ)) σ H (λ p=>if p=l then(2,0)else(0,0)))(B:kJ l H H')(hl:H l=some o)(ho:jF o=true)(h0:G.H0 l=none):
  RR K G τ (stE js (VL.shE ρ)) σ H' (λ p=>if p=l then(2,0)else(0,0)):=by
 have lab1l:¬((λ p=>if p=l then((2,0):Nat×Nat)else(0,0)) l).1<=1:=by simp
 refine⟨R.len,λ j s e=>?_,λ b o hb=>?_,R.new,λ q hq=>(R.tm q hq).but B hl ho lab1l⟩
 ·rcases R.sl j s e with z|⟨u,e1,e2⟩
  ·exact .inl z
  ·refine .inr ⟨u,e1,?_⟩
   rcases aCy e with rfl|⟨jx,ej,es⟩
   ·trivial
   ·unfold VL.shE at es
    rw[List.getElem?_map]at es;cases e0:ρ[jx]? with
    |none=>rw[e0]at es;cases es
    |some s0=>rw[e0]at es;cases es;cases s0<;>first|trivial|exact Rp.but B hl ho lab1l e2
 ·exact B b o (λ z=>by subst z;rw[h0]at hb;cases hb) (R.old b o hb)
theorem RR.blk0{K:PySem.W.Frag}(R:RR K G τ (VL.shE ρ) σ H lab)(hG:G'.H0=G.H0):RR K G' τ (VL.shE ρ) σ H (λ _=>(0,0)):=by
 refine⟨R.len,λ i s e=>?_,by rw[hG];exact R.old,λ p hp=>absurd rfl hp,λ q hq=>(R.tm q hq).wk λ _ _ _ _=>Nat.zero_le _⟩;rcases R.sl i s e with rfl|⟨v,ev,hv⟩
 ·exact .inl rfl
 ·unfold VL.shE at e
  rw[List.getElem?_map]at e;cases e0:ρ[i]? with
  |none=>rw[e0]at e;cases e
  |some s0=>rw[e0]at e;cases e;cases s0<;>first|exact .inl rfl|exact .inr ⟨v,ev,Rp.wk (λ _ _ _ _=>Nat.zero_le _) hv⟩
section
variable{K:PySem.W.Frag}{G:Gx}{wi:TI}{fi:En->Rs (List D)}{js:List (Option Nat)}{g:TG}{fg:D->En->Rs En}{tt:TT}{ft:En->Rs Bool}{te:TE}{fe:En->Rs D}
theorem aDF(hi:aJB K G wi fi)(hg:aJC K {G with E:=λ _ _ _=>False} g fg)(ht:aCk K {G with E:=λ _ _ _=>False} tt ft)(he:jR K {G with E:=λ _ _ _=>False} (some []) te fe):
  jR K G (some []) (tLC wi (stV js) g tt te) (lcD fi js fg ft fe):=by
 intro τ σ H ρ lab Q R W;refine hi τ σ H _ _ _ R.shE (W.bd.imp λ ds _ w J H1 lab1 τ1 s1 _ R1 jl=>?_);intro l hl;obtain⟨hlen,out,hout,w⟩:ds.length<sizeLine/\∃out,lcL (stE js (VL.shE ρ)) fg ft fe ds= .ok out/\QE K (some []) lab H Q (.lst out):=by
  by_cases hlen:ds.length<sizeLine
  ·rw[if_pos hlen]at w
   cases hout:lcL (stE js (VL.shE ρ)) fg ft fe ds with
   |ok out=>rw[hout]at w;exact⟨hlen,out,rfl,w⟩
   |ex c=>rw[hout]at w;exact False.elim w
   |st=>rw[hout]at w;exact False.elim w
  ·rw[if_neg hlen]at w
   exact False.elim w
 have R0:RR K {G with E:=λ _ _ _=>False} (τ1++τ) (VL.shE ρ) σ H1 (λ _=>(0,0)):=R1.blk0 rfl;have RB:=R0.block (js:=js) (λ _=>Nat.zero_le _) hl;have hHl:H l=none:=s1.free hl;have lab1l:¬((λ p=>if p=l then((2,0):Nat×Nat)else(0,0)) l).1<=1:=by simp
 refine⟨λ i n acc H2=>∃pre,n=ds.length-i/\i<=ds.length/\H2 l=some (.lst acc)/\RR K {G with E:=λ _ _ _=>False} (τ1++τ) (stE js (VL.shE ρ)) (stV js σ) H2 (λ p=>if p=l then(2,0)else(0,0))/\aU H H2/\acc.length<=i/\
  Rps K (λ p=>H p=none/\p≠l) H2 acc pre/\∃post,lcL (stE js (VL.shE ρ)) fg ft fe (ds.drop i)= .ok post/\out=pre++post,⟨ds.length,[],by lia,by lia,ao,RB.up (bO hl _),s1.trans (bO hl _),Nat.le_refl _,.nil,out,hout,rfl⟩,?_⟩
 rintro i n acc H2 ⟨pre,rfl,hi,hH2,R2,s2,hacc,rpre,post,hpost,eout⟩;refine⟨hH2,by lia,?_⟩;have jj:=jl _ H2 λ q hq=>R2.tm q (List.mem_append_left _ hq)
 by_cases hlt:i<ds.length
 ·obtain⟨go,yl⟩:=(jj i).2 hlt
  refine .inr ⟨go,λ x H3 hy=>?_⟩;obtain⟨s3,d,ed,rx⟩:=yl x H3 hy;replace R2:=R2.up s3;replace hH2:=s3 _ _ hH2;replace s2:=s2.trans s3;replace rpre:=rpre.up s3;have ed2:ds.drop i=d::ds.drop (i+1):=by
   rw[List.drop_eq_getElem_cons hlt]
   have:=List.getElem?_eq_getElem hlt
   rw[ed]at this;cases this;rfl
  rw[ed2]at hpost;obtain⟨ρ1,k,e1,e2,e3⟩:=aED hpost;refine hg (τ1++τ) x d _ H3 _ _ _ ρ1 R2 rx e1 λ σ4 R4=>?_
  refine ht (τ1++τ) σ4 H3 ρ1 _ _ R4 ?_;rw[e2];intro H5 s5;rcases e3 with ⟨rfl,y,ys,e3,e4,rfl⟩|⟨rfl,e4⟩
  ·rw[if_pos rfl]
   refine he (τ1++τ) σ4 H5 ρ1 _ _ (R4.up s5) ?_;rw[e3];intro v H6 s6 r6;have hl6:H6 l=some (.lst acc):=s6 _ _ (s5 _ _ hH2);have B:kJ l H6 (upd H6 l (.lst (acc++[v]))):=λ b o ne hb=>by rw[aa ne];exact hb
   refine⟨hl6,ds.length-(i+1),by lia,pre++[y],rfl,hlt,ao,?_,?_,by rw[List.length_append];simp;lia,?_,ys,e4,by rw[eout];simp⟩
   ·exact(R2.up (s5.trans s6)).but_blk B hl6 rfl (R1.old.free hl)
   ·exact λ b o hb=>B b o (λ z=>by subst z;rw[hHl]at hb;cases hb) (((s2.trans s5).trans s6) b o hb)
   ·refine((rpre.up (s5.trans s6)).append (.cons (r6.wk λ p o _ z=>?_) .nil)).but B hl6 rfl λ z=>z.2 rfl
    rcases z with z|z
    ·exact⟨(s2.trans s5).free z,λ e=>by subst e;rw[s5 _ _ hH2]at z;cases z⟩
    ·cases z
  ·rw[if_neg Bool.false_ne_true]
   exact⟨ds.length-(i+1),by lia,pre,rfl,hlt,s5 _ _ hH2,R2.up s5,s2.trans s5,by lia,rpre.up s5,post,e4,eout⟩
 ·have ei:i=ds.length:=by lia
  subst ei;rw[List.drop_length]at hpost;cases hpost;rw[List.append_nil]at eout;subst eout;exact .inl ⟨(jj _).1 (Nat.le_refl _),w _ H2 s2 (.lst hH2 (.inl hHl) (rpre.wk λ p o _ z=>⟨.inl z.1,z.2⟩))⟩
end
section
variable{C:Ct}{pos:Pos}{elt tg iter:Expr}{ifs:List Expr}{sc:Scope}{N:List Str}{js:List (Option Nat)}{ks:List Nat}{fi:En->Rs (List D)}{fg:D->En->Rs En}{ft:En->Rs Bool}{fe:En->Rs D}
theorem fB{C:Ct}(nd:N.Nodup:=by decide+kernel)(hk:i∈ks:=by decide)(hN:∀j,((C.blk sc N).X j).N[i]? =some x:=by intro _;rfl)(hx:∀j,Loc ((C.blk sc N).X j).env.scope x:=by intro _;first|exact Or.inl rfl|exact Or.inr rfl)
  (hf:∀j,((C.blk sc N).X j).fn x=true\/((C.blk sc N).X j).env.scope.names.lookup x=some .local:=by intro _;first|exact .inl rfl|exact .inr rfl):SG (C.blk sc N) (.Name x pos) ks (gnm i):=
 bV hN hx hf (λ _=>nd) hk
theorem vG(hi:SI C tg iter fi)(hg:SG (C.blk sc N) tg ks fg)(ht:aGo (C.blk sc N) ifs ft)(he:SE (C.blk sc N) (some []) elt fe)(hs:∀i x,foldedSetIterable iter (C.X i).env x=pure x:=by intro _ _;rfl)(hB:∀i,gU (C.X i) sc N (stV js) ks:=by intro _;exact aBD rfl rfl rfl rfl rfl rfl):SE C (some []) (.ListComp elt [⟨tg,iter,ifs,0⟩] sc pos) (lcD fi js fg ft fe):=by
 obtain⟨wi,i1,i2⟩:=hi;obtain⟨g,g1,g2,g3,g4⟩:=hg;obtain⟨tt,t1,t2⟩:=ht;obtain⟨te,e1,e2⟩:=he;exact⟨_,λ i=>aJ9 (hB i) (C.calm i) (i1 i) (λ c fp s₀ H₀=>g1 (i,c,fp,s₀,H₀)) g3 (λ c fp s₀ H₀=>t1 (i,c,fp,s₀,H₀)) (λ c fp s₀ H₀=>e1 (i,c,fp,s₀,H₀)) (hs i),aDF i2 g2 t2 e2⟩
theorem aJR(hi:SI C tg iter fi)(hg:SG (C.blk sc N) tg ks fg)(ht:aGo (C.blk sc N) ifs ft)(he:SE (C.blk sc N) (some []) elt fe)(hN:∀j,(C.X j).N[i]? =some x:=by intro _;rfl)(hx:∀j,Loc (C.X j).env.scope x:=by intro _;first|exact Or.inl rfl|exact Or.inr rfl)(hsw:∀j,swapsWith (.ListComp elt [⟨tg,iter,ifs,0⟩] sc pos) (some (.Name x pos')) spos.line (C.X j).env=pure true:=by intro _;rfl)(hs:∀i x,foldedSetIterable iter (C.X i).env x=pure x:=by intro _ _;rfl)(hf:∀j,(C.X j).fn x=true\/(C.X j).env.scope.names.lookup x=some .local:=by intro _;first|exact .inl rfl|exact .inr rfl)(nd:∀j,(C.X j).N.Nodup:=by intro _;assumption)(hB:∀i,gU (C.X i) sc N (stV js) ks:=by intro _;exact aBD rfl rfl rfl rfl rfl rfl):
  SV C i (.Assign [.Name x pos'] (.ListComp elt [⟨tg,iter,ifs,0⟩] sc pos) spos) (some []) (lcD fi js fg ft fe):=by
 obtain⟨wi,i1,i2⟩:=hi;obtain⟨g,g1,g2,g3,g4⟩:=hg;obtain⟨tt,t1,t2⟩:=ht;obtain⟨te,e1,e2⟩:=he;exact⟨_,λ j=>yj (nd j) (hN j) (hx j) (hB j) (C.calm j) (i1 j) (λ c fp s₀ H₀=>g1 (j,c,fp,s₀,H₀)) g3 (λ c fp s₀ H₀=>t1 (j,c,fp,s₀,H₀)) (λ c fp s₀ H₀=>e1 (j,c,fp,s₀,H₀)) (hsw j) (hs j) (hf j),aDF i2 g2 t2 e2⟩
end
section
variable{K:PySem.W.Frag}{G:Gx}{wi:TI}{fi:En->Rs (List D)}{js:List (Option Nat)}{g:TG}{fg:D->En->Rs En}{tt:TT}{ft:En->Rs Bool}{te:TE}{fe:En->Rs D}{m:Mode}
end
section
variable{C:Ct}{pos:Pos}{elt tg iter:Expr}{ifs:List Expr}{sc:Scope}{N:List Str}{js:List (Option Nat)}{ks:List Nat}{fi:En->Rs (List D)}{fg:D->En->Rs En}{ft:En->Rs Bool}{fe:En->Rs D}{m:Mode}
end
theorem RR.mut{K:PySem.W.Frag}(R:RR K G τ ρ σ H lab)(ev:σ[i]? =some (some v))(hl:H l=some o)(ho:jF o=true)(hlab:(lab l).1=i+2)
  (B:kJ l H H')(h':cV K H' lab i v s'):RR K G τ (ρ.set i s') σ H' lab:=by
 refine⟨by rw[List.length_set];exact R.len,λ j x e=>?_,λ b u hb=>B b u (λ z=>?_) (R.old b u hb),R.new,λ q hq=>(R.tm q hq).but B hl ho λ z=>by lia⟩
 ·by_cases hj:i=j
  ·subst hj
   have hi:i<ρ.length:=by
    have:=(List.getElem?_eq_some_iff.mp e).1
    rwa [List.length_set]at this
   rw[List.getElem?_set_self hi]at e;cases e;exact .inr ⟨v,ev,h'⟩
  ·rw[List.getElem?_set_ne hj]at e
   rcases R.sl j x e with z|⟨u,e1,e2⟩
   ·exact .inl z
   ·refine .inr ⟨u,e1,?_⟩
    cases x with
    |no=>trivial
    |sh d=>exact Rp.but B hl ho (λ z=>by lia) e2
    |nw d=>exact Rp.but B hl ho (λ z=>by lia) e2
    |ow d=>exact⟨Rp.but B hl ho (λ z=>by lia) e2.1,e2.2⟩
    |oz d=>
     obtain⟨a,xs,ds,q1,q2,q3,q4,q5⟩:=e2;exact⟨a,xs,ds,q1,q2,B a _ (λ z=>by subst z;exact hj (by lia)) q3,q4,Rps.but B hl ho (λ z=>by lia) q5⟩
    |o2 ll=>
     obtain⟨a,xs,q1,q2,q3,q4,q5⟩:=e2;refine⟨a,xs,q1,B a _ (λ z=>?_) q2,q3,q4,λ jj y ds f1 f2=>(q5 jj y ds f1 f2).but B hl ho λ z=>?_⟩
     ·rw[z]at q3;rw[q3]at hlab;exact hj (by simpa using hlab.symm)
     ·rw[z]at hlab;exact hj (by simpa using hlab.symm)
 ·subst z
  have:=R.new b (by rw[hlab];lia)
  rw[this]at hb;cases hb
section
variable{C:Ct}{pos apos cpos p:Pos}{e a:Expr}{fe fa:En->Rs D}{i:Nat}{x:Str}{m:Mode}
def kh(i:Nat)(fe:En->Rs D):En->Ou:=λ ρ=>match ρ[i]? with
 |some (.ow (.lst ds))=>(fe ρ).bo λ d=>if ds.length<sizeLine then .nx (ρ.set i (.ow (.lst (ds++[d]))))else .st
 |_=>.st
theorem jT(i:Nat)(he:SE C m e fe)(hm:okN m=true:=by rfl)(hN:∀j,(C.X j).N[i]? =some x:=by intro _;rfl)(hv:∀j,Vis (C.X j).env.scope x:=by intro _;first|exact Or.inl rfl|exact Or.inr (Or.inl rfl)|exact Or.inr (Or.inr rfl))(hd:(x==("__debug__":Str))=false:=by decide)
  (hcd:(x==("__classdict__":Str))=false:=by decide)(hs1:∀j,starEach [e] (C.X j).env=[(false,eval e (C.X j).env)]:=by intro _;rfl)
  (hbase:∀j,attributeBase (.Name x p) "append" (C.X j).env (eval (.Name x p) (C.X j).env)=eval (.Name x p) (C.X j).env:=by intro _;rfl)
  (hfew:∀j,((backTo cpos (starEach [e] (C.X j).env)).all (λ x=>!x.1)&&(backToKw cpos (keywordEach [] (C.X j).env)).all (λ x=>x.1.isSome)&&decide ([e].length+([]:List Keyword).length+(if ([]:List Keyword).isEmpty then 0 else 1)<30))=true:=by intro _;rfl)
  (hline:(apos.endLine==cpos.line)=true:=by rfl)
  (hsw:∀j,swapsWith (.Call (.Attribute (.Name x p) "append" apos) [e] [] cpos) none pos.line (C.X j).env=pure false:=by intro _;rfl):
  SS C (.Expr (.Call (.Attribute (.Name x p) "append" apos) [e] [] cpos) pos) (kh i fe):=by
 obtain⟨t,h1,h2⟩:=he;refine⟨rT (tBM C.K "list" sW (km i) (gZ t lA)),λ j=>lq (by rw[<-C.hK j];exact vK PySem.F.plainAttrs_list PySem.F.slot_list_append PySem.F.type_list_append tM (fD (hN j) (hv j) hd hcd) (aZ (h1 j) cF (hs1 j)) (hbase j) (hfew j) hline (hs1 j) rfl) (hsw j),λ τ σ H ρ lab De R W=>?_⟩;unfold kh at W;cases es:ρ[i]? with
 |none=>rw[es]at W;exact False.elim W
 |some s=>
  rw[es]at W;split at W
  ·rename_i ds hs
   cases hs;rcases R.sl i _ es with z|⟨v,ev,hv'⟩
   ·cases z
   ·obtain⟨hv1,htop⟩:=hv'
    obtain⟨a0,ea0,la0⟩:=htop rfl;subst ea0;cases hv1 with
    |lst h mm r=>
     rename_i xs;refine⟨.ref a0,ev,.inl ⟨rfl,xs,SqL.of h⟩,h2 τ σ H ρ lab _ R (W.bo.imp λ d _ w y H2 s2 r2=>?_)⟩;by_cases hz:ds.length<sizeLine
     ·rw[if_pos hz]at w
      refine⟨a0,xs,y,rfl,rfl,s2 _ _ h,by rw[r.length];exact hz,λ H3 B h3=>?_⟩;obtain⟨R',r'⟩:=R.fresh (P:=λ k=>k=1) rfl (λ k hk=>beq_iff_eq.mp (lw hm k hk)) s2 r2;have la:(bc H 1 lab a0).1=i+2:=by rw[bM h];exact la0
      refine w σ H3 _ (R'.mut ev (s2 _ _ h) rfl la B ⟨.lst h3 (.inr la) ?_,λ _=>⟨a0,rfl,la⟩⟩);have ra:Rps C.K (λ p=>((bc H 1 lab p).1=1\/(bc H 1 lab p).1=i+2)/\p≠a0) H2 (xs++[y]) (ds++[d]):=by
       refine(r.mono s2 λ p o e z=>⟨by rw[bM e];exact z.1,z.2⟩).append (.cons (r'.wk λ p o e z=>⟨.inl z,λ q=>?_⟩) .nil);subst q;rw[la]at z;lia
      exact ra.but B (s2 _ _ h) rfl λ z=>z.2 rfl
     ·rw[if_neg hz]at w
      exact False.elim w
  ·exact False.elim W
def at2(ll:List (List D)):D->Option (Nat×List D)
 | .int n=>(ixN ll.length n).bind λ j=>(ll[j]?).map λ ds=>(j,ds)
 |_=>none
def mq(i:Nat)(fa fe:En->Rs D):En->Ou:=λ ρ=>match ρ[i]? with
 |some (.o2 ll)=>(fa ρ).bo λ k=>match at2 ll k with
  |some (j,ds)=>(fe ρ).bo λ d=>if ds.length<sizeLine then .nx (ρ.set i (.o2 (ll.set j (ds++[d]))))else .st
  |none=>.st
 |_=>.st
theorem aEr(h:at2 ll k=some (j,ds)):∃n,k= .int n/\ixN ll.length n=some j/\ll[j]? =some ds:=by
 cases k with
 |int n=>
  simp only[at2,Option.bind_eq_some_iff,Option.map_eq_some_iff]at h;obtain⟨j',h1,ds',h2,h3⟩:=h;cases h3;exact⟨n,rfl,h1,h2⟩
 |_=>cases h
theorem rY(i:Nat){p2:Pos}(ha:SE C m a fa)(he:SE C (some []) e fe)(hN:∀j,(C.X j).N[i]? =some x:=by intro _;rfl)(hv:∀j,Vis (C.X j).env.scope x:=by intro _;first|exact Or.inl rfl|exact Or.inr (Or.inl rfl)|exact Or.inr (Or.inr rfl))(hd:(x==("__debug__":Str))=false:=by decide)
  (hcd:(x==("__classdict__":Str))=false:=by decide)(hs1:∀j,starEach [e] (C.X j).env=[(false,eval e (C.X j).env)]:=by intro _;rfl)(hp:yK a:=by exact λ _ _=>rfl)
  (hbase:∀j,attributeBase (.Subscript (.Name x p) a p2) "append" (C.X j).env (eval (.Subscript (.Name x p) a p2) (C.X j).env)=eval (.Subscript (.Name x p) a p2) (C.X j).env:=by intro _;rfl)
  (hfew:∀j,((backTo cpos (starEach [e] (C.X j).env)).all (λ x=>!x.1)&&(backToKw cpos (keywordEach [] (C.X j).env)).all (λ x=>x.1.isSome)&&decide ([e].length+([]:List Keyword).length+(if ([]:List Keyword).isEmpty then 0 else 1)<30))=true:=by intro _;rfl)
  (hline:(apos.endLine==cpos.line)=true:=by rfl)
  (hsw:∀j,swapsWith (.Call (.Attribute (.Subscript (.Name x p) a p2) "append" apos) [e] [] cpos) none pos.line (C.X j).env=pure false:=by intro _;rfl):
  SS C (.Expr (.Call (.Attribute (.Subscript (.Name x p) a p2) "append" apos) [e] [] cpos) pos) (mq i fa fe):=by
 obtain⟨t,h1,h2⟩:=he;obtain⟨ta,a1,a2⟩:=ha;refine⟨rT (tBM C.K "list" sW (tOp (aHp C.K) (km i) ta) (gZ t lA)),λ j=>lq (by rw[<-C.hK j];exact vK PySem.F.plainAttrs_list PySem.F.slot_list_append PySem.F.type_list_append tM (aDd xV (fD (hN j) (hv j) hd hcd) (a1 j) hp) (aZ (h1 j) cF (hs1 j)) (hbase j) (hfew j) hline (hs1 j) rfl) (hsw j),λ τ σ H ρ lab De R W=>?_⟩;unfold mq at W;cases es:ρ[i]? with
 |none=>rw[es]at W;exact False.elim W
 |some s=>
  rw[es]at W;cases s with
  |o2 ll=>
   dsimp only at W;rcases R.sl i _ es with z|⟨v,ev,top,xs,rfl,ht,hlt,hlen,hin⟩
   ·cases z
   ·refine⟨.ref top,ev,a2 τ σ H ρ lab _ R (W.bo.imp λ k _ w kv H1 s1 r1=>?_)⟩
    cases hk:at2 ll k with
    |none=>rw[hk]at w;exact False.elim w
    |some q=>
     obtain⟨j,ds⟩:=q;rw[hk]at w;dsimp only at w;obtain⟨n,rfl,hj,hds⟩:=aEr hk;cases r1;have hjx:∃xj,xs[j]? =some xj:=by
      have:j<xs.length:=by rw[hlen];exact(List.getElem?_eq_some_iff.mp hds).1
      exact⟨_,List.getElem?_eq_getElem this⟩
     obtain⟨xj,hxj⟩:=hjx;have hr:=hin j xj ds hxj hds;cases hr with
     |lst hl ml rl=>
      rename_i l ys;refine⟨top,xs,n,.ref l,rfl,rfl,SqL.of (s1 _ _ ht),by unfold atI;rw[hlen,hj];exact hxj,.inl ⟨rfl,ys,SqL.of (s1 _ _ hl)⟩,h2 τ σ H1 ρ lab _ (R.up s1) (w.bo.imp λ d _ w y H2 s2 r2=>?_)⟩;by_cases hz:ds.length<sizeLine
      ·rw[if_pos hz]at w
       have s12:=s1.trans s2;refine⟨l,ys,y,rfl,rfl,s12 _ _ hl,by rw[rl.length];exact hz,λ H3 B h3=>?_⟩;have ltop:l≠top:=λ e=>by rw[e,hlt]at ml;cases ml
       let lab':Lab:=λ p=>match H1 p with
        |none=>(i+2,j+1)
        |some _=>lab p
       have lo:∀{p o},H1 p=some o->lab' p=lab p:=λ{p o} e=>by show(match H1 p with|none=>_|some _=>_)=_;rw[e]
       have ln:∀{p},H1 p=none->lab' p=(i+2,j+1):=λ{p} e=>by show(match H1 p with|none=>_|some _=>_)=_;rw[e]
       have R':RR C.K C.G τ ρ σ H2 lab':=((R.up s1).relab (λ p o e=>lo e) λ p hp=>by
        cases e:H1 p with
        |none=>exact(R.old.trans s1).free e
        |some o=>rw[lo e]at hp;exact R.new p hp).up s2
       have labl:lab' l=(i+2,j+1):=by rw[lo (s1 _ _ hl)];exact ml
       refine w σ H3 lab' (R'.mut ev (s12 _ _ hl) rfl (by rw[labl]) B ⟨top,xs,rfl,B _ _ (Ne.symm ltop) (s12 _ _ ht),by rw[lo (s1 _ _ ht)];exact hlt,by rw[List.length_set];exact hlen,λ jj z dz f1 f2=>?_⟩);by_cases hjj:j=jj
       ·subst hjj
        rw[hxj]at f1;cases f1;rw[List.getElem?_set_self (List.getElem?_eq_some_iff.mp hds).1]at f2;cases f2;refine .lst h3 labl ?_;have ra:Rps C.K (λ p=>lab' p=(i+2,j+1)/\p≠l) H2 (ys++[y]) (ds++[d]):=by
         refine(rl.mono s12 λ p o e z=>⟨by rw[lo (s1 _ _ e)];exact z.1,z.2⟩).append (.cons (r2.wk λ p o e z=>?_) .nil);rcases z with z|z
         ·exact⟨ln z,λ q=>by subst q;rw[s1 _ _ hl]at z;cases z⟩
         ·cases z
        exact ra.but B (s12 _ _ hl) rfl λ z=>z.2 rfl
       ·rw[List.getElem?_set_ne hjj]at f2
        refine((hin jj z dz f1 f2).mono s12 (A':=λ p=>lab' p=(i+2,jj+1)) λ p o e q=>by rw[lo (s1 _ _ e)];exact q).but B (s12 _ _ hl) rfl λ q=>?_
        rw[labl]at q;simp only[Prod.mk.injEq]at q;lia
      ·rw[if_neg hz]at w
       exact False.elim w
  |_=>exact False.elim W
end
mutual
def eqD:D->D->Bool
 | .non,.non=>true
 | .bl a,.bl b=>a==b
 | .bl a,.int b=>(if a then 1 else 0)==b
 | .int a,.bl b=>a==(if b then 1 else 0)
 | .int a,.int b=>a==b
 | .str a,.str b=>a==b
 | .tup l,.tup m=>fO l m
 | .lst l,.lst m=>fO l m
 |_,_=>false
def fO:List D->List D->Bool
 |[],[]=>true
 |x::xs,y::ys=>eqD x y&&fO xs ys
 |_,_=>false
end
mutual
def fP:D->Nat
 | .tup l=>bW l+1
 | .lst l=>bW l+1
 |_=>0
def bW:List D->Nat
 |[]=>0
 |d::r=>max (fP d) (bW r)
end
mutual
def aQ:D->Bool
 | .tup l=>aj l
 | .lst l=>aj l
 | .dct _ _=>false
 | .set _=>false
 | .scr _=>false
 | .fn _=>false
 |_=>true
def aj:List D->Bool
 |[]=>true
 |d::r=>aQ d&&aj r
end
mutual
theorem iW:∀d:D,aQ d=true->eqD d d=true
 | .non,_=>by simp[eqD]
 | .bl b,_=>by simp[eqD]
 | .int i,_=>by simp[eqD]
 | .str x,_=>by simp[eqD]
 | .tup l,h=>by simp only[eqD];exact fW l (by simpa[aQ]using h)
 | .lst l,h=>by simp only[eqD];exact fW l (by simpa[aQ]using h)
 | .dct _ _,h=>by simp[aQ]at h
 | .set _,h=>by simp[aQ]at h
 | .scr _,h=>by simp[aQ]at h
theorem fW:∀l:List D,aj l=true->fO l l=true
 |[],_=>by simp[fO]
 |d::r,h=>by
  simp only[aj,Bool.and_eq_true]at h;simp only[fO,Bool.and_eq_true];exact⟨iW d h.1,fW r h.2⟩
end
structure jc(K:PySem.W.Frag)(H:Hp)(s:Shared):Prop where
 tup:∀{a:Addr} {xs:List V},SqT K H a xs->∃its:List Value,Vals xs its/\s.heap.IsTuple a its.toArray
 lst:∀{a:Addr} {xs:List V},H a=some (.lst xs)->∃its:List Value,Vals xs its/\s.heap.IsList a its.toArray
 inj:∀{a:Addr} {xs ys:List V},SqT K H a xs->SqT K H a ys->xs=ys
 ne:∀{a:Addr} {xs ys:List V},SqT K H a xs->H a=some (.lst ys)->False
theorem Inv.seqOk(I:L2.Inv X pins σ H s):jc X.K H s where
 tup:=λ h=>let⟨its,r,p,_⟩:=I.tuple h;⟨its,r,p⟩
 lst:=λ h=>let⟨its,r,p,_⟩:=I.list (SqL.of h);⟨its,r,p.isList⟩
 inj:=λ h h'=>I.tuple_inj h h'
 ne:=λ h h'=>by
  obtain⟨its,_,⟨o,e,c,_⟩,_⟩:=I.tuple h;obtain⟨its2,_,⟨o2,n2,e2,c2,_⟩,_⟩:=I.list (SqL.of h');rw[e]at e2;cases e2;rw[c]at c2;injection c2 with c3
  exact absurd c3 (by decide)
section
variable{K:PySem.W.Frag}{H:Hp}{s:Shared}
theorem aV(h:aQ (.dct a b)=true):False:=by simp[aQ]at h
theorem bI(h:aQ (.set a)=true):False:=by simp[aQ]at h
theorem bJ(h:aQ (.scr a)=true):False:=by simp[aQ]at h
theorem bT(h:aQ (.fn a)=true):False:=by simp[aQ]at h
theorem gm(h:aQ (.tup a)=true):aj a=true:=by simpa[aQ]using h
theorem gn(h:aQ (.lst a)=true):aj a=true:=by simpa[aQ]using h
theorem jD(h:aj (d::a)=true):aQ d=true/\aj a=true:=by
 simp only[aj,Bool.and_eq_true]at h;exact h
def aGs(K:PySem.W.Frag)(s:Shared)(H:Hp)(x:V)(d:D):Prop:=jc K H s->∀(A':Addr->Prop) (e:D),Rp K A' H x e->aQ d=true->aQ e=true->d=e
def zr(K:PySem.W.Frag)(s:Shared)(H:Hp)(xs:List V)(ds:List D):Prop:=jc K H s->∀(A':Addr->Prop) (es:List D),Rps K A' H xs es->aj ds=true->aj es=true->ds=es
theorem aGS(ha:SqT K H a xs)(ih:zr K s H xs ds):aGs K s H (.ref a) (.tup ds):=λ ok A' e h n1 n2=>by
 cases h with
 |tup hb r'=>
  have e:=ok.inj ha hb;subst e;rw[ih ok _ _ r' (gm n1) (gm n2)]
 |lst hb _ _=>exact(ok.ne ha hb).elim
 |dK _ _ _=>exact(aV n2).elim
 |dT _ _ _=>exact(aV n2).elim
 |set _ _ _ _=>exact(bI n2).elim
 |scr _=>exact(bJ n2).elim
 |fn _=>exact(bT n2).elim
theorem aGT(ha:H a=some (.lst xs))(ih:zr K s H xs ds):aGs K s H (.ref a) (.lst ds):=λ ok A' e h n1 n2=>by
 cases h with
 |tup hb r'=>exact(ok.ne hb ha).elim
 |lst hb _ r'=>
  rw[ha]at hb;cases hb;rw[ih ok _ _ r' (gn n1) (gn n2)]
 |dK _ _ _=>exact(aV n2).elim
 |dT _ _ _=>exact(aV n2).elim
 |set _ _ _ _=>exact(bI n2).elim
 |scr _=>exact(bJ n2).elim
 |fn _=>exact(bT n2).elim
theorem aET(h1:aGs K s H x d)(h2:zr K s H xs ds):zr K s H (x::xs) (d::ds):=λ ok A' es h n1 n2=>by
 cases h with
 |cons k r'=>rw[h1 ok _ _ k (jD n1).1 (jD n2).1,h2 ok _ _ r' (jD n1).2 (jD n2).2]
theorem Rp.inj(ok:jc K H s)(r:Rp K A H x d)(h:Rp K A' H x e)(n1:aQ d=true)(n2:aQ e=true):d=e:=
 Rp.rec (motive_1:=λ _ H x d _=>aGs K s H x d) (motive_2:=λ _ H xs ds _=>zr K s H xs ds)
  (λ _ _ _ h _ _=>by cases h;rfl) (λ _ _ _ _ h _ _=>by cases h;rfl) (λ _ _ _ _ h _ _=>by cases h;rfl) (λ _ _ _ _ h _ _=>by cases h;rfl) (λ ha _ ih=>aGS ha ih) (λ ha _ _ ih=>aGT ha ih)
  (λ _ _ _ _ _ _ _ _ n1 _=>(aV n1).elim) (λ _ _ _ _ _ _ _ _ n1 _=>(aV n1).elim) (λ _ _ _ _ _ _ _ _ n1 _=>(bI n1).elim) (λ _ _ _ _ _ n1 _=>(bJ n1).elim) (λ _ _ _ _ _ n1 _=>(bT n1).elim)
  (λ _ _ _ h _ _=>by cases h;rfl) (λ _ _ h1 h2=>aET h1 h2) r ok A' e h n1 n2
end
theorem lR:∀(l m:List D),fO l m=((List.range (min l.length m.length)).all (λ j=>match l[j]?,m[j]? with|some a,some b=>eqD a b|_,_=>true)&&l.length==m.length)
 |[],[]=>by simp[fO]
 |[],y::ys=>by simp[fO]
 |x::xs,[]=>by simp[fO]
 |x::xs,y::ys=>by
  have ih:=lR xs ys;simp only[fO,ih,List.length_cons,Nat.succ_min_succ,List.range_succ_eq_map,List.all_cons,List.all_map,List.getElem?_cons_zero,Function.comp_def,List.getElem?_cons_succ,Nat.succ_eq_add_one,Nat.add_one_inj,Bool.and_assoc];congr 1;congr 1;simp
theorem j7:∀{l:List D} {d:D},d∈l->fP d<=bW l
 |x::r,d,h=>by
  simp only[bW];rcases List.mem_cons.mp h with rfl|h
  ·exact Nat.le_max_left _ _
  ·exact Nat.le_trans (j7 h) (Nat.le_max_right _ _)
theorem dg:∀{l:List D} {d:D},d∈l->aj l=true->aQ d=true
 |x::r,d,h,n=>by
  simp only[aj,Bool.and_eq_true]at n;rcases List.mem_cons.mp h with rfl|h
  ·exact n.1
  ·exact dg h n.2
theorem bu(hn:n=ds.length)(hm:m=es.length):((List.range (min n m)).all (λ j=>match ds[j]?,es[j]? with|some a,some b=>eqD a b|_,_=>true)&&n==m)=fO ds es:=by
 subst hn hm;exact(lR ds es).symm
section
variable{K:PySem.W.Frag}{H:Hp}{s:Shared}
def aEx(K:PySem.W.Frag)(H:Hp)(s:Shared)(n:Nat):Prop:=∀(A1 A2:Addr->Prop) (x y:V) (d e:D) (A:Around) (u v:Value),Rp K A1 H x d->Rp K A2 H y e->RelV x u->RelV y v->fP d<=n->aQ d=true->aQ e=true->A.units+n<cLine->SeqAt.EqAt A s u v (eqD d e)
def aEy(K:PySem.W.Frag)(H:Hp)(s:Shared)(n:Nat):Prop:=∀(A1 A2:Addr->Prop) (xs ys:List V) (ds es:List D) (A:Around) (us vs:List Value),Rps K A1 H xs ds->Rps K A2 H ys es->Vals xs us->Vals ys vs->bW ds<=n->aj ds=true->aj es=true->A.units+n<cLine->
  ∀(j:Nat) (h1:j<us.toArray.size) (h2:j<vs.toArray.size),SeqAt.EqAt A s us.toArray[j] vs.toArray[j] (match ds[j]?,es[j]? with|some a,some b=>eqD a b|_,_=>true)
theorem uK(ok:jc K H s)(n:Nat)(IH:∀k,n=k+1->aEy K H s k):aEx K H s n:=by
 intro A1 A2 x y d e A u v r1 r2 ru rv hd nd ne hu;have hu0:A.units<cLine:=by lia
 cases r1 with
 |tup h1 q1=>
  rename_i a xs ds;cases ru;obtain⟨its,w1,t1⟩:=ok.tup h1;cases r2 with
  |tup h2 q2=>
   rename_i b ys es;cases rv;obtain⟨its2,w2,t2⟩:=ok.tup h2;by_cases hab:a=b
   ·subst hab
    have e:=Rp.inj ok (Rp.tup h1 q1) (Rp.tup h2 q2) nd ne;rw[<-e,iW _ nd];exact SeqAt.EqAt.same _
   ·simp only[fP]at hd
    obtain⟨k,rfl⟩:∃k,n=k+1:=⟨n-1,by lia⟩
    have z:=SeqAt.RcAt.tuples t1 t2 hu0 (IH k rfl _ _ _ _ _ _ _ _ _ q1 q2 w1 w2 (by lia) (gm nd) (gm ne) (by show A.units+1+k<cLine;lia));rw[bu (by rw[List.size_toArray,<-w1.length,q1.length]) (by rw[List.size_toArray,<-w2.length,q2.length])]at z;simp only[eqD];exact SeqAt.EqAt.of_refs hab z
  |lst h2 mm2 q2=>
   cases rv;obtain⟨its2,w2,t2⟩:=ok.lst h2;simp only[eqD];exact SeqAt.EqAt.tuple_list t1 t2 hu0
  |dK _ _ _=>exact(aV ne).elim
  |dT _ _ _=>exact(aV ne).elim
  |set _ _ _ _=>exact(bI ne).elim
  |scr _=>exact(bJ ne).elim
  |fn _=>exact(bT ne).elim
  |non=>cases rv;simp only[eqD];exact SeqAt.EqAt.tuple_none t1 hu0
  |bl b=>cases rv;simp only[eqD];exact SeqAt.EqAt.tuple_bool b t1 hu0
  |int i=>obtain⟨tk,rfl⟩:=rv;simp only[eqD];exact SeqAt.EqAt.tuple_int i tk t1 hu0
  |str i=>obtain⟨tk,rfl⟩:=rv;simp only[eqD];exact SeqAt.EqAt.tuple_str i tk t1 hu0
 |lst h1 mm1 q1=>
  rename_i a xs ds;cases ru;obtain⟨its,w1,t1⟩:=ok.lst h1;cases r2 with
  |lst h2 mm2 q2=>
   rename_i b ys es;cases rv;obtain⟨its2,w2,t2⟩:=ok.lst h2;by_cases hab:a=b
   ·subst hab
    have e:=Rp.inj ok (Rp.lst h1 mm1 q1) (Rp.lst h2 mm2 q2) nd ne;rw[<-e,iW _ nd];exact SeqAt.EqAt.same _
   ·simp only[fP]at hd
    obtain⟨k,rfl⟩:∃k,n=k+1:=⟨n-1,by lia⟩
    have l1:its.toArray.size=ds.length:=by rw[List.size_toArray,<-w1.length,q1.length]
    have l2:its2.toArray.size=es.length:=by rw[List.size_toArray,<-w2.length,q2.length]
    by_cases hl:its.toArray.size=its2.toArray.size
    ·have z:=SeqAt.RcAt.lists t1 t2 hl hu0 (IH k rfl _ _ _ _ _ _ _ _ _ q1 q2 w1 w2 (by lia) (gn nd) (gn ne) (by show A.units+1+k<cLine;lia))
     have z':=bu (ds:=ds) (es:=es) l1 l2;rw[<-hl,Nat.min_self,beq_self_eq_true,Bool.and_true]at z';rw[z']at z;simp only[eqD];exact SeqAt.EqAt.of_refs hab z
    ·have z:=SeqAt.RcAt.lists_lengths t1 t2 (by simpa using hl) hu0
     have z':=bu (ds:=ds) (es:=es) l1 l2;rw[beq_eq_false_iff_ne.mpr hl,Bool.and_false]at z';simp only[eqD];rw[<-z'];exact SeqAt.EqAt.of_refs hab z
  |tup h2 q2=>
   cases rv;obtain⟨its2,w2,t2⟩:=ok.tup h2;simp only[eqD];exact SeqAt.EqAt.list_tuple t1 t2 hu0
  |dK _ _ _=>exact(aV ne).elim
  |dT _ _ _=>exact(aV ne).elim
  |set _ _ _ _=>exact(bI ne).elim
  |scr _=>exact(bJ ne).elim
  |fn _=>exact(bT ne).elim
  |non=>cases rv;simp only[eqD];exact SeqAt.EqAt.list_none t1 hu0
  |bl b=>cases rv;simp only[eqD];exact SeqAt.EqAt.list_bool b t1 hu0
  |int i=>obtain⟨tk,rfl⟩:=rv;simp only[eqD];exact SeqAt.EqAt.list_int i tk t1 hu0
  |str i=>obtain⟨tk,rfl⟩:=rv;simp only[eqD];exact SeqAt.EqAt.list_str i tk t1 hu0
 |dK _ _ _=>exact(aV nd).elim
 |dT _ _ _=>exact(aV nd).elim
 |set _ _ _ _=>exact(bI nd).elim
 |scr _=>exact(bJ nd).elim
 |fn _=>exact(bT nd).elim
 |non=>
  cases ru;cases r2 with
  |tup h2 q2=>cases rv;obtain⟨_,_,t2⟩:=ok.tup h2;simp only[eqD];exact SeqAt.EqAt.none_tuple t2 hu0
  |lst h2 mm2 q2=>cases rv;obtain⟨_,_,t2⟩:=ok.lst h2;simp only[eqD];exact SeqAt.EqAt.none_list t2 hu0
  |dK _ _ _=>exact(aV ne).elim
  |dT _ _ _=>exact(aV ne).elim
  |set _ _ _ _=>exact(bI ne).elim
  |scr _=>exact(bJ ne).elim
  |fn _=>exact(bT ne).elim
  |non=>cases rv;simp only[eqD];exact SeqAt.EqAt.same _
  |bl b=>cases rv;simp only[eqD];exact SeqAt.EqAt.none_bool b
  |int i=>obtain⟨tk,rfl⟩:=rv;simp only[eqD];exact SeqAt.EqAt.none_int i tk
  |str i=>obtain⟨tk,rfl⟩:=rv;simp only[eqD];exact SeqAt.EqAt.none_str i tk
 |bl a=>
  cases ru;cases r2 with
  |tup h2 q2=>cases rv;obtain⟨_,_,t2⟩:=ok.tup h2;simp only[eqD];exact SeqAt.EqAt.bool_tuple a t2 hu0
  |lst h2 mm2 q2=>cases rv;obtain⟨_,_,t2⟩:=ok.lst h2;simp only[eqD];exact SeqAt.EqAt.bool_list a t2 hu0
  |dK _ _ _=>exact(aV ne).elim
  |dT _ _ _=>exact(aV ne).elim
  |set _ _ _ _=>exact(bI ne).elim
  |scr _=>exact(bJ ne).elim
  |fn _=>exact(bT ne).elim
  |non=>cases rv;simp only[eqD];exact SeqAt.EqAt.bool_none a
  |bl b=>cases rv;simp only[eqD];exact SeqAt.EqAt.bool_bool a b
  |int i=>obtain⟨tk,rfl⟩:=rv;simp only[eqD];exact SeqAt.EqAt.bool_int a i tk
  |str i=>obtain⟨tk,rfl⟩:=rv;simp only[eqD];exact SeqAt.EqAt.bool_str a i tk
 |int a=>
  obtain⟨tu,rfl⟩:=ru;cases r2 with
  |tup h2 q2=>cases rv;obtain⟨_,_,t2⟩:=ok.tup h2;simp only[eqD];exact SeqAt.EqAt.int_tuple a tu t2 hu0
  |lst h2 mm2 q2=>cases rv;obtain⟨_,_,t2⟩:=ok.lst h2;simp only[eqD];exact SeqAt.EqAt.int_list a tu t2 hu0
  |dK _ _ _=>exact(aV ne).elim
  |dT _ _ _=>exact(aV ne).elim
  |set _ _ _ _=>exact(bI ne).elim
  |scr _=>exact(bJ ne).elim
  |fn _=>exact(bT ne).elim
  |non=>cases rv;simp only[eqD];exact SeqAt.EqAt.int_none a tu
  |bl b=>cases rv;simp only[eqD];exact SeqAt.EqAt.int_bool a tu b
  |int i=>obtain⟨tk,rfl⟩:=rv;simp only[eqD];exact SeqAt.EqAt.int_int a tu i tk
  |str i=>obtain⟨tk,rfl⟩:=rv;simp only[eqD];exact SeqAt.EqAt.int_str a tu i tk
 |str a=>
  obtain⟨tu,rfl⟩:=ru;cases r2 with
  |tup h2 q2=>cases rv;obtain⟨_,_,t2⟩:=ok.tup h2;simp only[eqD];exact SeqAt.EqAt.str_tuple a tu t2 hu0
  |lst h2 mm2 q2=>cases rv;obtain⟨_,_,t2⟩:=ok.lst h2;simp only[eqD];exact SeqAt.EqAt.str_list a tu t2 hu0
  |dK _ _ _=>exact(aV ne).elim
  |dT _ _ _=>exact(aV ne).elim
  |set _ _ _ _=>exact(bI ne).elim
  |scr _=>exact(bJ ne).elim
  |fn _=>exact(bT ne).elim
  |non=>cases rv;simp only[eqD];exact SeqAt.EqAt.str_none a tu
  |bl b=>cases rv;simp only[eqD];exact SeqAt.EqAt.str_bool a tu b
  |int i=>obtain⟨tk,rfl⟩:=rv;simp only[eqD];exact SeqAt.EqAt.str_int a tu i tk
  |str i=>obtain⟨tk,rfl⟩:=rv;simp only[eqD];exact SeqAt.EqAt.str_str a tu i tk
theorem vY(ok:jc K H s)(n:Nat)(IH:aEx K H s n):aEy K H s n:=by
 intro A1 A2 xs ys ds es A us vs q1 q2 w1 w2 hd nd ne hu j h1 h2;have hj1:j<us.length:=by simpa using h1
 have hj2:j<vs.length:=by simpa using h2
 have hx:j<xs.length:=by rw[w1.length];exact hj1
 have hy:j<ys.length:=by rw[w2.length];exact hj2
 have ex:=List.getElem?_eq_getElem hx;have ey:=List.getElem?_eq_getElem hy;obtain⟨d,ed,rd⟩:=q1.get ex;obtain⟨e,ee,re⟩:=q2.get ey;obtain⟨u,eu,ru⟩:=w1.get ex;obtain⟨v,ev,rv⟩:=w2.get ey;have e1:us.toArray[j]=u:=by
  rw[List.getElem_toArray];exact Option.some.inj ((List.getElem?_eq_getElem hj1).symm.trans eu)
 have e2:vs.toArray[j]=v:=by
  rw[List.getElem_toArray];exact Option.some.inj ((List.getElem?_eq_getElem hj2).symm.trans ev)
 rw[e1,e2,ed,ee];exact IH _ _ _ _ _ _ _ _ _ rd re ru rv (Nat.le_trans (j7 (List.mem_of_getElem? ed)) hd) (dg (List.mem_of_getElem? ed) nd) (dg (List.mem_of_getElem? ee) ne) hu
theorem aEe(ok:jc K H s):∀n,aEx K H s n
 |0=>uK ok 0 λ k h=>absurd h (by simp)
 |n+1=>uK ok (n+1) λ k h=>by
  have h':=Nat.succ.inj h;subst h';exact vY ok n (aEe ok n)
theorem xg(ok:jc K H s):∀{A1 A2:Addr->Prop} {x y:V} {d e:D} (n:Nat) {A:Around} {u v:Value},Rp K A1 H x d->Rp K A2 H y e->RelV x u->RelV y v->fP d<=n->aQ d=true->aQ e=true->A.units+n<cLine->SeqAt.EqAt A s u v (eqD d e)
 |_,_,_,_,_,_,n,A,u,v,r1,r2,ru,rv,hd,nd,ne,hu=>aEe ok n _ _ _ _ _ _ _ _ _ r1 r2 ru rv hd nd ne hu
theorem uL(ok:jc K H s):∀{A1 A2:Addr->Prop} {xs ys:List V} {ds es:List D} (n:Nat) {A:Around} {us vs:List Value},Rps K A1 H xs ds->Rps K A2 H ys es->Vals xs us->Vals ys vs->bW ds<=n->aj ds=true->aj es=true->A.units+n<cLine->
  ∀(j:Nat) (h1:j<us.toArray.size) (h2:j<vs.toArray.size),SeqAt.EqAt A s us.toArray[j] vs.toArray[j] (match ds[j]?,es[j]? with|some a,some b=>eqD a b|_,_=>true)
 |_,_,xs,ys,ds,es,n,A,us,vs,q1,q2,w1,w2,hd,nd,ne,hu,j,h1,h2=>vY ok n (aEe ok n) _ _ _ _ _ _ _ _ _ q1 q2 w1 w2 hd nd ne hu j h1 h2
theorem aAS(ok:jc K H s)(n:Nat)(r1:Rp K A1 H x d)(r2:Rp K A2 H y e)(ru:RelV x u)(rv:RelV y v)(hd:fP d<=n)(nd:aQ d=true)(ne:aQ e=true)(hu:A.units+n<cLine):
  SeqAt.RcAt A s u v (eqD d e)/\SeqAt.RcNeAt A s u v (!eqD d e):=by
 have hu0:A.units<cLine:=by lia
 cases r1 with
 |tup h1 q1=>
  rename_i a xs ds;cases ru;obtain⟨its,w1,t1⟩:=ok.tup h1;cases r2 with
  |tup h2 q2=>
   rename_i b ys es;cases rv;obtain⟨its2,w2,t2⟩:=ok.tup h2;simp only[fP]at hd;obtain⟨k,rfl⟩:∃k,n=k+1:=⟨n-1,by lia⟩
   have he:=uL ok (A:=A.in1) k q1 q2 w1 w2 (by lia) (gm nd) (gm ne) (by show A.units+1+k<cLine;lia);have z:=SeqAt.RcAt.tuples t1 t2 hu0 he;have z2:=SeqAt.RcNeAt.tuples t1 t2 hu0 he;rw[bu (by rw[List.size_toArray,<-w1.length,q1.length]) (by rw[List.size_toArray,<-w2.length,q2.length])]at z z2;simp only[eqD];exact⟨z,z2⟩
  |lst h2 mm2 q2=>
   cases rv;obtain⟨its2,w2,t2⟩:=ok.lst h2;simp only[eqD];exact⟨SeqAt.RcAt.tuple_list t1 t2 hu0,SeqAt.RcNeAt.tuple_list t1 t2 hu0⟩
  |dK _ _ _=>exact(aV ne).elim
  |dT _ _ _=>exact(aV ne).elim
  |set _ _ _ _=>exact(bI ne).elim
  |scr _=>exact(bJ ne).elim
  |fn _=>exact(bT ne).elim
  |non=>cases rv;simp only[eqD];exact⟨SeqAt.RcAt.tuple_none t1 hu0,SeqAt.RcNeAt.tuple_none t1 hu0⟩
  |bl b=>cases rv;simp only[eqD];exact⟨SeqAt.RcAt.tuple_bool b t1 hu0,SeqAt.RcNeAt.tuple_bool b t1 hu0⟩
  |int i=>obtain⟨tk,rfl⟩:=rv;simp only[eqD];exact⟨SeqAt.RcAt.tuple_int i tk t1 hu0,SeqAt.RcNeAt.tuple_int i tk t1 hu0⟩
  |str i=>obtain⟨tk,rfl⟩:=rv;simp only[eqD];exact⟨SeqAt.RcAt.tuple_str i tk t1 hu0,SeqAt.RcNeAt.tuple_str i tk t1 hu0⟩
 |lst h1 mm1 q1=>
  rename_i a xs ds;cases ru;obtain⟨its,w1,t1⟩:=ok.lst h1;cases r2 with
  |lst h2 mm2 q2=>
   rename_i b ys es;cases rv;obtain⟨its2,w2,t2⟩:=ok.lst h2;simp only[fP]at hd;obtain⟨k,rfl⟩:∃k,n=k+1:=⟨n-1,by lia⟩
   have l1:its.toArray.size=ds.length:=by rw[List.size_toArray,<-w1.length,q1.length]
   have l2:its2.toArray.size=es.length:=by rw[List.size_toArray,<-w2.length,q2.length]
   have z':=bu (ds:=ds) (es:=es) l1 l2;by_cases hl:its.toArray.size=its2.toArray.size
   ·have he:=uL ok (A:=A.in1) k q1 q2 w1 w2 (by lia) (gn nd) (gn ne) (by show A.units+1+k<cLine;lia)
    have z:=SeqAt.RcAt.lists t1 t2 hl hu0 he;have z2:=SeqAt.RcNeAt.lists t1 t2 hl hu0 he;rw[<-hl,Nat.min_self,beq_self_eq_true,Bool.and_true]at z';rw[z']at z z2;simp only[eqD];exact⟨z,z2⟩
   ·rw[beq_eq_false_iff_ne.mpr hl,Bool.and_false]at z'
    simp only[eqD];rw[<-z'];exact⟨SeqAt.RcAt.lists_lengths t1 t2 (by simpa using hl) hu0,SeqAt.RcNeAt.lists_lengths t1 t2 (by simpa using hl) hu0⟩
  |tup h2 q2=>
   cases rv;obtain⟨its2,w2,t2⟩:=ok.tup h2;simp only[eqD];exact⟨SeqAt.RcAt.list_tuple t1 t2 hu0,SeqAt.RcNeAt.list_tuple t1 t2 hu0⟩
  |dK _ _ _=>exact(aV ne).elim
  |dT _ _ _=>exact(aV ne).elim
  |set _ _ _ _=>exact(bI ne).elim
  |scr _=>exact(bJ ne).elim
  |fn _=>exact(bT ne).elim
  |non=>cases rv;simp only[eqD];exact⟨SeqAt.RcAt.list_none t1 hu0,SeqAt.RcNeAt.list_none t1 hu0⟩
  |bl b=>cases rv;simp only[eqD];exact⟨SeqAt.RcAt.list_bool b t1 hu0,SeqAt.RcNeAt.list_bool b t1 hu0⟩
  |int i=>obtain⟨tk,rfl⟩:=rv;simp only[eqD];exact⟨SeqAt.RcAt.list_int i tk t1 hu0,SeqAt.RcNeAt.list_int i tk t1 hu0⟩
  |str i=>obtain⟨tk,rfl⟩:=rv;simp only[eqD];exact⟨SeqAt.RcAt.list_str i tk t1 hu0,SeqAt.RcNeAt.list_str i tk t1 hu0⟩
 |dK _ _ _=>exact(aV nd).elim
 |dT _ _ _=>exact(aV nd).elim
 |set _ _ _ _=>exact(bI nd).elim
 |scr _=>exact(bJ nd).elim
 |fn _=>exact(bT nd).elim
 |non=>
  cases ru;cases r2 with
  |tup h2 q2=>cases rv;obtain⟨_,_,t2⟩:=ok.tup h2;simp only[eqD];exact⟨SeqAt.RcAt.none_tuple t2 hu0,SeqAt.RcNeAt.none_tuple t2 hu0⟩
  |lst h2 mm2 q2=>cases rv;obtain⟨_,_,t2⟩:=ok.lst h2;simp only[eqD];exact⟨SeqAt.RcAt.none_list t2 hu0,SeqAt.RcNeAt.none_list t2 hu0⟩
  |dK _ _ _=>exact(aV ne).elim
  |dT _ _ _=>exact(aV ne).elim
  |set _ _ _ _=>exact(bI ne).elim
  |scr _=>exact(bJ ne).elim
  |fn _=>exact(bT ne).elim
  |non=>cases rv;simp only[eqD];exact⟨SeqAt.RcAt.none_none,SeqAt.RcNeAt.none_none⟩
  |bl b=>cases rv;simp only[eqD];exact⟨SeqAt.RcAt.none_bool b,SeqAt.RcNeAt.none_bool b⟩
  |int i=>obtain⟨tk,rfl⟩:=rv;simp only[eqD];exact⟨SeqAt.RcAt.none_int i tk,SeqAt.RcNeAt.none_int i tk⟩
  |str i=>obtain⟨tk,rfl⟩:=rv;simp only[eqD];exact⟨SeqAt.RcAt.none_str i tk,SeqAt.RcNeAt.none_str i tk⟩
 |bl a=>
  cases ru;cases r2 with
  |tup h2 q2=>cases rv;obtain⟨_,_,t2⟩:=ok.tup h2;simp only[eqD];exact⟨SeqAt.RcAt.bool_tuple a t2 hu0,SeqAt.RcNeAt.bool_tuple a t2 hu0⟩
  |lst h2 mm2 q2=>cases rv;obtain⟨_,_,t2⟩:=ok.lst h2;simp only[eqD];exact⟨SeqAt.RcAt.bool_list a t2 hu0,SeqAt.RcNeAt.bool_list a t2 hu0⟩
  |dK _ _ _=>exact(aV ne).elim
  |dT _ _ _=>exact(aV ne).elim
  |set _ _ _ _=>exact(bI ne).elim
  |scr _=>exact(bJ ne).elim
  |fn _=>exact(bT ne).elim
  |non=>cases rv;simp only[eqD];exact⟨SeqAt.RcAt.bool_none a,SeqAt.RcNeAt.bool_none a⟩
  |bl b=>cases rv;simp only[eqD];exact⟨SeqAt.RcAt.bool_bool a b,SeqAt.RcNeAt.bool_bool a b⟩
  |int i=>obtain⟨tk,rfl⟩:=rv;simp only[eqD];exact⟨SeqAt.RcAt.bool_int a i tk,SeqAt.RcNeAt.bool_int a i tk⟩
  |str i=>obtain⟨tk,rfl⟩:=rv;simp only[eqD];exact⟨SeqAt.RcAt.bool_str a i tk,SeqAt.RcNeAt.bool_str a i tk⟩
 |int a=>
  obtain⟨tu,rfl⟩:=ru;cases r2 with
  |tup h2 q2=>cases rv;obtain⟨_,_,t2⟩:=ok.tup h2;simp only[eqD];exact⟨SeqAt.RcAt.int_tuple a tu t2 hu0,SeqAt.RcNeAt.int_tuple a tu t2 hu0⟩
  |lst h2 mm2 q2=>cases rv;obtain⟨_,_,t2⟩:=ok.lst h2;simp only[eqD];exact⟨SeqAt.RcAt.int_list a tu t2 hu0,SeqAt.RcNeAt.int_list a tu t2 hu0⟩
  |dK _ _ _=>exact(aV ne).elim
  |dT _ _ _=>exact(aV ne).elim
  |set _ _ _ _=>exact(bI ne).elim
  |scr _=>exact(bJ ne).elim
  |fn _=>exact(bT ne).elim
  |non=>cases rv;simp only[eqD];exact⟨SeqAt.RcAt.int_none a tu,SeqAt.RcNeAt.int_none a tu⟩
  |bl b=>cases rv;simp only[eqD];exact⟨SeqAt.RcAt.int_bool a tu b,SeqAt.RcNeAt.int_bool a tu b⟩
  |int i=>obtain⟨tk,rfl⟩:=rv;simp only[eqD];exact⟨SeqAt.RcAt.int_int a tu i tk,SeqAt.RcNeAt.int_int a tu i tk⟩
  |str i=>obtain⟨tk,rfl⟩:=rv;simp only[eqD];exact⟨SeqAt.RcAt.int_str a tu i tk,SeqAt.RcNeAt.int_str a tu i tk⟩
 |str a=>
  obtain⟨tu,rfl⟩:=ru;cases r2 with
  |tup h2 q2=>cases rv;obtain⟨_,_,t2⟩:=ok.tup h2;simp only[eqD];exact⟨SeqAt.RcAt.str_tuple a tu t2 hu0,SeqAt.RcNeAt.str_tuple a tu t2 hu0⟩
  |lst h2 mm2 q2=>cases rv;obtain⟨_,_,t2⟩:=ok.lst h2;simp only[eqD];exact⟨SeqAt.RcAt.str_list a tu t2 hu0,SeqAt.RcNeAt.str_list a tu t2 hu0⟩
  |dK _ _ _=>exact(aV ne).elim
  |dT _ _ _=>exact(aV ne).elim
  |set _ _ _ _=>exact(bI ne).elim
  |scr _=>exact(bJ ne).elim
  |fn _=>exact(bT ne).elim
  |non=>cases rv;simp only[eqD];exact⟨SeqAt.RcAt.str_none a tu,SeqAt.RcNeAt.str_none a tu⟩
  |bl b=>cases rv;simp only[eqD];exact⟨SeqAt.RcAt.str_bool a tu b,SeqAt.RcNeAt.str_bool a tu b⟩
  |int i=>obtain⟨tk,rfl⟩:=rv;simp only[eqD];exact⟨SeqAt.RcAt.str_int a tu i tk,SeqAt.RcNeAt.str_int a tu i tk⟩
  |str i=>obtain⟨tk,rfl⟩:=rv;simp only[eqD];exact⟨SeqAt.RcAt.str_str a tu i tk,SeqAt.RcNeAt.str_str a tu i tk⟩
end
section
variable{K:PySem.W.Frag}{H:Hp}{s:Shared}
open Classical in
def jw(K:PySem.W.Frag)(H:Hp)(d:D)(u:Value):Bool:=if h:∃e,aQ e=true/\∃y,RelV y u/\Rp K (λ _=>True) H y e then eqD (choose h) d else false
theorem ju(ok:jc K H s)(r:RelV y u)(h:Rp K A H y e)(ne:aQ e=true):jw K H d u=eqD e d:=by
 have hx:∃e,aQ e=true/\∃y,RelV y u/\Rp K (λ _=>True) H y e:=⟨e,ne,y,r,h.wk λ _ _ _ _=>trivial⟩
 unfold jw;rw[dif_pos hx];obtain⟨n',y',r',h'⟩:=Classical.choose_spec hx;have e1:=RelV.inj r r';subst e1;rw[Rp.inj ok h' h n' ne]
def inD(d:D)(es:List D):Bool:=es.any λ e=>eqD e d
theorem oZ(ok:jc K H s):∀{A:Addr->Prop} {xs:List V} {es:List D} {us:List Value},Rps K A H xs es->Vals xs us->aj es=true->us.any (jw K H d)=inD d es:=by
 intro A xs es us h v n;induction v generalizing es with
 |nil=>cases h;rfl
 |cons k t ih=>
  cases h with
  |cons h r=>
   simp only[aj,Bool.and_eq_true]at n;unfold inD;rw[List.any_cons,List.any_cons,ju ok k h n.1,ih r n.2];rfl
theorem mH(ok:jc K H s)(rx:Rp K A0 H x d)(rv:RelV x v)(hu:A.units+n<cLine)(nd:aQ d=true):∀{A1:Addr->Prop} {xs:List V} {es:List D} {us:List Value},Rps K A1 H xs es->Vals xs us->bW es<=n->aj es=true->∀u∈us,SeqAt.EqAt A s u v (jw K H d u):=by
 intro A1 xs es us h v' hd ne u hm;induction v' generalizing es with
 |nil=>cases hm
 |cons k t ih=>
  cases h with
  |cons h r=>
   simp only[bW]at hd;simp only[aj,Bool.and_eq_true]at ne;rcases List.mem_cons.mp hm with z|z
   ·subst z
    rw[ju ok k h ne.1];exact xg ok n h rx k rv (Nat.le_trans (Nat.le_max_left _ _) hd) ne.1 nd hu
   ·exact ih r (Nat.le_trans (Nat.le_max_right _ _) hd) ne.2 z
end
section
variable{X:Cx}
def aDX(K:PySem.W.Frag)(neg:Bool):R2:=λ x y H Q=>∃A B d e,Rp K A H x d/\Rp K B H y e/\fP d<=60/\aQ d=true/\aQ e=true/\Q (.bl (if neg then !eqD d e else eqD d e)) H
theorem aIZ(hu:X.A.units+64<cLine):OpR X (compareOp .Eq) (aDX X.K false):=by
 intro pins s σ H x y v u Q I rx ry h;obtain⟨A,B,d,e,r1,r2,hd,nd,ne,q⟩:=h;exact(aAS (Inv.seqOk I) 60 r1 r2 rx ry hd nd ne (by lia)).1 X.prog X.w X.xe _ ⟨.bl (eqD d e),H,I,rfl,q⟩
theorem aIQ(hu:X.A.units+64<cLine):OpR X (compareOp .NotEq) (aDX X.K true):=by
 intro pins s σ H x y v u Q I rx ry h;obtain⟨A,B,d,e,r1,r2,hd,nd,ne,q⟩:=h;exact(aAS (Inv.seqOk I) 60 r1 r2 rx ry hd nd ne (by lia)).2 X.prog X.w X.xe _ ⟨.bl (!eqD d e),H,I,rfl,q⟩
def aF3(K:PySem.W.Frag)(neg:Bool):R2:=λ x y H Q=>∃A B d a es,Rp K A H x d/\y= .ref a/\(Rp K B H (.ref a) (.lst es)\/Rp K B H (.ref a) (.tup es))/\bW es<=60/\aQ d=true/\aj es=true/\Q (.bl (if neg then !inD d es else inD d es)) H
theorem aCN(hu:X.A.units+64<cLine):OpR X (compareOp .NotIn) (aF3 X.K true):=by
 intro pins s σ H x y v u Q I rx ry h;obtain⟨A,B,d,a,es,rd,rfl,ra,hd,nd,ne,q⟩:=h;cases ry;have ok:=Inv.seqOk I;have hu1:X.A.in1.units+60<cLine:=by show X.A.units+1+60<cLine;lia
 rcases ra with ra|ra
 ·cases ra with
  |lst ha _ r=>
   obtain⟨its,rv,tl⟩:=ok.lst ha;refine SeqAt.notIn_listAt (jw X.K H d) tl (λ w hw=>mH ok rd rx hu1 nd r rv hd ne w (by simpa using hw)) ⟨.bl _,H,I,rfl,?_⟩;rw[show its.toArray.any (jw X.K H d)=its.any (jw X.K H d)by simp,oZ ok r rv ne];exact q
 ·cases ra with
  |tup ha r=>
   obtain⟨its,rv,tl⟩:=ok.tup ha;refine SeqAt.notIn_tupleAt (jw X.K H d) tl (λ w hw=>mH ok rd rx hu1 nd r rv hd ne w (by simpa using hw)) ⟨.bl _,H,I,rfl,?_⟩;rw[show its.toArray.any (jw X.K H d)=its.any (jw X.K H d)by simp,oZ ok r rv ne];exact q
end
section
variable{K:PySem.W.Frag}
def eqR(neg:Bool):D->D->Rs D:=λ d e=>if decide (fP d<=60)&&aQ d&&aQ e then .ok (.bl (if neg then !eqD d e else eqD d e))else .st
def inR(neg:Bool):D->D->Rs D:=λ d e=>match e with
 | .lst es=>if decide (bW es<=60)&&aQ d&&aj es then .ok (.bl (if neg then !inD d es else inD d es))else .st
 | .tup es=>if decide (bW es<=60)&&aQ d&&aj es then .ok (.bl (if neg then !inD d es else inD d es))else .st
 |_=>.st
theorem os_eq:OpS K (aDX K n) (eqR n):=by
 intro A x y d e H Q z rx ry ez q;unfold eqR at ez;split at ez
 ·rename_i h
  simp only[Bool.and_eq_true,decide_eq_true_eq]at h;cases ez;exact⟨A,A,d,e,rx,ry,h.1.1,h.1.2,h.2,q _ H (aU.refl H) (.bl _)⟩
 ·cases ez
theorem aHL:OpS K (aF3 K n) (inR n):=by
 intro A x y d e H Q z rx ry ez q;unfold inR at ez;split at ez
 ·split at ez
  ·rename_i h
   simp only[Bool.and_eq_true,decide_eq_true_eq]at h;cases ez;cases ry with
   |lst ha mm r=>exact⟨A,A,d,_,_,rx,rfl,.inl (.lst ha mm r),h.1.1,h.1.2,h.2,q _ H (aU.refl H) (.bl _)⟩
  ·cases ez
 ·split at ez
  ·rename_i h
   simp only[Bool.and_eq_true,decide_eq_true_eq]at h;cases ez;cases ry with
   |tup ha r=>exact⟨A,A,d,_,_,rx,rfl,.inr (.tup ha r),h.1.1,h.1.2,h.2,q _ H (aU.refl H) (.bl _)⟩
  ·cases ez
 ·cases ez
theorem aEX:∀x y z,eqR n x y= .ok z->imm z=true:=by
 intro x y z e;unfold eqR at e;split at e
 ·cases e;rfl
 ·cases e
end
section
variable{K:PySem.W.Frag}
def boolsOf:List D->Option (List Bool)
 |[]=>some []
 | .bl i::r=>(boolsOf r).map (i::·)
 |_=>none
theorem oW:∀{l:List D} {ns:List Bool},boolsOf l=some ns->l=ns.map .bl
 |[],ns,h=>by cases h;rfl
 | .bl i::r,ns,h=>by
  simp only[boolsOf,Option.map_eq_some_iff]at h;obtain⟨ms,h1,rfl⟩:=h;rw[oW h1];rfl
 | .non::_,_,h=>by cases h
 | .int _::_,_,h=>by cases h
 | .str _::_,_,h=>by cases h
 | .tup _::_,_,h=>by cases h
 | .lst _::_,_,h=>by cases h
 | .dct _ _::_,_,h=>by cases h
 | .set _::_,_,h=>by cases h
 | .scr _::_,_,h=>by cases h
theorem qg:∀ns:List Bool,boolsOf (ns.map .bl)=some ns
 |[]=>rfl
 |n::ns=>by simp only[List.map_cons,boolsOf,qg ns,Option.map_some]
theorem vd{X:Cx}:∀{bs:List Bool} {us:List Value},Vals (bs.map V.bl) us->LSm.BoolsAre us bs
 |[],_,.nil=>.nil
 |b::bs,_,.cons r t=>by
  have e:_=Value.bool b:=r;subst e;exact .cons b (vd (X:=X) t)
theorem Rps.bools_of:∀{xs:List V} {bs:List Bool},Rps K A H xs (bs.map D.bl)->xs=bs.map V.bl
 |_,[],.nil=>rfl
 |_,n::ns,.cons h r=>by
  cases h;rw[List.map_cons,Rps.bools_of r]
def yJ(f:List Bool->Bool):List D->Rs D
 |[.lst l]=>match boolsOf l with
  |some bs=>.ok (.bl (f bs))
  |none=>.st
 |_=>.st
theorem aEp{X:Cx}(hc:X.calm=true):bx X (.builtin "all") (λ xs H Q=>∃(p:Addr) (bs:List Bool),xs=[.ref p]/\H p=some (.lst (bs.map V.bl))/\Q (.bl (bs.all id)) H):=by
 intro pins s σ H xs us Q I r h;obtain⟨p,bs,rfl,hp,q⟩:=h;obtain⟨u,rfl,ru⟩:=vals1 r;cases ru;obtain⟨its,rv,pl,hz⟩:=I.list (SqL.of hp);have hb:=vd (X:=X) rv;have hl:=pl.isList;have hlt:p<s.heap.objs.size:=by obtain⟨_,e,_⟩:=hl;exact Heap.lt_size e
 refine call_all_walk (wpAny_pyIter_list hl ?_);refine⟨s.heap.objs.size,[s.heap.objs.size,p],[s.heap.objs.size],its.toArray.size,_,_,λ i=>(bs[i]?).getD true,rfl,Walks.list (A:=X.A.in1) (I.ok.hd hc) _ p (Nat.ne_of_lt hlt) its.toArray,
  ⟨⟨_,Heap.get?_push_size _ rfl,rfl,rfl⟩,hl.push _⟩,λ i v s' Q' E' hP hQ=>?_,λ h' tk hk=>?_⟩
 ·obtain⟨b,e,rfl⟩:=hb.get i v (by simpa using hP)
  simp only[e,Option.getD_some]at hQ;exact wpAny_truthy_bool hQ
 ·have e:((List.range its.toArray.size).all λ i=>(bs[i]?).getD true)=bs.all id:=by
   rw[List.size_toArray,hb.length];exact LSm.range_all bs
  rw[e];exact⟨.bl _,H,I.kept (LSm.kept_iter hk),rfl,q⟩
theorem aIu:uY K (λ xs H Q=>∃(p:Addr) (bs:List Bool),xs=[.ref p]/\H p=some (.lst (bs.map V.bl))/\Q (.bl (f bs)) H) (yJ f):=by
 intro A xs ds H Q z r ez q;unfold yJ at ez;split at ez
 ·split at ez
  ·rename_i l bs e
   cases ez
   have:=oW e
   subst this;cases r with
   |cons h r=>
    cases r;cases h with
    |lst h m r=>
     have:=r.bools_of
     subst this;exact⟨_,bs,rfl,h,q _ H (aU.refl H) (.bl _)⟩
  ·cases ez
 ·cases ez
theorem aGZ:∀x z,yJ f x= .ok z->imm z=true:=by
 intro x z e;unfold yJ at e;split at e
 ·split at e
  ·cases e;rfl
  ·cases e
 ·cases e
def mmD(f:Int->Int->Int):List D->Rs D
 |[.int i,.int j]=>.ok (.int (f i j))
 |_=>.st
theorem aHU:uY K (λ xs H Q=>∃i j,xs=[.int i,.int j]/\Q (.int (f i j)) H) (mmD f):=by
 intro A xs ds H Q z r ez q;unfold mmD at ez;split at ez
 ·cases ez
  cases r with
  |cons h r=>
   cases h;cases r with
   |cons h r=>
    cases h;cases r;exact⟨_,_,rfl,q _ H (aU.refl H) (.int _)⟩
 ·cases ez
theorem aEV:∀x z,mmD f x= .ok z->imm z=true:=by
 intro x z e;unfold mmD at e;split at e
 ·cases e;rfl
 ·cases e
def cj:List D->Rs D
 |[.lst l]=>.ok (.tup l)
 |[.tup l]=>.ok (.tup l)
 |_=>.st
theorem aEj:uY K (λ xs H Q=>∃p ys,xs=[.ref p]/\((SqL K H p ys/\∀l,H l=none->Q (.ref l) (upd H l (.tup ys)))\/(SqT K H p ys/\Q (.ref p) H))) cj:=by
 intro A xs ds H Q z r ez q;unfold cj at ez;split at ez
 ·cases ez
  cases r with
  |cons h r=>
   cases r;cases h with
   |lst h m r=>exact⟨_,_,rfl,.inl ⟨SqL.of h,λ l hl=>q _ _ (bO hl _) (.tup (SqT.of ao) ((r.wk λ _ _ _ z=>.inr z.1).up (bO hl _)))⟩⟩
 ·cases ez
  cases r with
  |cons h r=>
   cases r;cases h with
   |tup h r=>exact⟨_,_,rfl,.inr ⟨h,q _ H (aU.refl H) (.tup h (r.wk λ _ _ _ z=>.inr z))⟩⟩
 ·cases ez
end
def cutD(l:List D)(lo hi:Option Int):List D:=(l.drop (HT.sIx l.length 0 lo)).take (HT.sIx l.length l.length hi-HT.sIx l.length 0 lo)
theorem Rps.cut{K:PySem.W.Frag}(r:Rps K A H xs ds)(lo hi:Option Int):Rps K A H (uO xs lo hi) (cutD ds lo hi):=by
 unfold uO cutD;rw[r.length];exact(r.drop _).take _
def slD(d:D)(lo hi:Option Int):Rs D:=match d with
 | .tup l=>.ok (.tup (cutD l lo hi))
 | .lst l=>.ok (.lst (cutD l lo hi))
 |_=>.st
def aJ0(K:PySem.W.Frag):V->Option Int->Option Int->Hp->VK->Prop:=λ x lo hi H Q=>(∃a xs,x= .ref a/\SqT K H a xs/\∀c H',aU H H'->SqT K H' c (uO xs lo hi)->Q (.ref c) H')\/aJ1 K x lo hi H Q
theorem aFK:SlR X (λ x lo hi H Q=>∃a xs,x= .ref a/\SqT X.K H a xs/\∀c H',aU H H'->SqT X.K H' c (uO xs lo hi)->Q (.ref c) H'):=by
 intro pins s σ H x v vl vu lo hi sl Q I rx hs pl pu h;obtain⟨a,xs,rfl,hx,q⟩:=h;cases rx;obtain⟨its,r,ht,hz⟩:=I.tuple hx;have hlen:its.toArray.size=xs.length:=by rw[List.size_toArray];exact r.length.symm
 refine⟨"tuple",_,PyProof.Rows.slot_tuple_getitem.lookup,ht.typeIs,?_⟩;by_cases hw:HT.sIx xs.length 0 lo=0/\HT.sIx xs.length xs.length hi=xs.length
 ·refine HT.oM ht hs pl pu (by rw[hlen];exact hw.1) (by rw[hlen];exact hw.2) ⟨.ref a,H,I,rfl,q a H (aU.refl H) ?_⟩
  have:uO xs lo hi=xs:=by
   unfold uO;rw[hw.1,hw.2,List.drop_zero,Nat.sub_zero,List.take_length]
  rw[this];exact hx
 ·refine HT.oK ht hs pl pu (by rw[hlen];exact hw) ?_ (by rw[hlen];exact hz)
  rw[hlen];refine⟨.ref s.heap.objs.size,_,I.laid (t':=s.toks) (o:=.tup (uO xs lo hi)) (λ b ob q=>Heap.get?_push_of_some _ q) (Nat.le_refl _) ?_,rfl,q _ _ (bO (I.hok.fresh (Nat.le_refl _)) _) (SqT.of ao)⟩;exact⟨Nat.le_trans (qd xs lo hi) hz,_,(r.drop (HT.sIx xs.length 0 lo)).take (HT.sIx xs.length xs.length hi-HT.sIx xs.length 0 lo),IsTup.new _ _⟩
theorem aKS:SlR X (aJ0 X.K):=aFK.or aFL
section
variable{C:Ct}{pos p2:Pos}{m m1 m2:Mode}{a e:Expr}{fa fe:En->Rs D}{lo hi:Option Expr}
def aK3(K:PySem.W.Frag)(G:Gx)(t:TO)(f:En->Rs (Option Int)):Prop:=∀τ σ H ρ lab (Q:Option Int->Hp->Prop),RR K G τ ρ σ H lab->WR G (f ρ) (λ o=>∀H',aU H H'->Q o H')->t σ H Q
def SO(C:Ct)(e:Option Expr)(f:En->Rs (Option Int)):Prop:=∃t,(∀i,PO (C.X i) e t)/\aK3 C.K C.G t f
def vN:En->Rs (Option Int):=λ _=>.ok none
def vM(fe:En->Rs D):En->Rs (Option Int):=λ ρ=>(fe ρ).bd λ d=>match d with
 | .int i=>.ok (some i)
 |_=>.st
theorem aBS:SO C none vN:=⟨_,λ _=>aFa,λ τ σ H ρ lab Q R W=>W H (aU.refl H)⟩
theorem aBR(h:SE C m e fe):SO C (some e) (vM fe):=by
 obtain⟨t,h1,h2⟩:=h;refine⟨_,λ i=>aF9 (h1 i),λ τ σ H ρ lab Q R W=>h2 τ σ H ρ lab _ R (W.bd.imp λ d _ w x H1 s r=>?_)⟩;cases r with
 |int i=>exact⟨i,rfl,w H1 s⟩
 |_=>exact False.elim w
def o8(fa:En->Rs D)(fl fh:En->Rs (Option Int)):En->Rs D:=λ ρ=>(fa ρ).bd λ d=>(fl ρ).bd λ l=>(fh ρ).bd λ h=>okD (slD d l h)
theorem yU{fl fh:En->Rs (Option Int)}(ha:SE C m a fa)(hl:SO C lo fl)(hh:SO C hi fh):SE C m (.Subscript a (.Slice lo hi none p2) pos) (o8 fa fl fh):=by
 obtain⟨t,h1,h2⟩:=ha;obtain⟨tl,l1,l2⟩:=hl;obtain⟨th,k1,k2⟩:=hh;refine⟨tSl (aJ0 C.K) t tl th,λ i=>by rw[<-C.hK i];exact aDb aKS (h1 i) (l1 i) (k1 i),λ τ σ H ρ lab Q R W=>h2 τ σ H ρ lab _ R (W.bd.imp λ d _ w x H1 s1 r1=>?_)⟩;refine l2 τ σ H1 ρ lab _ (R.up s1) (w.bd.imp λ ol _ w H2 s2=>?_);refine k2 τ σ H2 ρ lab _ ((R.up s1).up s2) (w.bd.imp λ oh _ w H3 s3=>?_);obtain⟨z,ez,w⟩:=w.okD;have s:=s1.trans (s2.trans s3);have r3:=r1.up (s2.trans s3);cases d with
 |tup l=>
  cases ez;cases r3 with
  |tup h r=>exact .inl ⟨_,_,rfl,h,λ c H' s' hc=>w _ H' (s.trans s') (.tup hc ((r.cut ol oh).up s'))⟩
 |lst l=>
  cases ez;cases r3 with
  |lst h mm r=>
   exact .inr ⟨_,_,rfl,SqL.of h,λ p hp=>w _ _ (s.trans (bO hp _)) (.lst ao (.inl (s.free hp)) (((r.cut ol oh).wk λ q o e z=>⟨z.1,λ e'=>by subst e';rw[hp]at e;cases e⟩).up (bO hp _)))⟩
 |_=>cases ez
def aHo:D->Rs D
 | .tup l=>.ok (.tup l.reverse)
 |_=>.st
def aGx(K:PySem.W.Frag)(te:TE):TE:=λ σ H Q=>te σ H λ x H1=>∃a xs,x= .ref a/\SqT K H1 a xs/\∀c H',aU H1 H'->H' c=some (.tup xs.reverse)->Q (.ref c) H'
theorem aFe(he:PE X e te):PE X (.Subscript e (.Slice none none (some (.UnaryOp .USub (.Constant (.int 1) j p3) p4)) p2) pos) (aGx X.K te):=by
 intro pins s σ H Q I h;refine Subscript_ (thn (he pins s σ H _ I h) λ v s1 ⟨x,H1,I1,r1,q1⟩=>?_);obtain⟨a,xs,rfl,hx,q⟩:=q1;cases r1;have hm:PE X (.UnaryOp .USub (.Constant (.int 1) j p3) p4) (tUn (rU λ i=>.int (-i)) (tC (.int 1))):=aJ8 aHX aA0;refine wpAny_Slice ?_;rw[evalPart_none];refine wpAny_pure (wpAny_pure ?_);rw[evalPart_some];refine thn (hm pins s1 σ H1 (λ z H2=>z= .int (-1)/\H2=H1) I1 ⟨1,rfl,rfl,rfl⟩) λ u s2 ⟨z,H2,I2,r2,ez,eH⟩=>?_
 subst ez eH;obtain⟨tk,rfl⟩:=r2;have I4:Inv X pins σ H2 {s2 with heap:=s2.heap.push {cls:=.type "slice",data:=.fields #[.none,.none,.int (-1) tk]}}:=I2.kept (t':=s2.toks) λ b ob q=>Heap.get?_push_of_some _ q
 obtain⟨its,r,ht,hz⟩:=I4.tuple hx;have hlen:its.toArray.size=xs.length:=by rw[List.size_toArray];exact r.length.symm
 show wpAny (model X.prog X.w) X.A (subscriptTail e _ (.ref a) (.ref s2.heap.objs.size)) (EP X pins σ Q) X.xe _;refine tail_any (ops:=[.ref a,.ref s2.heap.objs.size]) ht.typeIs PyProof.Rows.slot_tuple_getitem.lookup ?_ (by with_unfolding_all rfl);refine HT.oJ ht (Heap.IsSliceOf.new ..) ?_ (by rw[hlen];exact hz);refine⟨.ref _,_,I4.laid (t':=s2.toks) (o:=.tup xs.reverse) (λ b ob q=>Heap.get?_push_of_some _ q) (Nat.le_refl _) ?_,rfl,q _ _ (bO (I4.hok.fresh (Nat.le_refl _)) _) ao⟩;exact⟨by rw[List.length_reverse];exact hz,_,r.reverse,IsTup.new _ _⟩
theorem aHd(h:SE C m e fe):SE C m (.Subscript e (.Slice none none (some (.UnaryOp .USub (.Constant (.int 1) j p3) p4)) p2) pos) (op1 aHo fe):=by
 obtain⟨t,h1,h2⟩:=h;refine⟨aGx C.K t,λ i=>by rw[<-C.hK i];exact aFe (h1 i),λ τ σ H ρ lab Q R W=>h2 τ σ H ρ lab _ R (W.bd.imp λ d _ w x H1 s1 r1=>?_)⟩;obtain⟨z,ez,w⟩:=w.okD;cases d with
 |tup l=>
  cases ez;cases r1 with
  |tup h r=>exact⟨_,_,rfl,h,λ c H' s hc=>w _ H' (s1.trans s) (.tup (SqT.of hc) (r.reverse.up s))⟩
 |_=>cases ez
def aGk(fd:D->D->Rs D)(i:Nat)(fe:En->Rs D):En->Ou:=λ ρ=>(op2 fd (cP i) fe ρ).bo λ d=>.nx (ρ.set i (.sh d))
theorem aH8(he:SE C m e fe)(ho:∀j,PIp (C.X j) op (ipI f))(hN:∀j,(C.X j).N[i]? =some x:=by intro _;rfl)(hx:∀j,Loc (C.X j).env.scope x:=by intro _;first|exact Or.inl rfl|exact Or.inr rfl)(hf:∀j,(C.X j).fn x=true\/(C.X j).env.scope.names.lookup x=some .local:=by intro _;first|exact .inl rfl|exact .inr rfl)(nd:∀j,(C.X j).N.Nodup:=by intro _;assumption):SS C (.AugAssign (.Name x pos') op e pos) (aGk (i2 (λ _ _=>true) λ a b=>.int (f a b)) i fe):=by
 obtain⟨t,h1,h2⟩:=he;refine⟨_,λ j=>aHt (nd j) (hN j) (hx j) (h1 j) (ho j) (hf j),λ τ σ H ρ lab De R W=>?_⟩;have w0:=(WS.bo W).bd;refine aBT C.K C.G i τ σ H ρ lab (λ v H'=>t σ H' λ y H1=>ipI f v y H1 λ z H2=>De.nx (σ.set i (some z)) H2) R (w0.imp λ d _ w v H' s r=>h2 τ σ H' ρ lab _ (R.up s) (w.bd.imp λ e _ w y H1 s1 r1=>?_));obtain⟨z,ez,w⟩:=w.okD;unfold i2 at ez;split at ez
 ·cases ez
  cases r;cases r1;exact⟨_,_,rfl,rfl,w _ _ _ (((R.up s).up s1).put (s:=.sh (.int _)) (Rp.int _))⟩
 ·cases ez
end
section
variable{C:Ct}{pos p:Pos}{m m1 m2 m3:Mode}{a b c e:Expr}{fa fb fc fe:En->Rs D}{ga:En->Rs (List D)}{es:List Expr}
theorem Ct.u0(C:Ct)(i:C.ι):(C.X i).A.units<cLine:=(C.room i).units0
theorem Ct.u64(C:Ct)(i:C.ι):(C.X i).A.units+64<cLine:=(C.room i).units
theorem Ct.ltR(C:Ct)(i:C.ι):OpR (C.X i) (compareOp .Lt) (λ x y H Q=>rI0 (λ i j=>.bl (decide (i<j))) x y H Q\/aF0 C.K x y H Q):=by have h:=aIT (X:=C.X i) (C.u0 i);rw[C.hK i]at h;exact h
theorem Ct.leR(C:Ct)(i:C.ι):OpR (C.X i) (compareOp .LtE) (λ x y H Q=>rI0 (λ i j=>.bl (decide (i<=j))) x y H Q\/aF1 C.K x y H Q):=by have h:=aIV (X:=C.X i) (C.u0 i);rw[C.hK i]at h;exact h
theorem Ct.eqRl(C:Ct)(i:C.ι):OpR (C.X i) (compareOp .Eq) (aDX C.K false):=by have h:=aIZ (X:=C.X i) (C.u64 i);rw[C.hK i]at h;exact h
theorem Ct.neRl(C:Ct)(i:C.ι):OpR (C.X i) (compareOp .NotEq) (aDX C.K true):=by have h:=aIQ (X:=C.X i) (C.u64 i);rw[C.hK i]at h;exact h
theorem Ct.ninRl(C:Ct)(i:C.ι):OpR (C.X i) (compareOp .NotIn) (aF3 C.K true):=by have h:=aCN (X:=C.X i) (C.u64 i);rw[C.hK i]at h;exact h
theorem Ct.aCj(C:Ct)(i:C.ι):OpR (C.X i) (binaryOp .Add) (aDZ C.K):=by have h:=aFt (X:=C.X i);rw[C.hK i]at h;exact h
def qj:D->D->Rs D:=i2 (λ _ _=>true) λ i j=>.int (i-j)
def gf:D->D->Rs D:=i2 (λ _ j=>decide (0<j)&&decide (j<1073741824)) λ i j=>.int (i / j)
def pN:D->D->Rs D:=i2 (λ _ j=>decide (0<j)) λ i j=>.int (i%j)
def aHu:D->D->Rs D:=i2 (λ i j=>decide (0<=j)&&decide (j<=1000000)&&decide (i.natAbs<2^64)) λ i j=>.int (i^j.toNat)
theorem bh(ha:SE C m1 a fa)(hb:SE C m2 b fb):SE C (jn m1 m2) (.BinOp a .Add b pos) (op2 bQ fa fb):=vD C.aCj aIL ha hb
theorem pC(ha:SE C m1 a fa)(hb:SE C m2 b fb):SE C (jn m1 m2) (.BinOp a .Mult b pos) (op2 jZ fa fb):=vD (λ _=>aFo) aIJ ha hb
theorem sE(ha:SE C m1 a fa)(hb:SE C m2 b fb):SE C (some []) (.BinOp a .Sub b pos) (op2 qj fa fb):=gY (vD (λ _=>aIN) aFl ha hb) λ _ _ h=>jG xZ h
theorem rB(ha:SE C m1 a fa)(hb:SE C m2 b fb):SE C (some []) (.BinOp a .FloorDiv b pos) (op2 gf fa fb):=gY (vD (λ _=>aFq) (aA3 λ i j h=>by simpa[aKG]using h) ha hb) λ _ _ h=>jG xZ h
theorem pF(ha:SE C m1 a fa)(hb:SE C m2 b fb):SE C (some []) (.BinOp a .Mod b pos) (op2 pN fa fb):=gY (vD (λ _=>aIS) (aA3 λ i j h=>by simpa using h) ha hb) λ _ _ h=>jG xZ h
theorem aHf(ha:SE C m1 a fa)(hb:SE C m2 b fb):SE C (some []) (.BinOp a .Pow b pos) (op2 aHu fa fb):=gY (vD (λ _=>aIP) (aA3 λ i j h=>by simp only[Bool.and_eq_true,decide_eq_true_eq]at h;exact⟨h.1.1,h.1.2,h.2⟩) ha hb) λ _ _ h=>jG xZ h
theorem aJY(ha:SE C m1 a fa)(hb:SE C m2 b fb):SE C (some []) (.Compare a [.Lt] [b] pos) (op2 ltD fa fb):=gY (wJ C.ltR aDk ha hb) λ _ _ h=>jG aEW h
theorem aGy(ha:SE C m1 a fa)(hb:SE C m2 b fb):SE C (some []) (.Compare a [.Eq] [b] pos) (op2 (eqR false) fa fb):=gY (wJ C.eqRl os_eq ha hb) λ _ _ h=>jG aEX h
theorem aJX(ha:SE C m1 a fa)(hb:SE C m2 b fb):SE C (some []) (.Compare a [.NotEq] [b] pos) (op2 (eqR true) fa fb):=gY (wJ C.neRl os_eq ha hb) λ _ _ h=>jG aEX h
theorem aJZ(ha:SE C m1 a fa)(hb:SE C m2 b fb):SE C (some []) (.Compare a [.Is] [b] pos) (op2 (isD false) fa fb):=gY (wJ (λ _=>aIX) aJb ha hb) λ _ _ h=>jG aIm h
theorem aBO(ha:SE C m1 a fa)(hb:SE C m2 b fb):ST C (.Compare a [.Lt] [b] pos) (tsb (op2 ltD fa fb)):=lC C.ltR aDk ha hb
theorem aJS(ha:SE C m1 a fa)(hb:SE C m2 b fb):ST C (.Compare a [.Gt] [b] pos) (tsb (op2 gtD fa fb)):=lC (λ _=>aJe) wu ha hb
theorem aJT(ha:SE C m1 a fa)(hb:SE C m2 b fb):ST C (.Compare a [.GtE] [b] pos) (tsb (op2 geD fa fb)):=lC (λ _=>aJf) wu ha hb
theorem aCx(ha:SE C m1 a fa)(hb:SE C m2 b fb):ST C (.Compare a [.Eq] [b] pos) (tsb (op2 (eqR false) fa fb)):=lC C.eqRl os_eq ha hb
theorem yP(ha:SE C m1 a fa)(hb:SE C m2 b fb):ST C (.Compare a [.NotEq] [b] pos) (tsb (op2 (eqR true) fa fb)):=lC C.neRl os_eq ha hb
theorem aCw(ha:SE C m1 a fa)(hb:SE C m2 b fb)(hm:behindInMarks .NotIn b=false:=by with_unfolding_all rfl):ST C (.Compare a [.NotIn] [b] pos) (tsb (op2 (inR true) fa fb)):=lC C.ninRl aHL ha hb hm
theorem aFT(ha:SE C m1 a fa)(hb:SE C m2 b fb)(hc:SE C m3 c fc)(hm:lastMarks [.LtE,.LtE] [b,c]=false:=by with_unfolding_all rfl):SE C (some []) (.Compare a [.LtE,.LtE] [b,c] pos) (chD leD leD fa fb fc):=yV C.leR aDl C.leR aDl aIl ha hb hc hm
theorem aFS(ha:SE C m1 a fa)(hb:SE C m2 b fb)(hc:SE C m3 c fc)(hm:lastMarks [.LtE,.Lt] [b,c]=false:=by with_unfolding_all rfl):SE C (some []) (.Compare a [.LtE,.Lt] [b,c] pos) (chD leD ltD fa fb fc):=yV C.leR aDl C.ltR aDk aEW ha hb hc hm
theorem aO(ha:SE C m1 a fa)(hb:SE C m2 b fb)(hp:yK b:=by exact λ _ _=>rfl):SE C m1 (.Subscript a b pos) (op2 ixD fa fb):=by
 obtain⟨t,h1,h2⟩:=ha;obtain⟨u,k1,k2⟩:=hb;refine⟨tOp (rIx C.K) t u,λ i=>by rw[<-C.hK i];exact aDd aIh (h1 i) (k1 i) hp,λ τ σ H ρ lab Q R W=>?_⟩;refine h2 τ σ H ρ lab _ R (W.bd.imp λ d _ w x H1 s1 r1=>?_);refine k2 τ σ H1 ρ lab _ (R.up s1) (w.bd.imp λ e _ w y H2 s2 r2=>?_);obtain⟨z,ez,w⟩:=w.okD;have hi:imm e=true:=by
  unfold ixD at ez;split at ez<;>first|rfl|cases ez
 refine aJa (fpM m1 lab H) x y d e H2 Q z (r1.up s2) (r2.imm hi) ez λ v H' s r=>w v H' ((s1.trans s2).trans s) (r.wk λ p o _ q=>?_)
 rcases q with q|q
 ·exact .inl ((s1.trans s2).free q)
 ·exact q
theorem iI(hm:C.mg "len"=none)(ha:SA C m [a] ga)(he:∀i,starEach [a] (C.X i).env=[(false,eval a (C.X i).env)]:=by intro _;rfl)(hg:∀i,Gl (C.X i) "len":=by intro _;rfl):SE C (some []) (.Call (.Name "len" p) [a] [] pos) (opA gM ga):=
 gY (nq (λ i=>by have h:=yE (X:=C.X i);rw[C.hK i]at h;exact h) aIt hg hm PySem.boot_len ha (by decide) (by decide) he) λ _ _ h=>rJ aGY h
theorem aHh(hm:C.mg "all"=none)(ha:SA C m [a] ga)(he:∀i,starEach [a] (C.X i).env=[(false,eval a (C.X i).env)]:=by intro _;rfl)(hg:∀i,Gl (C.X i) "all":=by intro _;rfl)(hv:bootBuiltins "all"=some (.builtin "all"):=by decide+kernel):SE C (some []) (.Call (.Name "all" p) [a] [] pos) (opA (yJ λ bs=>bs.all id) ga):=
 gY (nq (λ i=>aEp (C.calm i)) aIu hg hm hv ha (by decide) (by decide) he) λ _ _ h=>rJ aGZ h
theorem wI(hm:C.mg "min"=none)(ha:SA C m [a,b] ga)(he:∀i,starEach [a,b] (C.X i).env=(false,eval a (C.X i).env)::starEach [b] (C.X i).env:=by intro _;rfl)(hpl:∀i,(backTo pos (starEach [b] (C.X i).env)).any (·.1)=false:=by intro _;rfl)(hg:∀i,Gl (C.X i) "min":=by intro _;rfl)(hv:bootBuiltins "min"=some (.builtin "min"):=by decide+kernel):SE C (some []) (.Call (.Name "min" p) [a,b] [] pos) (opA (mmD λ i j=>if j<i then j else i) ga):=
 gY (nq (λ i=>aCf (C.calm i)) aHU hg hm hv ha (by decide) (by decide) he hpl) λ _ _ h=>rJ aEV h
theorem aBX(hm:C.mg "max"=none)(ha:SA C m [a,b] ga)(he:∀i,starEach [a,b] (C.X i).env=(false,eval a (C.X i).env)::starEach [b] (C.X i).env:=by intro _;rfl)(hpl:∀i,(backTo pos (starEach [b] (C.X i).env)).any (·.1)=false:=by intro _;rfl)(hg:∀i,Gl (C.X i) "max":=by intro _;rfl)(hv:bootBuiltins "max"=some (.builtin "max"):=by decide+kernel):SE C (some []) (.Call (.Name "max" p) [a,b] [] pos) (opA (mmD λ i j=>if j>i then j else i) ga):=
 gY (nq (λ i=>aCg (C.calm i)) aHU hg hm hv ha (by decide) (by decide) he hpl) λ _ _ h=>rJ aEV h
theorem jW(hm:C.mg "tuple"=none)(ha:SA C m [a] ga)(he:∀i,starEach [a] (C.X i).env=[(false,eval a (C.X i).env)]:=by intro _;rfl)(hg:∀i,Gl (C.X i) "tuple":=by intro _;rfl)(hv:bootBuiltins "tuple"=some (.type "tuple"):=by decide+kernel):SE C m (.Call (.Name "tuple" p) [a] [] pos) (opA cj ga):=
 aDL (λ i=>by have h:=ut (X:=C.X i);rw[C.hK i]at h;exact h) aEj hg hm hv ha (by decide) (by decide) he
theorem aHi{K:PySem.W.Frag}{a:Addr}(hO:Only H)(h:SqL K H a (ns.map V.int)):my K H a ns:=by
 rcases h with (h|⟨o,h⟩)|h
 ·rcases hO a with z|⟨o,xs,z⟩
  ·rw[h]at z;cases z
  ·rw[h]at z;cases z
 ·exact .inl ⟨o,h⟩
 ·exact .inr h
end
def yh:V->List V->Hp->VK->Prop:=λ x vs H Q=>∃l b xs zs,x= .ref l/\vs=[.ref b]/\H l=some (.lst xs)/\H b=some (.lst zs)/\xs.length+zs.length<=sizeLine/\∀H',kJ l H H'->H' l=some (.lst (xs++zs))->Q .non H'
theorem aA8:MtM X "list.extend" yh:=λ pins s σ H x xs v us Q I rx rv ⟨l,b,ys,zs,e1,e2,h,h2,z,n⟩=>
 aCR pins s σ H x xs v us Q I rx rv ⟨l,b,ys,zs,e1,e2,h,h2,z,n _ (λ b o ne hb=>by rw[aa ne];exact hb) ao⟩
section
variable{C:Ct}{pos apos cpos p:Pos}{e tg:Expr}{fe:En->Rs D}{fg:D->En->Rs En}{i:Nat}{x:Str}{m:Mode}{ks:List Nat}
def aGc(ds:List D)(k:List D->Ou):D->Ou
 | .lst es=>if ds.length+es.length<=sizeLine then k (ds++es)else .st
 |_=>.st
def aGb(i:Nat)(fe:En->Rs D):En->Ou:=λ ρ=>match ρ[i]? with
 |some (.ow (.lst ds))=>(fe ρ).bo (aGc ds λ l=>.nx (ρ.set i (.ow (.lst l))))
 |_=>.st
theorem aBx(i:Nat)(he:SE C m e fe)(hm:okN m=true:=by rfl)(hN:∀j,(C.X j).N[i]? =some x:=by intro _;rfl)(hv:∀j,Vis (C.X j).env.scope x:=by intro _;first|exact Or.inl rfl|exact Or.inr (Or.inl rfl)|exact Or.inr (Or.inr rfl))(hd:(x==("__debug__":Str))=false:=by decide)
  (hcd:(x==("__classdict__":Str))=false:=by decide)(hs1:∀j,starEach [e] (C.X j).env=[(false,eval e (C.X j).env)]:=by intro _;rfl)
  (hbase:∀j,attributeBase (.Name x p) "extend" (C.X j).env (eval (.Name x p) (C.X j).env)=eval (.Name x p) (C.X j).env:=by intro _;rfl)
  (hfew:∀j,((backTo cpos (starEach [e] (C.X j).env)).all (λ x=>!x.1)&&(backToKw cpos (keywordEach [] (C.X j).env)).all (λ x=>x.1.isSome)&&decide ([e].length+([]:List Keyword).length+(if ([]:List Keyword).isEmpty then 0 else 1)<30))=true:=by intro _;rfl)
  (hline:(apos.endLine==cpos.line)=true:=by rfl)
  (hsw:∀j,swapsWith (.Call (.Attribute (.Name x p) "extend" apos) [e] [] cpos) none pos.line (C.X j).env=pure false:=by intro _;rfl):
  SS C (.Expr (.Call (.Attribute (.Name x p) "extend" apos) [e] [] cpos) pos) (aGb i fe):=by
 obtain⟨t,h1,h2⟩:=he;refine⟨rT (tBM C.K "list" yh (km i) (gZ t lA)),λ j=>lq (by rw[<-C.hK j];exact vK PySem.F.plainAttrs_list PySem.F.slot_list_extend PySem.F.type_list_extend aA8 (fD (hN j) (hv j) hd hcd) (aZ (h1 j) cF (hs1 j)) (hbase j) (hfew j) hline (hs1 j) rfl) (hsw j),λ τ σ H ρ lab De R W=>?_⟩;unfold aGb at W;cases es:ρ[i]? with
 |none=>rw[es]at W;exact False.elim W
 |some s=>
  rw[es]at W;split at W
  ·rename_i ds hs
   cases hs;rcases R.sl i _ es with z|⟨v,ev,hv'⟩
   ·cases z
   ·obtain⟨hv1,htop⟩:=hv'
    obtain⟨a0,ea0,la0⟩:=htop rfl;subst ea0;cases hv1 with
    |lst h mm r=>
     rename_i xs;refine⟨.ref a0,ev,.inl ⟨rfl,xs,SqL.of h⟩,h2 τ σ H ρ lab _ R (W.bo.imp λ d _ w y H2 s2 r2=>?_)⟩;cases d with
     |lst es'=>
      dsimp only[aGc]at w;by_cases hz:ds.length+es'.length<=sizeLine
      ·rw[if_pos hz]at w
       obtain⟨R',r'⟩:=R.fresh (P:=λ k=>k=1) rfl (λ k hk=>beq_iff_eq.mp (lw hm k hk)) s2 r2;have la:(bc H 1 lab a0).1=i+2:=by rw[bM h];exact la0
       cases r' with
       |lst hb mb rb=>
        rename_i b zs;refine⟨a0,b,xs,zs,rfl,rfl,s2 _ _ h,hb,by rw[r.length,rb.length];exact hz,λ H3 B h3=>?_⟩;refine w σ H3 _ (R'.mut ev (s2 _ _ h) rfl la B ⟨.lst h3 (.inr la) ?_,λ _=>⟨a0,rfl,la⟩⟩);have ra:Rps C.K (λ p=>((bc H 1 lab p).1=1\/(bc H 1 lab p).1=i+2)/\p≠a0) H2 (xs++zs) (ds++es'):=by
         refine(r.mono s2 λ p o e z=>⟨by rw[bM e];exact z.1,z.2⟩).append (rb.wk λ p o e z=>⟨.inl z.1,λ q=>?_⟩);subst q;have z1:(bc H 1 lab p).1=1:=z.1;omega
        exact ra.but B (s2 _ _ h) rfl λ z=>z.2 rfl
      ·rw[if_neg hz]at w
       exact False.elim w
     |_=>exact False.elim w
  ·exact False.elim W
end
section
variable{K:PySem.W.Frag}
end
section
variable{C:Ct}{pos p:Pos}{a:Expr}{ga:En->Rs (List D)}{m:Mode}
end
section
variable{C:Ct}{pos:Pos}{a b:Expr}{fa fb:En->Rs D}{m1 m2:Mode}
end
abbrev ctL(P:Program)(w:World)(K:PySem.W.Frag)(mg:Str->Option Value)(base:Heap)(N:List Str)(q:Str)(sc:Scope)(cl:List (Str×Addr))(f:Addr)(cdv:Value)(A:Around)(outer:List Env)(s:Shared)(H:Hp)(E:XK)(k:Nat)(hr:dG k (A.deeper (PySem.W.envX q sc s.heap.objs.size f cdv cl))):Ct where
 ι:=Unit
 X:=λ _=>cxL P w K mg base N q sc cl f cdv A outer s H E
 prog:=P
 w:=w
 K:=K
 mg:=mg
 base:=base
 k:=k
 G:=⟨H,E,aq mg⟩
 cx:=λ _=>⟨rfl,rfl,rfl,rfl,rfl⟩
 calm:=λ _=>rfl
 room:=λ _=>hr
 own:=λ _=>cQ.own cQ.ofL
 pass:=λ _=>cQ.pass cQ.ofL
 dOk:=true
 dcx:=λ _ _=>cQ.ofL
def shS:Slot->Slot
 | .no=>.no
 | .sh d=>.sh d
 | .nw d=>.sh d
 | .ow d=>.sh d
 | .oz d=>.sh d
 | .o2 l=>.sh (.lst (l.map .lst))
theorem cV.shut{K:PySem.W.Frag}{H:Hp}{lab:Lab}{i:Nat}{v:V}{x:Slot}(h:cV K H lab i v x):cV K H (λ _=>(0,0)) i v (shS x):=by
 cases x with
 |no=>exact trivial
 |sh d=>exact Rp.wk (λ _ _ _ _=>Nat.zero_le _) h
 |nw d=>exact Rp.wk (λ _ _ _ _=>Nat.zero_le _) h
 |ow d=>exact Rp.wk (λ _ _ _ _=>Nat.zero_le _) h.1
 |oz d=>
  obtain⟨a,xs,ds,rfl,rfl,e3,e4,e5⟩:=h;exact .lst e3 (Nat.zero_le _) (Rps.wk (λ p o e z=>⟨Nat.zero_le _,λ ep=>by
   have z':(lab p).1<=1:=z;rw[ep,e4]at z';omega⟩) e5)
 |o2 l=>exact Rp.wk (λ _ _ _ _=>Nat.zero_le _) (yt h)
theorem RR.shut{K:PySem.W.Frag}{G:Gx}{τ:List (V×D)}{ρ:En}{σ:L2.St}{H:Hp}{lab:Lab}{E:XK}{cl:Str->Addr}(R:RR K G τ ρ σ H lab):RR K ⟨H,E,cl⟩ [] (ρ.map shS) σ H (λ _=>(0,0)):=by
 refine⟨by rw[List.length_map];exact R.len,λ i s e=>?_,aU.refl H,λ p hp=>absurd rfl hp,λ q hq=>by cases hq⟩;rw[List.getElem?_map]at e;cases hr:ρ[i]? with
 |none=>rw[hr]at e;cases e
 |some x=>
  rw[hr]at e;cases e;rcases R.sl i x hr with z|⟨v,e1,e2⟩
  ·subst z;exact .inl rfl
  ·exact .inr ⟨v,e1,e2.shut⟩
def aJV(cl:Str->Addr)(H1:Hp)(r:Rs D):Sp:=λ vs H Q E=>vs=[]/\aU H1 H/\WR ⟨H,E,cl⟩ r (λ _=>∀v H',aU H H'->Q v H')
def aFZ(wn:Str->Option Str)(told:Str)(fe:En->Rs D):En->Rs D:=λ ρ=>match fe (ρ.map shS)with
 | .ok _=>.ok (.str told)
 | .ex c=>(match wn c with
  |some w=>.ok (.str w)
  |none=>.st)
 | .st=>.st
def aJL(P:Program)(w:World)(K:PySem.W.Frag)(mg:Str->Option Value)(N:List Str)(q:Str)(params:Arguments)(body:Expr)(scope:Scope)(k0:Nat)(told:Str)(wd:Addr->Option Str)(E:XK):TE:=λ σ H Q=>
 ∀(base:Heap) (cl:List (Str×Addr)) (f c':Addr) (ctv pm:Value) (H1:Hp),aU H H1->zq q params body scope cl pm H1 f c' ctv->aEz base N σ scope cl->spR P w K mg base k0 told wd [.ref f] H1 Q E
section
variable{C:Ct}{m:Mode}{x pc told q:Str}{p pos lpos:Pos}{k k0 kb:Nat}{fn:Addr}{fd:FuncData}{wd:Addr->Option Str}{wn:Str->Option Str}{params:Arguments}{body:Expr}{scope:Scope}{N:List Str}{fe:En->Rs D}
theorem aHe(hF:∀base,cg C.prog C.w C.K C.mg base (CX1 C.prog C.w) k fn fd [pc] (spR C.prog C.w C.K C.mg base k0 told wd))(hr:k<=C.k)(hm:C.mg x=some (.ref fn))(hk:PySem.W.keepIn C.K (.ref fn)=true)(hb:Binds C.K fd [pc] [])
  (hL:∀i,(∃P,qi (C.X i) P)/\(C.X i).outer=[]/\(C.X i).N=N/\(C.X i).tq=q)(S:uU scope)(hcl:C.G.cl=aq C.mg)(hwn:∀c w,wn c=some w->wd (aq C.mg c)=some w)(hkb:kb+1<=k0)
  (hbody:∀base cl f cd A outer s H E hr,SE (ctL C.prog C.w C.K C.mg base N q scope cl f cd A outer s H E kb hr) m body fe)
  (hbnd:∀cl pm c' ctv,bindArgs (PySem.W.kla_fn "<lambda>" q params body scope cl pm (.ref c') ctv) ⟨[],[]⟩=pure []:=by intro _ _ _ _;rfl)(hdef:∀i,defaultsOf params (C.X i).env=([],[]):=by intro _;rfl)
  (hfree:∀i,∀y∈scope.names,y.2= .free->(C.X i).env.kindOf y.1=some .cell\/(C.X i).env.kindOf y.1=some .free)(hdb:(x==("__debug__":Str))=false:=by decide)(hg:∀i,Gl (C.X i) x:=by intro _;rfl):
  SE C (some []) (.Call (.Name x p) [.Lambda params body scope lpos] [] pos) (aFZ wn told fe):=by
 refine⟨aJL C.prog C.w C.K C.mg N q params body scope k0 told wd C.G.E,λ i=>?_,λ τ σ H ρ lab Q R W=>?_⟩
 ·obtain⟨e1,e2,e3,e4,e5⟩:=C.cx i
  obtain⟨⟨P,Lx⟩,ho,eN,eq⟩:=hL i;intro pins s σ H Q I h;refine wpAny_Call_Name_kw (lz I (hg i) (by rw[e4];exact hm) ?_ hdb);have ha:PA (C.X i) [.Lambda params body scope lpos] _:=aZ (aIF Lx (hdef i) (hfree i)) cF;refine PySem.W.callWith_K (h₀:=(C.X i).base) I.ok.mod.kin (by rw[e3];exact hk) (thn (ha pos pins s σ H (λ vs H1=>aU H H1/\∃f c' ctv,vs=[.ref f]/\zq (C.X i).tq params body scope (L2.aq scope (C.X i).env) (((C.X i).mg "__name__").getD .none) H1 f c' ctv) I
   (λ f c' ctv H' sm l=>⟨sm,f,c',ctv,rfl,l⟩)) λ us s1 ⟨vs,H1,I1,r,sm,f,c',ctv,ev,la⟩=>⟨I1.kIn,?_⟩)
  subst ev;have hz:=h (bse (C.X i) s1 H1) (L2.aq scope (C.X i).env) f c' ctv _ H1 sm (by rw[<-eq];exact la) (by rw[<-eN];exact aIv I1 ho S (hfree i));exact aFW (CX:=CX1 (C.X i).prog (C.X i).w) I1 (by rw[e1,e2,e3,e4];exact hF _) ((C.room i).mono hr) (by rw[e3];exact hb) (C.pass i) r (by rw[e1,e2,e3,e4]at*;exact hz)
 ·intro base cl f c' ctv pm H1 sm la cp
  have R1:=R.up sm;have FL:cg C.prog C.w C.K C.mg base (CX1 C.prog C.w) (kb+1) f (PySem.W.kla_fn "<lambda>" q params body scope cl pm (.ref c') ctv) [] (aJV (aq C.mg) H1 (fe (ρ.map shS))):=by
   refine aI8 la S cp (λ vs H Q E h=>⟨h.1,h.2.1⟩) λ A outer s H2 Q2 E2 hr2 hsp=>?_
   obtain⟨t,h1,h2⟩:=hbody base cl f (.ref c') A outer s H2 E2 hr2;exact⟨t,h1 (),h2 [] σ H2 _ _ Q2 (R1.up hsp.2.1).shut (hsp.2.2.imp λ d _ z v H' s' _=>z v H' s')⟩
  refine⟨f,_,_,_,_,kb+1,_,rfl,la.1,FL,hkb,λ s us _ hl=>?_,rfl,aU.refl H1,?_⟩
  ·have e:us=[]:=by
    rw[List.append_nil]at hl;exact List.length_eq_zero_iff.mp hl
   subst e;exact .of_eq (hbnd cl pm c' ctv)
  ·unfold aFZ at W
   cases he:fe (ρ.map shS)with
   |ok d=>rw[he]at W;exact λ v H' s'=>W (.str told) H' (sm.trans s') (.str told)
   |ex c=>
    rw[he]at W;cases hw:wn c with
    |none=>simp only[hw]at W;exact W.elim
    |some w=>
     simp only[hw]at W;exact λ H' s'=>⟨_,w,rfl,hwn c w hw,λ H'' s''=>W (.str w) H'' (sm.trans (s'.trans s'')) (.str w)⟩
   |st=>rw[he]at W;exact W.elim
end
end VL
namespace L2
open PySem PySem.Spec PyProof.Rows
def cxW(P:Program)(w:World)(K:PySem.W.Frag)(mg:Str->Option Value)(base:Heap)(N:List Str)(qual:Str)(scope:Scope)(f:Addr)(cd:Value)(A:Around)(s:Shared)(H:Hp)(Pt:Addr):Cx where
 prog:=P
 w:=w
 K:=K
 mg:=mg
 base:=base
 A:=A.deeper (envOfC qual scope s.heap.objs.size f cd)
 N:=N
 s₀:=s
 H₀:=H
 env:=envOfC qual scope s.heap.objs.size f cd
 outer:=[]
 stack:=[envOfC qual scope s.heap.objs.size f cd]
 ex:=[Pt]
 calm:=true
 fn:=λ _=>true
 pn:=[]
 xe:=λ _ _=>False
 ta:=[(Pt,PySem.W.tabObj #[])]
 tq:=qual++".<locals>."++"<lambda>"
section
variable{P:Program}{w:World}{K:PySem.W.Frag}{mg:Str->Option Value}{base:Heap}{N ps:List Str}{qual:Str}{scope:Scope}{f Pt:Addr}{cd:Value}{A:Around}{s s1:Shared}{H:Hp}{vs:List V}{us:List Value}
theorem aAt(S:ak N ps scope)(hd:A.handled=none)(e0:zx P w K mg base A [] s H)(hl:vs.length=ps.length)(r:Vals vs us)
  (hP:s.heap.get? Pt=some (PySem.W.tabObj #[]))(hH:H Pt=none)(hb:base.get? Pt=none)
  (x:InCallC s s.heap.objs.size (bindL (envOfC qual scope s.heap.objs.size f cd).kindOf (ps.zip us) λ _=>none) (cellsFrom (s.heap.objs.size+1) scope.names []) (bindC (envOfC qual scope s.heap.objs.size f cd).kindOf (ps.zip us) λ _=>none) s1):
  Inv (cxW P w K mg base N qual scope f cd A s H Pt) [] (start N vs) H s1:=by
 have I:Inv (qw (CX1 P w) P w K mg base N qual scope f cd A [] s H λ _ _ _=>False) [] (start N vs) H s1:=pW S hd e0 hl r x;obtain⟨h1,tk,e1,hk⟩:=x.done;have hlt:=Heap.lt_size hP;have hne:∀b∈[Pt],b≠s.heap.objs.size:=λ b hb z=>by
  have e:b=Pt:=by simpa using hb
  rw[e]at z;exact absurd hlt (by rw[z];exact Nat.lt_irrefl _)
 refine⟨⟨I.ok.mod,I.ok.kind,I.ok.glob,I.ok.blt,I.ok.above,I.ok.inj,I.ok.has,I.ok.cab,I.ok.hd,I.ok.frames,I.ok.stk,λ b hb2=>⟨hne b hb2,λ y c e z=>?_⟩,I.ok.bs,I.ok.bsz,λ b o e hb'=>?_,λ b _=>λ z=>(nomatch z),I.ok.funs,I.ok.frf⟩,
  I.os,I.bare,I.base.mono (λ b z=>z) (λ b z=>(nomatch z)),I.loc,I.cell,I.free,I.freeC,I.pin,I.hok,I.len,λ p hp=>?_⟩
 ·have q:s.heap.objs.size<=c:=I.ok.cab y c rfl e
  have e2:b=Pt:=by simpa using(show b∈[Pt]from hb2)
  rw[z,e2]at q;exact absurd hlt (Nat.not_lt.mpr q)
 ·have e2:b=Pt:=by simpa using(show b∈[Pt]from hb')
  have e3:base.get? b=some o:=e;rw[e2,hb]at e3;cases e3
 ·have e2:p=(Pt,PySem.W.tabObj #[]):=by simpa using(show p∈[(Pt,PySem.W.tabObj #[])]from hp)
  subst e2;refine⟨hH,hne Pt List.mem_cons_self,λ z=>(nomatch z),λ q hq=>(nomatch hq),#[],?_,trivial,λ pos cv e=>nomatch e⟩;subst e1;exact hk _ _ hP
end
theorem aCY{P:Program}{w:World}{K:PySem.W.Frag}{mg mb:Str->Option Value}{k:Nat}{fa a c Pt:Addr}{x:Str}{s₁:Shared}{vs:List Value}{ns:List Int}{N:List Str}{oc doc pm ct dV kV:Value}{od:Option Addr}{osl:Array (Option Value)}{name qual:Str}{params:Arguments}{body:List Stmt}{scope:Scope}{an:Option Addr}
  (KX:K.In s₁.heap)(hns:s₁.heap.Ns mainGlobals mg)(hb:s₁.heap.Ns builtinsNs mb)(hbb:∀x:Str,x≠"__name__"->mb x=bootBuiltins x)(hlim:s₁.heap.NoLimit)(hg:s₁.gens=#[])
  (ha:s₁.heap.get? a=some {cls:=.type "list",data:=.seq vs.toArray})(hi:IntsAre vs ns)(hl:ns.length<=sizeLine)(hr:dG (k+1) callerA)
  (hP:s₁.heap.get? Pt=some (PySem.W.tabObj #[]))(hKP:K.lookup Pt=none)(hC:PySem.W.codeHdIn K c Pt=true)(hbl:s₁.heap.BuiltinsAt mg Pt)
  (lk:K.lookup fa=some ⟨oc,od,.func (PySem.W.fnOf name qual params body scope dV kV doc pm an (.ref c) ct),osl⟩)(hcd:PySem.W.codeIn K (.ref c) qual=true)(S:ak N [x] scope)
  (hbind:∀(s:Shared) (u:Value),BindsTo s (PySem.W.fnOf name qual params body scope dV kV doc pm an (.ref c) ct) ⟨[u],[]⟩ [(x,u)])
  (hbody:∀(base:Heap) (s:Shared) (H:Hp),dG k (callerA.deeper (envOfC qual scope s.heap.objs.size fa (.ref c)))->qi (cxW P w K mg base N qual scope fa (.ref c) callerA s H Pt) Pt->Only H->SqL K H a (ns.map V.int)->
   ∃t,PSs (cxW P w K mg base N qual scope fa (.ref c) callerA s H Pt) body t/\t {nx:=λ _ _=>False,rt:=λ v _=>v= .bl true} (start N [.ref a]) H):
  codeAny (model P w) callerA (.call (.ref fa) ⟨[.ref a],[]⟩) (λ r s'=>r= .ok (.ret (.bool true))/\OldK s₁.heap s'.heap/\s'.os=s₁.os/\AllBare s'.gens) s₁:=by
 have rv:=uy hi;have lenV:=hi.length;have aP:a≠Pt:=λ z=>by
  rw[z,hP]at ha;have e2:=congrArg Obj.cls (Option.some.inj ha);cases e2
 have core:∀H:Hp,Only H->SqL K H a (ns.map V.int)->HOk P w H s₁.heap->(∀b,H b≠none->b=a)->(H a≠none->K.lookup a=none)->
   codeAny (model P w) callerA (.call (.ref fa) ⟨[.ref a],[]⟩) (λ r s'=>r= .ok (.ret (.bool true))/\OldK s₁.heap s'.heap/\s'.os=s₁.os/\AllBare s'.gens) s₁:=by
  intro H hO hS hok hA hK;have hPn:H Pt=none:=by
   cases q:H Pt with
   |none=>rfl
   |some u=>exact absurd (hA Pt (by rw[q];simp)).symm aP
  let B:=PySem.W.hideAll (aE1 s₁.heap H) [Pt];have base_of:∀{b:Addr} {o:Obj},s₁.heap.get? b=some o->H b=none->b≠Pt->B.get? b=some o:=λ e n ne=>PySem.W.hideAll_get _ (aE0 e n) (by simpa using ne)
  have noA:∀{b:Addr} {o:Obj} {es:Array DictEntry} {ep:Nat},s₁.heap.get? b=some o->o.data= .dict es ep->H b=none/\b≠Pt:=λ{b o es ep} e d=>by
   refine⟨?_,λ z=>?_⟩
   ·cases q:H b with
    |none=>rfl
    |some u=>
     have e':b=a:=hA b (by rw[q];simp);subst e';rw[ha]at e;cases e;have d':Data.seq vs.toArray _=Data.dict es ep:=d;cases d'
   ·rw[z,hP]at e
    cases e;cases d
  have nsK:∀{b:Addr} {m:Str->Option Value},s₁.heap.Ns b m->B.Ns b m:=λ{b m} ⟨o,es,ep,e,d,r⟩=>⟨o,es,ep,base_of e (noA e d).1 (noA e d).2,d,r⟩
  have hKb:K.In B:=λ b o e=>base_of (KX b o e) (by
   cases q:H b with
   |none=>rfl
   |some u=>
    have e':b=a:=hA b (by rw[q];simp);subst e';rw[hK (by rw[q];simp)]at e;cases e) (λ z=>by rw[z,hKP]at e;cases e)
  have hM:Mod K mg B:=⟨hKb,nsK hns,⟨mb,nsK hb,hbb⟩,let⟨mc,h1,h2⟩:=hlim;⟨mc,nsK h1,h2⟩⟩;have e0:zx P w K mg B callerA [] s₁ H:=⟨rfl,hM,λ b o e=>aFv (PySem.W.of_hideAll _ e),Nat.le_of_eq ((PySem.W.hideAll_size _ _).trans (aC6 _ _)),trivial,λ b hb=>absurd (show b∈([]:List Addr)from hb) (by simp),hok,.of_eq hg⟩;have gP:mainGlobals≠Pt:=by
   obtain⟨o,es,ep,e,d,_⟩:=hns;exact(noA e d).2
  have hLx:qi (cxW P w K mg B N qual scope fa (.ref c) callerA s₁ H Pt) Pt:=by
   refine⟨⟨_,rfl⟩,List.mem_cons_self,rfl,⟨c,rfl,PySem.W.codeHd_of_K hKb hC⟩,?_,gP⟩;obtain⟨bm,o,b1,b2,b3,b4,b5,b6,b7,b8⟩:=hbl;refine⟨bm,o,b1,b2,b3,b4,base_of b5 ?_ b4,b6,b7,b8⟩;cases q:H bm with
   |none=>rfl
   |some u=>
    have e':bm=a:=hA bm (by rw[q];simp);rw[e',ha]at b5;cases b5;cases b8
  have hkind:∀y∈[x].zip [Value.ref a],scope.names.lookup y.1=some .local\/(scope.names.lookup y.1=some .cell/\((cellsFrom (s₁.heap.objs.size+1) scope.names []).lookup y.1).isSome=true):=λ⟨n,v⟩ hy=>by
   rcases S.par n (List.of_mem_zip hy).1 with q|q
   ·exact .inl q
   ·exact .inr ⟨q,PySem.W.cellsFrom_some _ _ _ (.inl q)⟩
  refine codeAny_call_function hr.depth (KX _ _ lk) rfl S.co S.gen rfl (PySem.W.codeRec_of KX hcd) (hbind s₁ (.ref a) _ _ _ _ ?_);refine wpAny_newFunctionEnv_cells S.kind hkind λ env he s1 x'=>?_
  subst he;refine⟨hlim.keeps x'.toInCall.keep,codeAny_func ?_⟩;obtain⟨t,ht,hq⟩:=hbody B s₁ H (hr.deeper _) hLx hO hS;have I:Inv (cxW P w K mg B N qual scope fa (.ref c) callerA s₁ H Pt) [] (start N [.ref a]) H s1:=aAt (ps:=[x]) (us:=[.ref a]) S hr.hd e0 rfl (.cons rfl .nil) hP hPn (PySem.W.hideAll_none _ List.mem_cons_self) x';refine wpAny_mono (ht [] s1 (start N [.ref a]) H _ I hq) (λ fl s' hs=>?_) λ e s' hs=>hs.elim
  cases fl with
  |next=>obtain⟨_,_,_,q⟩:=hs;exact q.elim
  |brk=>obtain⟨_,_,_,q⟩:=hs;exact q.elim
  |cont=>obtain⟨_,_,_,q⟩:=hs;exact q.elim
  |ret u=>
   obtain⟨v,σ',H',J,rv',q⟩:=hs;have q':v= .bl true:=q;subst q';obtain rfl:u=Value.bool true:=rv';obtain⟨_,_,_,_,ps,hps,_⟩:=J.tab (Pt,PySem.W.tabObj #[]) List.mem_cons_self;have all:∀b o,s₁.heap.get? b=some o->b≠Pt->s'.heap.get? b=some o:=λ b o e ne=>by
    cases q:H b with
    |none=>exact J.base.keep b o e q (λ z=>(nomatch z)) (by simpa[cxW]using ne)
    |some u=>
     rcases hO b with z|⟨ob,xs,z⟩
     ·rw[q]at z;cases z
     ·have z2:=J.base.frzs b ob _ z
      obtain⟨e1,_⟩:=hok b _ z;obtain⟨e2,_⟩:=J.hok b _ z2;rw[e]at e1;cases e1;exact e2
   refine⟨rfl,⟨λ b o e=>?_,λ b o e=>?_⟩,J.os,J.bare⟩
   ·by_cases hbP:b=Pt
    ·subst hbP
     rw[hP]at e;cases e;obtain⟨⟨o1,vs1,f1,f2,f3,f4⟩,_⟩:=(PySem.W.codeHd_of_K KX hC).tab hP;exact .inr (.inl ⟨⟨c,o1,vs1,f1,f2,f3,f4⟩,rfl,#[],ps,rfl,by simpa using hps⟩)
    ·exact .inl (all b o e hbP)
   ·by_cases hbP:b=Pt
    ·subst hbP;exact⟨_,hps⟩
    ·exact⟨o,all b o e hbP⟩
 cases hk:K.lookup a with
 |some o=>
  have e:=KX a o hk;rw[ha]at e;cases e;refine core (λ _=>none) (λ _=>.inl rfl) (.inr ⟨_,vs.toArray,_,hk,rfl,rfl,rfl,by rw[List.size_toArray,lenV];exact hl,by simpa using rv⟩) (λ b u z=>by have z':(none:Option HO)=some u:=z;cases z') (λ b z=>absurd rfl z) λ z=>absurd rfl z
 |none=>
  refine core (λ b=>if b=a then some (.frz {cls:=.type "list",data:=.seq vs.toArray} (.lst (ns.map V.int)))else none) (λ b=>?_) (.inl (.inr ⟨{cls:=.type "list",data:=.seq vs.toArray},if_pos rfl⟩)) (λ b u z=>?_) (λ b z=>?_) λ _=>hk
  ·by_cases hb:b=a
   ·exact .inr ⟨_,_,if_pos hb⟩
   ·exact .inl (if_neg hb)
  ·by_cases hb:b=a
   ·have z':=(if_pos hb).symm.trans z
    cases z';subst hb;exact⟨ha,by rw[List.length_map];exact hl,vs,_,rv,ha⟩
   ·have z':=(if_neg hb).symm.trans z
    cases z'
  ·by_cases hb:b=a
   ·exact hb
   ·exact absurd (if_neg hb) z
end L2
namespace VL
open PySem PySem.Spec PyProof.Rows L2
abbrev ctW(P:Program)(w:World)(K:PySem.W.Frag)(mg:Str->Option Value)(base:Heap)(N:List Str)(q:Str)(sc:Scope)(f:Addr)(cdv:Value)(A:Around)(s:Shared)(H:Hp)(Pt:Addr)(k:Nat)(hr:dG k (A.deeper (envOfC q sc s.heap.objs.size f cdv))):Ct where
 ι:=Unit
 X:=λ _=>cxW P w K mg base N q sc f cdv A s H Pt
 prog:=P
 w:=w
 K:=K
 mg:=mg
 base:=base
 k:=k
 G:=⟨H,λ _ _ _=>False,aq mg⟩
 cx:=λ _=>⟨rfl,rfl,rfl,rfl,rfl⟩
 calm:=λ _=>rfl
 room:=λ _=>hr
 own:=λ _=>λ _ _ h=>False.elim h
 pass:=λ _=>λ _ _ _ _ _ _ _ ⟨_,_,_,_,_,_,_,_,_,_,_,_,_,z⟩=>z
 dOk:=false
 dcx:=λ z=>nomatch z
theorem aEF{P:Program}{w:World}{K:PySem.W.Frag}{mg:Str->Option Value}{base:Heap}{N:List Str}{q:Str}{sc:Scope}{fa a Pt:Addr}{cdv:Value}{A:Around}{s:Shared}{H:Hp}{k:Nat}{hr:dG k (A.deeper (envOfC q sc s.heap.objs.size fa cdv))}{body:List Stmt}{f:En->Ou}{ns:List Int}
  (hb:SSs (ctW P w K mg base N q sc fa cdv A s H Pt k hr) body f)(e:fL N.length f [.scr ns]= .ok (.bl true))(r:Rps K (λ _=>True) H [.ref a] [.scr ns]):
  ∃t,PSs (cxW P w K mg base N q sc fa cdv A s H Pt) body t/\t {nx:=λ _ _=>False,rt:=λ v _=>v= .bl true} (start N [.ref a]) H:=by
 obtain⟨t,h1,h2⟩:=hb;refine⟨t,h1 (),h2 [] _ H _ _ _ (RR.start r) ?_⟩;unfold fL at e;cases ef:f (bG N.length [.scr ns])with
 |nx ρ=>rw[ef]at e;cases e
 |rt d=>rw[ef]at e;cases e;exact λ v H' s r=>r.bl_inv
 |ex c=>rw[ef]at e;cases e
 |bk ρ=>rw[ef]at e;cases e
 |ct ρ=>rw[ef]at e;cases e
 |st=>rw[ef]at e;cases e
theorem aAP{P:Program}{w:World}{K:PySem.W.Frag}{mg:Str->Option Value}{base:Heap}{x q n0 n1 n2 few cn pe told:Str}{st:Stmt}{f fc C':Addr}{fd fdc:FuncData}{kc k0:Nat}{wd:Addr->Option Str}{p1 p2 p3 p4 p5 p6 p7 p8 p9 p10 p11 p12 p13 p14 p15 p16:Pos}{j1:Nat}
  (F:L2.Fun K x q st f fd)(S:ak [n0,n1,n2] [n0] (aG st))(hst:cM st=[.Assign [.Name n1 p1] (.Constant (.str told) j1 p2) p3,.Try [.Expr (.Call (.Name n0 p4) [] [] p5) p6] [.ExceptHandler (some (.Name few p7)) (some n2) [.Assign [.Name n1 p8] (.Call (.Name cn p9) [.Name n2 p10] [] p11) p12] p13] [] [] p14,.Return (some (.Name n1 p15)) p16])
  (l0:(aG st).names.lookup n0=some .local)(l1:(aG st).names.lookup n1=some .local)(l2:(aG st).names.lookup n2=some .local)(g1:(aG st).names.lookup few=some .globalImplicit)(g2:(aG st).names.lookup cn=some .globalImplicit)
  (hm:mg few=some (.ref C'))(hC':gR K C')(FC:FnH P w K mg base kc fc fdc [pe] (spW wd))(hmc:mg cn=some (.ref fc))(hkc:PySem.W.keepIn K (.ref fc)=true)(hbc:Binds K fdc [pe] [])(hkk:kc<=k0)(hw:∀C w,wd C=some w->gR K C/\ph K C C'=true)
  (d1:(few==("__debug__":Str))=false:=by decide)(d2:(cn==("__debug__":Str))=false:=by decide)(d3:(n0==("__debug__":Str))=false:=by decide)(d4:(n1==("__debug__":Str))=false:=by decide)(d5:(n2==("__debug__":Str))=false:=by decide)
  (d6:(n0==("__classdict__":Str))=false:=by decide)(d7:(n1==("__classdict__":Str))=false:=by decide)(d8:(n2==("__classdict__":Str))=false:=by decide):
  cg P w K mg base (CX1 P w) (k0+1) f fd [n0] (spR P w K mg base k0 told wd):=by
 refine F.okX S (λ vs H Q E ⟨_,_,_,_,_,_,_,e,_⟩=>by rw[e];rfl) λ cdv A outer s H vs Q E hr hsp=>?_
 rw[hst];exact aDT (X:=qw (CX1 P w) P w K mg base [n0,n1,n2] q (aG st) f cdv A outer s H E) cQ.of rfl rfl S.nd l0 l1 l2 (λ _=>rfl) hm g1 hC' FC g2 hmc hkc hbc hr hkk hw hsp d1 d2 d3 d4 d5 d6 d7 d8
end VL
namespace L2
open PySem PySem.Spec PyProof.Rows
theorem fG{X:Cx}{n0:Str}{e:Expr}{c:V}{p p' pos:Pos}(hN:X.N[0]? =some n0)(hv:X.env.scope.names.lookup n0=some .local)(hg:Gl X "isinstance")(hm:X.mg "isinstance"=none)(hc:PE X e (tC c))(hse:starEach [e] X.env=(false,eval e X.env)::starEach [] X.env:=by rfl)
  (hpl:(backTo pos (starEach [e] X.env)).any (·.1)=false:=by rfl)(d:(n0==("__debug__":Str))=false:=by decide)(d':(n0==("__classdict__":Str))=false:=by decide):PE X (.Call (.Name "isinstance" p) [.Name n0 p',e] [] pos) (aAD X.K c):=
 jX aCi hg hm rfl (aZ (fD hN (.inl hv) d d') (aZ hc cF hse)) (hpl:=hpl)
section
variable{P:Program}{w:World}{K:PySem.W.Frag}{mg:Str->Option Value}{base:Heap}{x q n0 n1 n2 odd:Str}{st:Stmt}{f:Addr}{fd:FuncData}{k:Nat}{wd:Addr->Option Str}{c1 c2:V}{k1 k2 k3 k4:List V}{l1 l2:List Str}{a1 a2:Expr}{as1 as2 e1 e2 e3 e4 w1 w2:List Expr}{kw1 kw2:List Keyword}
 {p1 p2 p3 p4 p5 p6 p7 p8 p9 p10 p11 p12 p13 p14 p15 p16 p17 p18 p19 p20 p21 p22 p23 p24 p25 p26 p27 p28 p29 p30 p31 p32 p33 p34 p35 p36 p37 p38 p39 p40:Pos}{q1 q2 q3 q4 q5 q6 q7:Pos}{j1 j2 j3 j4 j5:Nat}
theorem aEk(F:Fun K x q st f fd)(S:ak [n0,n1,n2] [n0] (aG st))
  (hst:cM st=[.If (.BoolOp .Or [.UnaryOp .Not (.Call a1 as1 kw1 p1) p3,.UnaryOp .Not (.Call a2 as2 kw2 p2) p4] p5) [.Return (some (.Constant (.str odd) j1 p6)) p7] [] p8,
   .Assign [.Name n1 p9] (.List e1 p10) p11,.Assign [.Name n1 p12] (.BinOp (.Name n1 p13) .Add (.List e2 p14) p15) p16,.Assign [.Name n1 p17] (.BinOp (.Name n1 p18) .Add (.List e3 p19) p22) p23,.Assign [.Name n1 p24] (.BinOp (.Name n1 p25) .Add (.List e4 p26) p27) p28,
   .If (.Compare (.Call (.Attribute (.Name n1 p29) "count" p20) [.Constant (.bool true) j2 p32] [] p21) [.NotEq] [.Constant (.int 1) j3 p33] p34) [.Return (some (.Constant (.str odd) j4 p35)) p36] [] p37,
   .Assign [.Name n2 p38] (.List w1 p39) p40,.Return (some (.Subscript (.BinOp (.Name n2 q1) .Add (.List w2 q2) q3) (.Call (.Attribute (.Name n1 q4) "index" p30) [.Constant (.bool true) j5 q5] [] p31) q6)) q7])
  (m0:(aG st).names.lookup n0=some .local)(m1:(aG st).names.lookup n1=some .local)(m2:(aG st).names.lookup n2=some .local)
  (h:∀(cdv:Value) (A:Around) (outer:List Env) (s:Shared) (H:Hp),PE (cxH P w K mg base [n0,n1,n2] q (aG st) f cdv A outer s H) (.Call a1 as1 kw1 p1) (aAD K c1)/\PE (cxH P w K mg base [n0,n1,n2] q (aG st) f cdv A outer s H) (.Call a2 as2 kw2 p2) (aAD K c2)/\
   PA (cxH P w K mg base [n0,n1,n2] q (aG st) f cdv A outer s H) e1 (kO K k1)/\PA (cxH P w K mg base [n0,n1,n2] q (aG st) f cdv A outer s H) e2 (kO K k2)/\PA (cxH P w K mg base [n0,n1,n2] q (aG st) f cdv A outer s H) e3 (kO K k3)/\
   PA (cxH P w K mg base [n0,n1,n2] q (aG st) f cdv A outer s H) e4 (kO K k4)/\PA (cxH P w K mg base [n0,n1,n2] q (aG st) f cdv A outer s H) w1 (vB l1)/\PA (cxH P w K mg base [n0,n1,n2] q (aG st) f cdv A outer s H) w2 (vB l2))
  (hl1:(p20.endLine==p21.line)=true)(hl2:(p30.endLine==p31.line)=true)(hz:(l1++l2).length<=100)(hw:∀C w,wd C=some w->Wd K c1 c2 [k1,k2,k3,k4] (l1++l2) C w)
  (d0:(n0==("__debug__":Str))=false:=by decide)(d1:(n1==("__debug__":Str))=false:=by decide)(d2:(n2==("__debug__":Str))=false:=by decide)
  (f0:(n0==("__classdict__":Str))=false:=by decide)(f1:(n1==("__classdict__":Str))=false:=by decide)(f2:(n2==("__classdict__":Str))=false:=by decide):
  FnH P w K mg base 1 f fd [n0] (spW wd):=by
 refine F.okH (k:=0) S (λ vs H Q E ⟨_,_,_,e,_⟩=>by rw[e];rfl) λ cdv A outer s H vs Q E hr hsp=>?_
 obtain⟨g1,g2,g3,g4,g5,g6,g7,g8⟩:=h cdv A outer s H;rw[hst];exact aBC (X:=cxH P w K mg base [n0,n1,n2] q (aG st) f cdv A outer s H) rfl S.nd m0 m1 m2 (by have:=hr.un;show(A.deeper _).units+64<cLine;omega) g1 g2 g3 g4 g5 g6 g7 g8 hl1 hl2 hz hsp hw d0 d1 d2 f0 f1 f2
end
structure aBu(P:Program)(w:World)(K:PySem.W.Frag)(mg:Str->Option Value)(fa Pt:Addr)(k n:Nat):Prop where
 ex:∃(x name qual:Str) (params:Arguments) (body:List Stmt) (scope:Scope) (dV kV doc pm ct oc:Value) (an od:Option Addr) (c:Addr) (osl:Array (Option Value)) (N:List Str),
  K.lookup Pt=none/\PySem.W.codeHdIn K c Pt=true/\K.lookup fa=some ⟨oc,od,.func (PySem.W.fnOf name qual params body scope dV kV doc pm an (.ref c) ct),osl⟩/\PySem.W.codeIn K (.ref c) qual=true/\ak N [x] scope/\
  (∀(s:Shared) (u:Value),BindsTo s (PySem.W.fnOf name qual params body scope dV kV doc pm an (.ref c) ct) ⟨[u],[]⟩ [(x,u)])/\
  ∀(a:Addr) (ns:List Int),ns.length<=n->∀(base:Heap) (s:Shared) (H:Hp),dG k (callerA.deeper (envOfC qual scope s.heap.objs.size fa (.ref c)))->qi (cxW P w K mg base N qual scope fa (.ref c) callerA s H Pt) Pt->Only H->SqL K H a (ns.map V.int)->
   ∃t,PSs (cxW P w K mg base N qual scope fa (.ref c) callerA s H Pt) body t/\t {nx:=λ _ _=>False,rt:=λ v _=>v= .bl true} (start N [.ref a]) H
theorem aCq{l:PySem.W.OpenLaw}{n k:Nat}{q:Program}{loose:List Str}{XP:(Str->Option Value)->Heap->Prop}{YP:World->Heap->Prop}{d:DefRec}{K:Params->PySem.W.Frag}{Pt:Addr}
  (hn:l.most=some n)(hn2:n<=sizeLine)(hdf:d.params.defaults=[])(hr:dG (k+1) callerA)
  (hY:∀(w:World) (h:Heap),YP w h->(K w.params).In h/\h.get? Pt=some (PySem.W.tabObj #[]))
  (F:∀(w:World) (mg:Str->Option Value) (fa:Addr) (h:Heap),(K w.params).In h->h.Ns mainGlobals mg->mg d.name=some (.ref fa)->aBu l.prog w (K w.params) mg fa Pt k n):
  PySem.W.WalkO q loose XP YP l.row.toRowW d [] (λ f vs=>PySem.call f vs):=by
 refine Att.zg hn hdf λ w s₀ s₁ mg mb fa o pm cd doc a vs ns G Y ho hd hcd hmg hobj hints hlen hg=>?_
 obtain⟨KX,hP⟩:=hY w _ Y;obtain⟨x,name,qual,params,body,scope,dV,kV,doc,pm,ct,oc,an,od,c,osl,N,h1,h2,h3,h4,h5,h6,h7⟩:=(F w mg fa _ KX G.T.g hmg).ex;have hbl:s₁.heap.BuiltinsAt mg Pt:=by
  obtain⟨bm,ob,b1,b2,b3,b4,b5,b6⟩:=G.T.bmain;refine⟨bm,ob,b1,b2,λ z=>?_,λ z=>?_,b3,b4,b5,b6⟩
  ·obtain⟨o,es,ep,e,hd,_⟩:=G.T.g
   rw[z,e]at b3;cases b3;rw[hd]at b6;cases b6
  ·rw[z,hP]at b3;cases b3;cases b4
 exact aCY KX G.T.g G.T.b G.T.builtins G.T.nolimit hg hobj hints (Nat.le_trans hlen hn2) hr hP h1 h2 hbl h3 h4 h5 h6 λ base s H r1 r2 r3 r4=>h7 a ns hlen base s H r1 r2 r3 r4
def clB(K:PySem.W.Frag)(few C:Addr):Bool:=PySem.W.excIn K C [.type "ValueError",.type "Exception",.type "BaseException",.type "object"] "ValueError.__new__"&&decide (PySem.W.findIn K (.ref C) "__class__"=some (some (.builtin "object.__class__")))&&decide (PySem.W.findIn K (.ref C) "__getattribute__"=some (some (.builtin "BaseException.__getattribute__")))&&decide (PySem.W.findIn K (.ref C) "__getattr__"=some none)&&decide (PySem.W.kitOne K (.ref C) (.ref few)=some true)&&decide (PySem.W.kitOne K (.ref C) (.type "ValueError")=some true)&&ph K C few
def aBB(K:PySem.W.Frag)(few:Addr)(cs:List Addr):Bool:=(List.range cs.length).all λ j=>match cs[j]? with
 |none=>true
 |some C=>clB K few C&&(List.range cs.length).all λ i=>match cs[i]? with
  |none=>true
  |some c=>decide (PySem.W.kitOne K (.ref C) (.ref c)=some (i==j))
theorem lookup_at{C:Addr}{w:Str}:∀{cs:List Addr} {ws:List Str},(cs.zip ws).lookup C=some w->∃j:Nat,cs[j]? =some C/\ws[j]? =some w
 |[],_,h=>by cases h
 |_::_,[],h=>by cases h
 |c::cs,x::ws,h=>by
  rw[List.zip_cons_cons,List.lookup_cons]at h;by_cases e:C==c
  ·simp only[e]at h
   cases h;exact⟨0,by rw[eq_of_beq e];rfl,rfl⟩
  ·simp only[e]at h
   obtain⟨j,h1,h2⟩:=lookup_at h;exact⟨j+1,h1,h2⟩
theorem aGv{K:PySem.W.Frag}{few c0 c1 c2 c3 c4 c5 c6 c7 c8 c9 c10 c11:Addr}{ws:List Str}(h:aBB K few [c0,c1,c2,c3,c4,c5,c6,c7,c8,c9,c10,c11]=true){C:Addr}{w:Str}(hw:([c0,c1,c2,c3,c4,c5,c6,c7,c8,c9,c10,c11].zip ws).lookup C=some w):
  Wd K (.ref few) (.ty "ValueError") [[.ref c0,.ref c1,.ref c2],[.ref c3,.ref c4,.ref c5],[.ref c6,.ref c7,.ref c8],[.ref c9,.ref c10,.ref c11]] ws C w/\gR K C/\ph K C few=true:=by
 obtain⟨j,h1,h2⟩:=lookup_at hw;have hj:j<12:=(List.getElem?_eq_some_iff.mp h1).1;have h3:=List.all_eq_true.mp h j (List.mem_range.mpr hj);simp only[h1,Bool.and_eq_true]at h3;obtain⟨h4,h5⟩:=h3;have F:∀(i:Nat) c,[c0,c1,c2,c3,c4,c5,c6,c7,c8,c9,c10,c11][i]? =some c->Kt K C (.ref c) (i==j):=λ i c e=>by
  have h6:=List.all_eq_true.mp h5 i (List.mem_range.mpr (List.getElem?_eq_some_iff.mp e).1);simp only[e]at h6;exact⟨_,rfl,of_decide_eq_true h6⟩
 unfold clB at h4;simp only[Bool.and_eq_true,decide_eq_true_eq]at h4;obtain⟨⟨⟨⟨⟨⟨q1,q2⟩,q3⟩,q4⟩,q5⟩,q6⟩,q7⟩:=h4;refine⟨⟨⟨q1,q2,q3,q4⟩,⟨_,rfl,q5⟩,⟨_,rfl,q6⟩,[0==j,1==j,2==j],[3==j,4==j,5==j],[6==j,7==j,8==j],[9==j,10==j,11==j],j,_,_,_,_,rfl,.cons (F 0 c0 rfl) (.cons (F 1 c1 rfl) (.cons (F 2 c2 rfl) .nil)),.cons (F 3 c3 rfl) (.cons (F 4 c4 rfl) (.cons (F 5 c5 rfl) .nil)),
  .cons (F 6 c6 rfl) (.cons (F 7 c7 rfl) (.cons (F 8 c8 rfl) .nil)),.cons (F 9 c9 rfl) (.cons (F 10 c10 rfl) (.cons (F 11 c11 rfl) .nil)),by simp,?_,?_,?_,h2⟩,q1,q7⟩
 ·exact(by decide:∀j,j<12->([0==j,1==j,2==j]++[3==j,4==j,5==j]++[6==j,7==j,8==j]++[9==j,10==j,11==j]).count true=1) j hj
 ·exact(by decide:∀j,j<12->([0==j,1==j,2==j]++[3==j,4==j,5==j]++[6==j,7==j,8==j]++[9==j,10==j,11==j])[j]? =some true) j hj
 ·exact λ m hm=>(by decide:∀j,j<12->∀m,m<j->([0==j,1==j,2==j]++[3==j,4==j,5==j]++[6==j,7==j,8==j]++[9==j,10==j,11==j])[m]? =some false) j hj m hm
theorem aEH{scope sc:Scope}(h:∀y∈scope.names,y.2= .free->sc.names.lookup y.1=some .cell\/sc.names.lookup y.1=some .free):∀y∈scope.names,y.2= .free->sc.names.lookup y.1=some .cell\/sc.names.lookup y.1=some .free:=h
theorem zc{K:PySem.W.Frag}{few:Addr}{cs:List Addr}(h:aBB K few cs=true){i j:Nat}{C c:Addr}(hj:cs[j]? =some C)(hi:cs[i]? =some c):PySem.W.kitOne K (.ref C) (.ref c)=some (i==j):=by
 have h3:=List.all_eq_true.mp h j (List.mem_range.mpr (List.getElem?_eq_some_iff.mp hj).1);simp only[hj,Bool.and_eq_true]at h3;have h6:=List.all_eq_true.mp h3.2 i (List.mem_range.mpr (List.getElem?_eq_some_iff.mp hi).1);simp only[hi]at h6;exact of_decide_eq_true h6
theorem aGg{K:PySem.W.Frag}{few:Addr}{cs:List Addr}(h:aBB K few cs=true){i j:Nat}{C:Addr}(hj:cs[j]? =some C)(hi:cs[i]? =some C):i=j:=by
 have a:=zc h hj hi;have b:=zc h hj hj;rw[a]at b;have e:=Option.some.inj b;rw[beq_self_eq_true]at e;exact eq_of_beq e
theorem tU{C:Addr}{w:Str}:∀{cs:List Addr} {ws:List Str} {j:Nat},(∀i:Nat,cs[i]? =some C->i=j)->cs[j]? =some C->ws[j]? =some w->(cs.zip ws).lookup C=some w
 |[],_,_,_,h,_=>by simp at h
 |_::_,[],_,_,_,h=>by simp at h
 |c::cs,x::ws,j,u,h1,h2=>by
  rw[List.zip_cons_cons,List.lookup_cons];by_cases e:C==c
  ·have e0:0=j:=u 0 (by rw[eq_of_beq e];rfl)
   subst e0;simp only[e];simpa using h2
  ·simp only[e]
   cases j with
   |zero=>
    have e1:c=C:=by simpa using h1
    rw[e1]at e;simp at e
   |succ j=>exact tU (j:=j) (λ i hi=>Nat.succ.inj (u (i+1) hi)) h1 h2
theorem aJJ{K:PySem.W.Frag}{few:Addr}{cs:List Addr}{ws:List Str}(h:aBB K few cs=true){j:Nat}{C:Addr}{w:Str}(h1:cs[j]? =some C)(h2:ws[j]? =some w):(cs.zip ws).lookup C=some w:=tU (λ i hi=>aGg h h1 hi) h1 h2
end L2
namespace VL
open PySem PySem.Spec PyProof.Rows L2
theorem aJI{K:PySem.W.Frag}{mg:Str->Option Value}{few c0 c1 c2 c3 c4 c5 c6 c7 c8 c9 c10 c11:Addr}{ws:List Str}{ns:List Str}(h:aBB K few [c0,c1,c2,c3,c4,c5,c6,c7,c8,c9,c10,c11]=true)
  (hl:ns.map (VL.aq mg)=[c0,c1,c2,c3,c4,c5,c6,c7,c8,c9,c10,c11]):∀c w,(ns.zip ws).lookup c=some w->([c0,c1,c2,c3,c4,c5,c6,c7,c8,c9,c10,c11].zip ws).lookup (VL.aq mg c)=some w:=λ c w e=>by
 have go:∀(ns:List Str) (ws:List Str),(ns.zip ws).lookup c=some w->∃j:Nat,ns[j]? =some c/\ws[j]? =some w:=by
  intro ns;induction ns with
  |nil=>intro ws h;cases h
  |cons x ns ih=>
   intro ws h;cases ws with
   |nil=>cases h
   |cons y ws=>
    rw[List.zip_cons_cons,List.lookup_cons]at h;by_cases e:c==x
    ·simp only[e]at h
     cases h;exact⟨0,by rw[eq_of_beq e];rfl,rfl⟩
    ·simp only[e]at h
     obtain⟨j,h1,h2⟩:=ih ws h;exact⟨j+1,h1,h2⟩
 obtain⟨j,h1,h2⟩:=go ns ws e;refine aJJ h (j:=j) ?_ h2;rw[<-hl,List.getElem?_map,h1];rfl
section
variable{O:PyProof.Rows.KeyOrd}{kz:Nat->O.α}{n:Nat}
def Wr{α:Type}(kz:Nat->O.α)(n:Nat):PySem.W.KasT α->(α->Prop)->Prop
 | .ret a,Q=>Q a
 | .ask i j k,Q=>i<n/\j<n/\Wr kz n (k (O.blt (kz i) (kz j))) Q
theorem Wr.bindI:∀{t:PySem.W.KasT α},Wr kz n t (λ a=>Wr kz n (g a) Q)->Wr kz n (t.bind g) Q
 | .ret _,h=>h
 | .ask _ _ _,⟨h1,h2,h3⟩=>⟨h1,h2,Wr.bindI h3⟩
abbrev Pm(n:Nat)(p:Array Nat):Prop:=p.Perm (List.range n).toArray
theorem Pm.sz(h:Pm n p):p.size=n:=by
 have:=h.size_eq
 simpa using this
theorem Pm.in(h:Pm n p)(hi:i<n):p.getD i 0<n:=by
 have hs:i<p.size:=by rw[h.sz];exact hi
 have e:p.getD i 0=p[i]:=by simp[Array.getD,hs]
 rw[e];have hm:p[i]∈(List.range n).toArray:=h.mem_iff.mp (Array.getElem_mem hs);simpa using hm
def Kp(kz:Nat->O.α)(p:Array Nat)(i:Nat):O.α:=kz (p.getD i 0)
theorem zN(h:p[i]? =q[j]?):Kp kz p i=Kp kz q j:=by
 unfold Kp;congr 1;rw[Array.getD_eq_getD_getElem?,Array.getD_eq_getD_getElem?,h]
theorem aEL(hs:c<p.size)(hd:d<=c)(k:Nat):
  Kp kz (bubble p c d) k=if k=c-d then Kp kz p c else if c-d<k/\k<=c then Kp kz p (k-1)else Kp kz p k:=by
 have e:=getElem?_bubble hs d hd k;by_cases u1:k=c-d
 ·rw[if_pos u1]at e ⊢
  exact zN e
 ·rw[if_neg u1]at e ⊢
  by_cases u2:c-d<k/\k<=c
  ·rw[if_pos u2]at e ⊢
   exact zN e
  ·rw[if_neg u2]at e ⊢
   exact zN e
theorem aAn(hj:j<=p.size)(k:Nat):Kp kz (PySem.W.kas_rev p i j) k=if i<=k/\k<j then Kp kz p (i+j-1-k)else Kp kz p k:=by
 unfold PySem.W.kas_rev;have e:=getElem?_mirror_all (i:=i) hj k;by_cases u1:i<=k/\k<j
 ·rw[if_pos u1]at e ⊢
  exact zN e
 ·rw[if_neg u1]at e ⊢
  exact zN e
theorem mC(hj:j<=p.size)(he:∀k,i<=k->k<j->Kp kz p k=Kp kz p (j-1))(k:Nat):Kp kz (PySem.W.kas_rev p i j) k=Kp kz p k:=by
 rw[aAn hj];split
 ·rw[he _ (by lia) (by lia),he k (by lia) (by lia)]
 ·rfl
def Up(kz:Nat->O.α)(p:Array Nat)(k:Nat):Prop:=∀i j,i<=j->j<k->O.kle (Kp kz p i) (Kp kz p j)
def Dn(kz:Nat->O.α)(p:Array Nat)(k:Nat):Prop:=∀i j,i<=j->j<k->O.kle (Kp kz p j) (Kp kz p i)
theorem sV(h:Pm n p)(i j:Nat):Pm n (PySem.W.kas_rev p i j):=(mirror_perm _ _ _ _).trans h
theorem Up.succ(h:Up kz p m)(hm:1<=m)(hl:O.kle (Kp kz p (m-1)) (Kp kz p m)):Up kz p (m+1):=by
 intro i j hij hj;by_cases q:j<m
 ·exact h i j hij q
 ·have q':j=m:=by lia
  subst q';by_cases q2:i=j
  ·rw[q2];exact KeyOrd.kle_refl _
  ·exact KeyOrd.kle_trans (h i (j-1) (by lia) (by lia)) hl
theorem Dn.succ(h:Dn kz p m)(hm:1<=m)(hl:O.kle (Kp kz p m) (Kp kz p (m-1))):Dn kz p (m+1):=by
 intro i j hij hj;by_cases q:j<m
 ·exact h i j hij q
 ·have q':j=m:=by lia
  subst q';by_cases q2:i=j
  ·rw[q2];exact KeyOrd.kle_refl _
  ·exact KeyOrd.kle_trans hl (h i (j-1) (by lia) (by lia))
theorem zy(hp:Pm n p)(hr:r<=n):∀(f m:Nat),1<=m->m+f=r->Up kz p m->
  (∀m',1<=m'->m'<=r->Up kz p m'->(m'=r\/O.klt (Kp kz p m') (Kp kz p (m'-1)))->Q m')->Wr kz n (PySem.W.kas_asc p f m) Q
 |0,m,h1,hm,hu,k=>k m h1 (by lia) hu (.inl (by lia))
 |f+1,m,h1,hm,hu,k=>by
  refine⟨hp.in (by lia),hp.in (by lia),?_⟩;have hd:O.blt (kz (p.getD m 0)) (kz (p.getD (m-1) 0))=O.blt (Kp kz p m) (Kp kz p (m-1)):=rfl;rw[hd];cases hb:O.blt (Kp kz p m) (Kp kz p (m-1))with
  |true=>exact k m h1 (by lia) hu (.inr hb)
  |false=>exact zy hp hr f (m+1) (by lia) (by lia) (hu.succ h1 hb) k
theorem qz(hr:r<=n):∀(f:Nat) (p:Array Nat) (m e:Nat),Pm n p->1<=m->m+f=r->Dn kz p m->e+1<=m->(∀i,m-(e+1)<=i->i<m->Kp kz p i=Kp kz p (m-1))->
  (∀p' m' e',Pm n p'->1<=m'->m'<=r->Dn kz p' m'->e'+1<=m'->(∀i,m'-(e'+1)<=i->i<m'->Kp kz p' i=Kp kz p' (m'-1))->Q (p',m',e'))->Wr kz n (PySem.W.kas_desc f p m e) Q
 |0,p,m,e,hp,h1,hm,hd,he,hq,k=>k p m e hp h1 (by lia) hd he hq
 |f+1,p,m,e,hp,h1,hm,hd,he,hq,k=>by
  have hsz:m<=p.size:=by rw[hp.sz];lia
  refine⟨hp.in (by lia),hp.in (by lia),?_⟩;have hx:O.blt (kz (p.getD m 0)) (kz (p.getD (m-1) 0))=O.blt (Kp kz p m) (Kp kz p (m-1)):=rfl;rw[hx];cases hb:O.blt (Kp kz p m) (Kp kz p (m-1))with
  |true=>
   have hd':Dn kz p (m+1):=hd.succ h1 (KeyOrd.kle_of_klt hb);dsimp only;rw[if_pos rfl];by_cases hz:e>0
   ·rw[if_pos hz]
    refine qz hr f _ (m+1) 0 (sV hp _ _) (by lia) (by lia) (λ i j hij hj=>?_) (by lia) (λ i u v=>by congr 1;lia) k;rw[mC hsz hq,mC hsz hq];exact hd' i j hij hj
   ·rw[if_neg hz]
    exact qz hr f p (m+1) 0 hp (by lia) (by lia) hd' (by lia) (λ i u v=>by congr 1;lia) k
  |false=>
   dsimp only;rw[if_neg (by simp)];refine⟨hp.in (by lia),hp.in (by lia),?_⟩;have hy:O.blt (kz (p.getD (m-1) 0)) (kz (p.getD m 0))=O.blt (Kp kz p (m-1)) (Kp kz p m):=rfl;rw[hy];cases hc:O.blt (Kp kz p (m-1)) (Kp kz p m)with
   |true=>exact k p m e hp h1 (by lia) hd he hq
   |false=>
    dsimp only;rw[if_neg (by simp)];have hee:Kp kz p m=Kp kz p (m-1):=KeyOrd.kle_antisymm hc hb;refine qz hr f p (m+1) (e+1) hp (by lia) (by lia) (hd.succ h1 hc) (by lia) (λ i u v=>?_) k;rw[show m+1-1=m by lia];by_cases hi:i=m
    ·rw[hi]
    ·rw[hee]
     exact hq i (by lia) (by lia)
theorem aBH(hr:r<=n)(hp:Pm n p)(h1:1<=m)(hm:m<=r)(hd:Dn kz p m)(k:∀m' p',Pm n p'->1<=m'->m'<=r->Up kz p' m'->Q (m',p')):Wr kz n (PySem.W.kas_tail3 m r p) Q:=by
 have hsz:m<=p.size:=by rw[hp.sz];lia
 refine Wr.bindI (zy (sV hp 0 m) hr (r-m) m h1 (by lia) (λ i j hij hj=>?_) λ m' a1 a2 a3 _=>k m' _ (sV hp 0 m) a1 a2 a3);rw[aAn hsz,aAn hsz,if_pos (by lia),if_pos (by lia)];exact hd _ _ (by lia) (by lia)
theorem qG(hr:r<=n)(hp:Pm n p)(hm:m+1<=r)(hd:Dn kz p (m+1))(k:∀m' p',Pm n p'->1<=m'->m'<=r->Up kz p' m'->Q (m',p')):Wr kz n (PySem.W.kas_descPart m r p) Q:=by
 refine Wr.bindI (qz hr (r-(m+1)) p (m+1) 0 hp (by lia) (by lia) hd (by lia) (λ i u v=>by congr 1;lia) λ p' m' e' a1 a2 a3 a4 a5 a6=>?_);have hsz:m'<=p'.size:=by rw[a1.sz];lia
 dsimp only;by_cases hz:e'>0
 ·rw[if_pos hz]
  refine aBH hr (sV a1 _ _) a2 a3 (λ i j hij hj=>?_) k;rw[mC hsz a6,mC hsz a6];exact a4 i j hij hj
 ·rw[if_neg hz]
  exact aBH hr a1 a2 a3 a4 k
theorem aCn(hr:r<=n)(hp:Pm n p)(h1:1<=r)(k:∀m' p',Pm n p'->1<=m'->m'<=r->Up kz p' m'->Q (m',p')):Wr kz n (PySem.W.kas_count r p) Q:=by
 refine Wr.bindI (zy hp hr (r-1) 1 (Nat.le_refl 1) (by lia) (λ i j hij hj=>by rw[show i=j by lia];exact KeyOrd.kle_refl _) λ m a1 a2 a3 a4=>?_);by_cases hm:m=r
 ·rw[if_pos (by simpa using hm)]
  exact k m p hp a1 a2 a3
 ·rw[if_neg (by simpa using hm)]
  have hl:O.klt (Kp kz p m) (Kp kz p (m-1)):=a4.resolve_left hm;by_cases hg:m>1
  ·rw[if_pos hg]
   refine⟨hp.in (by lia),hp.in (by lia),?_⟩;have hx:O.blt (kz (p.getD 0 0)) (kz (p.getD (m-1) 0))=O.blt (Kp kz p 0) (Kp kz p (m-1)):=rfl;rw[hx];cases hb:O.blt (Kp kz p 0) (Kp kz p (m-1))with
   |true=>exact k m p hp a1 a2 a3
   |false=>
    dsimp only;rw[if_neg (by simp)];have hsz:m<=p.size:=by rw[hp.sz];lia
    have hall:∀i,0<=i->i<m->Kp kz p i=Kp kz p (m-1):=λ i _ hi=>KeyOrd.kle_antisymm (a3 i (m-1) (by lia) (by lia)) (KeyOrd.kle_trans hb (a3 0 i (by lia) hi))
    refine qG hr (sV hp 0 m) (by lia) (λ i j hij hj=>?_) k;rw[mC hsz hall,mC hsz hall];by_cases hjm:j<m
    ·rw[hall i (by lia) (by lia),hall j (by lia) hjm];exact KeyOrd.kle_refl _
    ·have hj':j=m:=by lia
     subst hj';by_cases hi:i=j
     ·rw[hi];exact KeyOrd.kle_refl _
     ·rw[hall i (by lia) (by lia)];exact KeyOrd.kle_of_klt hl
  ·rw[if_neg hg]
   have hm1:m=1:=by lia
   subst hm1;refine qG hr hp (by lia) (λ i j hij hj=>?_) k;by_cases hi:i=j
   ·rw[hi];exact KeyOrd.kle_refl _
   ·have e1:i=0:=by lia
    have e2:j=1:=by lia
    subst e1 e2;exact KeyOrd.kle_of_klt hl
theorem rM(hp:Pm n p)(hc:c<n)(hu:Up kz p c):∀(f l r:Nat),l<=r->r<=c->r-l<=f->(∀i,i<l->O.kle (Kp kz p i) (Kp kz p c))->(∀i,r<=i->i<c->O.klt (Kp kz p c) (Kp kz p i))->
  (∀l',l'<=c->(∀i,i<l'->O.kle (Kp kz p i) (Kp kz p c))->(∀i,l'<=i->i<c->O.klt (Kp kz p c) (Kp kz p i))->Q l')->Wr kz n (PySem.W.kas_place p c f l r) Q
 |0,l,r,a1,a2,a3,a4,a5,k=>by
  have e:l=r:=by lia
  subst e;exact k l a2 a4 a5
 |f+1,l,r,a1,a2,a3,a4,a5,k=>by
  unfold PySem.W.kas_place;by_cases hg:l ≥ r
  ·rw[if_pos hg]
   have e:l=r:=by lia
   subst e;exact k l a2 a4 a5
  ·rw[if_neg hg]
   refine⟨hp.in hc,hp.in (by lia),?_⟩;have hx:O.blt (kz (p.getD c 0)) (kz (p.getD ((l+r) / 2) 0))=O.blt (Kp kz p c) (Kp kz p ((l+r) / 2)):=rfl;rw[hx];cases hb:O.blt (Kp kz p c) (Kp kz p ((l+r) / 2))with
   |true=>exact rM hp hc hu f l ((l+r) / 2) (by lia) (by lia) (by lia) a4 (λ i u v=>KeyOrd.klt_of_klt_of_kle hb (hu _ _ u v)) k
   |false=>exact rM hp hc hu f ((l+r) / 2+1) r (by lia) a2 (by lia) (λ i u=>KeyOrd.kle_trans (hu i ((l+r) / 2) (by lia) (by lia)) hb) a5 k
theorem aCo:∀(f:Nat) (p:Array Nat) (c:Nat),Pm n p->c+f=n->Up kz p c->(∀p',Pm n p'->Up kz p' n->Q p')->Wr kz n (PySem.W.kas_bin f p c) Q
 |0,p,c,hp,hc,hu,k=>k p hp (by rw[show n=c by lia];exact hu)
 |f+1,p,c,hp,hc,hu,k=>by
  refine Wr.bindI (rM hp (by lia) hu c 0 c (by lia) (Nat.le_refl c) (by lia) (λ i u=>by lia) (λ i u v=>by lia) λ l a1 a2 a3=>?_);refine aCo f _ (c+1) ((bubble_perm _ _ _).trans hp) (by lia) (λ i j hij hj=>?_) k;have hs:c<p.size:=by rw[hp.sz];lia
  rw[aEL hs (by lia),aEL hs (by lia),show c-(c-l)=l by lia]
  repeat' split
  all_goals first
   |(exfalso;lia)
   |exact O.irrefl _
   |exact a2 _ (by lia)
   |exact KeyOrd.klt_asymm (a3 _ (by lia) (by lia))
   |exact hu _ _ (by lia) (by lia)
theorem aFC(h1:1<=n)(k:∀p,Pm n p->Up kz p n->Q p):Wr kz n (PySem.W.kas_sort n) Q:=by
 refine Wr.bindI (aCn (Nat.le_refl n) (Array.Perm.refl _) h1 λ m p a1 a2 a3 a4=>?_);dsimp only;by_cases hm:m<n
 ·rw[if_pos hm]
  exact aCo _ p _ a1 (by lia) (by rw[show max m 1=m by lia];exact a4) k
 ·rw[if_neg hm]
  exact k p a1 (by rw[show n=m by lia];exact a4)
theorem yL{I:Shared->Prop}(hc:∀i j (C:Bool->Shared->Prop) s,I s->i<n->j<n->(∀s',I s'->C (O.blt (kz i) (kz j)) s')->cmp i j C s):
  ∀(t:PySem.W.KasT α) (s:Shared),I s->Wr kz n t (λ a=>∀s',I s'->Q a s')->t.kasWp cmp Q s
 | .ret a,s,hI,h=>h s hI
 | .ask i j k,s,hI,⟨h1,h2,h3⟩=>hc i j _ s hI h1 h2 λ s' hI'=>yL hc _ s' hI' h3
end
theorem xP:∀a:List Int,HT.lexLt a a=false
 |[]=>rfl
 |x::a=>by rw[HT.iR,if_pos rfl];exact xP a
theorem oG:∀a b c:List Int,HT.lexLt a b=true->HT.lexLt b c=true->HT.lexLt a c=true
 |[],[],c,h,_=>by cases h
 |[],_::_,[],_,h=>by cases h
 |[],_::_,_::_,_,_=>rfl
 |_::_,[],_,h,_=>by cases h
 |_::_,_::_,[],_,h=>by cases h
 |x::a,y::b,z::c,h1,h2=>by
  rw[HT.iR]at h1 h2 ⊢;by_cases e1:x=y
  ·subst e1
   rw[if_pos rfl]at h1;by_cases e2:x=z
   ·rw[if_pos e2]at h2 ⊢
    exact oG a b c h1 h2
   ·rw[if_neg e2]at h2 ⊢
    exact h2
  ·rw[if_neg e1]at h1
   simp only[decide_eq_true_eq]at h1;by_cases e2:y=z
   ·subst e2
    rw[if_neg e1];simpa using h1
   ·rw[if_neg e2]at h2
    simp only[decide_eq_true_eq]at h2;rw[if_neg (by lia)];simp only[decide_eq_true_eq];lia
theorem tR:∀a b:List Int,HT.lexLt a b=false->HT.lexLt b a=false->a=b
 |[],[],_,_=>rfl
 |[],_::_,h,_=>by cases h
 |_::_,[],_,h=>by cases h
 |x::a,y::b,h1,h2=>by
  rw[HT.iR]at h1 h2;by_cases e:x=y
  ·subst e
   rw[if_pos rfl]at h1 h2;rw[tR a b h1 h2]
  ·rw[if_neg e]at h1
   rw[if_neg λ q=>e q.symm]at h2;simp only[decide_eq_false_iff_not]at h1 h2;lia
theorem aEB(a b c:List Int)(h:HT.lexLt a c=true):HT.lexLt a b=true\/HT.lexLt b c=true:=by
 cases e1:HT.lexLt a b with
 |true=>exact .inl rfl
 |false=>
  right;cases e2:HT.lexLt b a with
  |true=>exact oG b a c e2 h
  |false=>rw[<-tR a b e1 e2];exact h
def aAf:PyProof.Rows.KeyOrd:=⟨List Int,HT.lexLt,xP,oG,aEB,tR⟩
inductive cU(h:Heap):List Value->List (List Int)->Prop where
 |nil:cU h [] []
 |cons {x:Addr} {o:Obj} {xs:Array Value} {k:Nat} {ns:List Int} {vs:List Value} {nss:List (List Int)} (ho:h.get? x=some o) (hc:o.cls= .type "tuple") (hd:o.data= .seq xs k) (hi:IntsAre xs.toList ns) (hne:ns≠[]) (r:cU h vs nss):cU h (.ref x::vs) (ns::nss)
theorem cU.mono(k:∀x o,h.get? x=some o->o.cls= .type "tuple"->h'.get? x=some o):∀{vs:List Value} {nss:List (List Int)},cU h vs nss->cU h' vs nss
 |_,_,.nil=>.nil
 |_,_,.cons ho hc hd hi hne r=>.cons (k _ _ ho hc) hc hd hi hne (cU.mono k r)
theorem cU.at:∀{vs:List Value} {nss:List (List Int)} {i:Nat},cU h vs nss->i<vs.length->∃x o xs k,vs.getD i Value.none= .ref x/\h.get? x=some o/\o.cls= .type "tuple"/\o.data= .seq xs k/\IntsAre xs.toList (nss.getD i [])/\nss.getD i []≠[]
 |_,_,_,.nil,hi=>by simp at hi
 |_,_,0,.cons ho hc hd hi hne _,_=>⟨_,_,_,_,rfl,ho,hc,hd,hi,hne⟩
 |_,_,i+1,.cons _ _ _ _ _ r,hi=>by
  obtain⟨x,o,xs,k,q⟩:=cU.at (i:=i) r (by simpa using hi);exact⟨x,o,xs,k,by simpa using q⟩
theorem cU.firsts:∀{vs:List Value} {nss:List (List Int)},cU h vs nss->∃fs,PySem.W.KatTups h vs fs/\fs.length=vs.length/\∀f∈fs,∃n t,f=Value.int n t
 |_,_,.nil=>⟨[],.nil,rfl,λ f hf=>by simp at hf⟩
 |_,_,.cons (xs:=xs) ho hc hd hi hne r=>by
  obtain⟨fs,h1,h2,h3⟩:=cU.firsts r;obtain⟨l,rfl⟩:∃l:List Value,xs=l.toArray:=⟨xs.toList,by simp⟩
  rw[show l.toArray.toList=l by simp]at hi;cases hi with
  |nil=>exact absurd rfl hne
  |cons n t q=>
   rename_i l' ns';refine⟨.int n t::fs,.cons ho hc hd (by simp) h1,by simp[h2],λ f hf=>?_⟩;rcases List.mem_cons.mp hf with rfl|hf
   ·exact⟨n,t,rfl⟩
   ·exact h3 f hf
section
variable{prog:Program}{w:World}{A:Around}{E:Value->Shared->Prop}{s:Shared}
theorem zO:∀{xs ys:List Value} {ns ms:List Int} (i:Nat),IntsAre xs ns->IntsAre ys ms->fin=decide (xs.length<ys.length)->Q (HT.lexLt ns ms) s->PySem.W.KatLex prog w A b fin Q (xs.zip ys) i s:=by
 intro xs ys ns ms i hx;induction hx generalizing ys ms i with
 |nil=>intro hy hf q;cases hy<;>(subst hf;exact q)
 |@cons x t xs ns r ih=>
  intro hy hf q;cases hy with
  |nil=>subst hf;exact q
  |@cons y u ys ms r'=>?_
  rw[List.zip_cons_cons];refine PySem.W.kat_cons (wpAny_eqBool_int ?_);rw[HT.iR]at q;by_cases e:x=y
  ·rw[if_pos e]at q
   rw[show(x==y)=true by simpa using e];exact PySem.W.kat_yes (ih (i+1) r' (by rw[hf];simp) q)
  ·rw[if_neg e]at q
   rw[show(x==y)=false by simpa using e];refine PySem.W.kat_no ?_;cases hb:(b&&i==0)with
   |true=>exact oneLt_int q
   |false=>exact PySem.W.kat_one _ _ (PyProof.Rows.lt_int q)
theorem aAp(hx:s.heap.get? x=some ox)(dx:ox.data= .seq xs n)(hy:s.heap.get? y=some oy)(dy:oy.data= .seq ys k)(hi:IntsAre xs.toList ns)(hj:IntsAre ys.toList ms)
  (q:Q (HT.lexLt ns ms) s):wpAny (model prog w) A (keyLt' (tuples' b) (.ref x) (.ref y)) Q E s:=
 PySem.W.kat_lt hx dx hy dy (zO 0 hi hj (by simp) q)
def mL(vs:List Value)(p:Array Nat):Array Value:=(p.toList.map λ i=>vs.getD i Value.none).toArray
theorem aFB(h:vs.length<2):(vs.toArray.zip vs.toArray).map (·.2)=mL vs (List.range vs.length).toArray:=by
 cases vs with
 |nil=>simp[mL]
 |cons v t=>
  cases t with
  |nil=>simp[mL]
  |cons u t=>exact absurd h (Nat.not_lt.mpr (Nat.le_add_left 2 t.length))
theorem aAe(ho:s.heap.get? a=some (seqObj "list" vs.toArray c))(ht:cU s.heap vs nss)(h64:vs.length<64)
  (h:∀p:Array Nat,Pm vs.length p->Up (O:=aAf) (λ i=>nss.getD i []) p vs.length->P (.done (.ret .none)) {s with heap:=sortedHeap s.heap a vs (mL vs p)}):
  wpAny (model prog w) A (Builtin.«list.sort» ⟨[.ref a],[]⟩) P E s:=by
 have hlt:a<s.heap.objs.size:=Heap.lt_size ho;have hz:vs.length<=sizeLine:=by rw[sizeLine_eq];lia
 obtain⟨e1,ho1⟩:∃e1,(s.heap.update a (Obj.mapSeq λ _=>(#[]:Array Value))).get? a=some (seqObj "list" #[] e1):=⟨_,get?_update_seq ho λ _=>#[]⟩
 have keep:∀x o,s.heap.get? x=some o->o.cls= .type "tuple"->(((s.heap.update a (Obj.mapSeq λ _=>(#[]:Array Value))).push (seqObj "tuple" vs.toArray 0)).push (seqObj "list" #[] 0)).get? x=some o:=λ x o e q=>by
  have hxa:x≠a:=λ z=>by
   subst z;rw[ho]at e;cases e;exact absurd q (show¬(Value.type "list"=Value.type "tuple")by decide)
  refine Heap.get?_push_of_some _ (Heap.get?_push_of_some _ ?_);rw[Heap.get?_update_ne _ _ _ _ hxa];exact e
 have ho6:(((s.heap.update a (Obj.mapSeq λ _=>(#[]:Array Value))).push (seqObj "tuple" vs.toArray 0)).push (seqObj "list" #[] 0)).get? a=some (seqObj "list" #[] e1):=Heap.get?_push_of_some _ (Heap.get?_push_of_some _ ho1);have ht6:=ht.mono keep;rw[list_sort_plain];refine wpAny_bind (listItems_at ho rfl (wpAny_bind (listUpdate_at ho rfl ?_ (by rw[List.size_toArray];exact hz) (Nat.zero_le _))));refine wpAny_bind (seqEpoch_at ho1 rfl (wpAny_bind (wpAny_newTuple ?_ (by show vs.length<=_;exact hz))));refine wpAny_bind (wpAny_newList (wpAny_holding ?_) (Nat.zero_le _));show wpAny (model prog w) A _ P E {s with heap:=((s.heap.update a (Obj.mapSeq λ _=>(#[]:Array Value))).push (seqObj "tuple" vs.toArray 0)).push (seqObj "list" #[] 0)};dsimp only;have hsz:∀p:Array Nat,Pm vs.length p->(mL vs p).size=vs.length:=λ p a1=>by unfold mL;rw[List.size_toArray,List.length_map,Array.length_toList,a1.sz]
 by_cases h2:vs.toArray.size<2
 ·rw[if_pos h2,if_pos h2]
  refine wpAny_bind (wpAny_pure ?_);rw[StateT.run_pure];refine wpAny_bind (wpAny_pure ?_);have h2':vs.length<2:=by simpa using h2
  have a1:Pm vs.length (List.range vs.length).toArray:=Array.Perm.refl _;have a3:=aFB h2';dsimp only;refine wpAny_bind (seqEpoch_at ho6 rfl ?_);show wpAny (model prog w) A (Builtin.List.listUpdate (.ref a) (λ _=>(vs.toArray.zip vs.toArray).map (·.2))>>=_) P E _;rw[a3];refine wpAny_bind (listUpdate_at ho6 rfl ?_ (Nat.zero_le _) (by show(mL vs _).size<=_;rw[hsz _ a1];lia));simp only[bne_self_eq_false,Bool.false_eq_true,if_false];exact wpAny_pure (h _ a1 λ i j hij hj=>by rw[show i=j by lia];exact xP _)
 ·rw[if_neg h2,if_neg h2]
  have h2':2<=vs.length:=Nat.le_of_not_lt (show¬vs.length<2 by simpa using h2);obtain⟨fs,f1,f2,f3⟩:=ht6.firsts;refine wpAny_bind (PySem.W.kat_kind (T:=.type "int") f1 (by lia) (λ v hv=>?_) (by decide) ?_)
  ·obtain⟨n,t,rfl⟩:=f3 v hv
   exact PySem.W.Looks.now
  rw[show(Value.type "int" !=Value.type "tuple")=true by decide];refine wpAny_bind (wpAny_mono (PySem.W.kat_run (κ:=tuples' true) (ks:=vs) (vs:=vs) (Q:=λ st s'=>s'={s with heap:=((s.heap.update a (Obj.mapSeq λ _=>(#[]:Array Value))).push (seqObj "tuple" vs.toArray 0)).push (seqObj "list" #[] 0)}/\∃p:Array Nat,Pm vs.length p/\Up (O:=aAf) (λ i=>nss.getD i []) p vs.length/\(arrOf st).map (·.2)=mL vs p/\failedOf st=none)
   (G:=λ p s'=>s'={s with heap:=((s.heap.update a (Obj.mapSeq λ _=>(#[]:Array Value))).push (seqObj "tuple" vs.toArray 0)).push (seqObj "list" #[] 0)}/\Pm vs.length p/\Up (O:=aAf) (λ i=>nss.getD i []) p vs.length)
   rfl h2' h64 (λ p st s' _ b2 b3 b4=>⟨b4.1,p,b4.2.1,b4.2.2,PySem.W.kat_snds rfl b2,b3⟩) ?_) (λ r s' hr=>?_) λ _ _ e=>e)
  ·refine yL (O:=aAf) (kz:=λ i=>nss.getD i []) (n:=vs.length) (I:=λ s'=>s'={s with heap:=((s.heap.update a (Obj.mapSeq λ _=>(#[]:Array Value))).push (seqObj "tuple" vs.toArray 0)).push (seqObj "list" #[] 0)}) (λ i j C s' hI hi hj hC=>?_) _ _ rfl (aFC (by lia) λ p a1 a2 s' hs'=>⟨hs',a1,a2⟩)
   subst hI;unfold PySem.W.kas_ask;obtain⟨x,ox,xs,kx,x1,x2,_,x4,x5,_⟩:=ht6.at hi;obtain⟨y,oy,ys,ky,y1,y2,_,y4,y5,_⟩:=ht6.at hj;rw[x1,y1];exact aAp x2 x4 y2 y4 x5 y5 (hC _ rfl)
  ·obtain⟨⟨⟩,st⟩:=r
   obtain⟨e,p,b1,b2,b3,b4⟩:=hr;subst e;refine wpAny_bind (seqEpoch_at ho6 rfl ?_);rw[b3,b4];refine wpAny_bind (listUpdate_at ho6 rfl ?_ (Nat.zero_le _) (by show(mL vs p).size<=_;rw[hsz p b1];lia));simp only[bne_self_eq_false,Bool.false_eq_true,if_false];exact wpAny_pure (h p b1 b2)
end
theorem sub_len[BEq α][LawfulBEq α]:∀{l l':List α},l.Nodup->(∀x∈l,x∈l')->l.length<=l'.length
 |[],_,_,_=>Nat.zero_le _
 |x::l,l',nd,h=>by
  have hx:x∈l':=h x List.mem_cons_self;have ih:=sub_len (l:=l) (l':=l'.erase x) (List.nodup_cons.mp nd).2 λ y hy=>(List.mem_erase_of_ne λ e=>by subst e;exact(List.nodup_cons.mp nd).1 hy).mpr (h y (List.mem_cons_of_mem _ hy))
  rw[List.length_erase_of_mem hx]at ih
  have:0<l'.length:=List.length_pos_of_mem hx
  rw[List.length_cons];lia
def Ris(xs:Array Nat):Prop:=∀i j,i<j->j<xs.size->xs.getD i 0<xs.getD j 0
theorem yG(hr:Ris xs):∀(f lo hi:Nat),lo<=hi->hi<=xs.size->hi-lo<=f->(∀i,i<lo->xs.getD i 0<j)->(∀i,hi<=i->i<xs.size->j<=xs.getD i 0)->
  SetTable.below.go xs j f lo hi<=xs.size/\(∀i,i<SetTable.below.go xs j f lo hi->xs.getD i 0<j)/\∀i,SetTable.below.go xs j f lo hi<=i->i<xs.size->j<=xs.getD i 0
 |0,lo,hi,h1,h2,h3,h4,h5=>by
  have e:lo=hi:=by lia
  subst e;exact⟨h2,h4,h5⟩
 |f+1,lo,hi,h1,h2,h3,h4,h5=>by
  unfold SetTable.below.go;by_cases hl:lo<hi
  ·rw[if_pos hl]
   dsimp only;have hm:(lo+hi) / 2<xs.size:=by lia
   have e:xs.getD ((lo+hi) / 2) j=xs.getD ((lo+hi) / 2) 0:=by simp[Array.getD,hm]
   rw[e];by_cases hc:xs.getD ((lo+hi) / 2) 0<j
   ·rw[if_pos hc]
    refine yG hr f _ hi (by lia) h2 (by lia) (λ i hi'=>?_) h5;by_cases q:i=(lo+hi) / 2
    ·rw[q];exact hc
    ·exact Nat.lt_trans (hr i ((lo+hi) / 2) (by lia) hm) hc
   ·rw[if_neg hc]
    refine yG hr f lo _ (by lia) (by lia) (by lia) h4 λ i q1 q2=>?_
    by_cases q:i=(lo+hi) / 2
    ·rw[q];lia
    ·have:=hr ((lo+hi) / 2) i (by lia) q2
     lia
  ·rw[if_neg hl]
   have e:lo=hi:=by lia
   subst e;exact⟨h2,h4,h5⟩
theorem oX(hr:Ris xs)(j:Nat):SetTable.below xs j<=xs.size/\(∀i,i<SetTable.below xs j->xs.getD i 0<j)/\∀i,SetTable.below xs j<=i->i<xs.size->j<=xs.getD i 0:=
 yG hr xs.size 0 xs.size (Nat.zero_le _) (Nat.le_refl _) (by lia) (λ i h=>by lia) λ i h1 h2=>by lia
structure fK(t:SetTable)(n:Nat):Prop where
 dum:t.dummies=#[]
 siz:t.place.size=n
 ris:Ris t.place
 top:∀i,i<n->t.place.getD i 0<=t.mask
 msk:t.mask=7/\n<5\/t.mask=31/\n<19\/t.mask=127/\n<77
 pla:t.plain=true
theorem fK.fresh(led:Bool):fK (SetTable.fresh 0 0 led) 0:=⟨rfl,rfl,λ i j _ h=>by simp[SetTable.fresh]at h,λ i h=>by lia,.inl ⟨rfl,by lia⟩,rfl⟩
theorem fK.few(h:fK t n):n<t.mask:=by
 rcases h.msk with ⟨e,l⟩|⟨e,l⟩|⟨e,l⟩<;>lia
theorem fK.fill(h:fK t n):t.fill=n:=by unfold SetTable.fill;rw[h.dum,h.siz];rfl
theorem fK.fits(h:fK t n):t.fits n=true:=by
 unfold SetTable.fits;rw[h.fill,h.siz]
 have:=h.few
 simp;lia
theorem wB(h:fK t n)(j:Nat):t.slot j= .empty\/∃i,i<n/\t.slot j= .live i/\t.place.getD i 0=j:=by
 unfold SetTable.slot;dsimp only;by_cases e:(t.place[SetTable.below t.place j]? ==some j)=true
 ·rw[if_pos e]
  have e':=beq_iff_eq.mp e;obtain⟨h1,h2⟩:=Array.getElem?_eq_some_iff.mp e';exact .inr ⟨_,by rw[<-h.siz];exact h1,rfl,by simp[Array.getD,h1,h2]⟩
 ·rw[if_neg e]
  have:SetTable.has t.dummies j=false:=by rw[h.dum];unfold SetTable.has;simp
  rw[this];exact .inl (by simp)
theorem aDB(h:fK t n)(e:t.slot j= .empty):∀i,i<n->t.place.getD i 0≠j:=by
 intro i hi q;obtain⟨b1,b2,b3⟩:=oX h.ris j;have hb:SetTable.below t.place j=i:=by
  rcases Nat.lt_trichotomy (SetTable.below t.place j) i with z|z|z
  ·have z1:=b3 _ (Nat.le_refl _) (by rw[h.siz];lia)
   have z2:=h.ris _ i z (by rw[h.siz];exact hi);lia
  ·exact z
  ·have:=b2 i z
   lia
 have hi':i<t.place.size:=by rw[h.siz];exact hi
 have e2:t.place[i]? =some j:=by rw[Array.getElem?_eq_some_iff];exact⟨hi',by rw[<-q];simp[Array.getD,hi']⟩
 unfold SetTable.slot at e;dsimp only at e;rw[hb,e2]at e;simp at e
def kZ(mask:Nat):Nat->Nat×Nat->Nat×Nat
 |0,st=>st
 |k+1,st=>kZ mask k (SetTable.leap mask st.1 st.2)
theorem zE(mask:Nat):∀(k:Nat) (st:Nat×Nat),(kZ mask k st).2=st.2 / 32^k
 |0,st=>by simp[kZ]
 |k+1,st=>by
  show(kZ mask k (SetTable.leap mask st.1 st.2)).2=_
  rw[zE mask k];show st.2 / 32 / 32^k=_;rw[Nat.div_div_eq_div_mul,Nat.pow_succ,Nat.mul_comm]
theorem zH(mask:Nat):∀(j k:Nat) (st:Nat×Nat),kZ mask (j+k) st=kZ mask k (kZ mask j st)
 |0,k,st=>by rw[Nat.zero_add];rfl
 |j+1,k,st=>by
  rw[show j+1+k=(j+k)+1 by lia];exact zH mask j k _
def orb(M:Nat):Nat->Nat->Nat
 |0,i=>i
 |k+1,i=>orb M k ((i*5+1)%M)
theorem rE(M:Nat):∀(j k i:Nat),orb M (j+k) i=orb M k (orb M j i)
 |0,k,i=>by rw[Nat.zero_add];rfl
 |j+1,k,i=>by
  rw[show j+1+k=(j+k)+1 by lia];exact rE M j k _
theorem zF(mask:Nat):∀(k i:Nat),kZ mask k (i,0)=(orb (mask+1) k i,0)
 |0,i=>rfl
 |k+1,i=>by
  show kZ mask k (SetTable.leap mask i 0)=_
  have:SetTable.leap mask i 0=((i*5+1)%(mask+1),0):=by simp[SetTable.leap]
  rw[this];exact zF mask k _
theorem aCM:∀M∈[8,32,128],(∀t∈List.range M,∃k∈List.range M,orb M k 0=t)/\orb M M 0=0:=by decide+kernel
theorem aFm(hm:mask=7\/mask=31\/mask=127)(hi:i<=mask)(ht:t<=mask):∃k,k<=mask/\orb (mask+1) k i=t:=by
 have hM:mask+1∈[8,32,128]:=by rcases hm with e|e|e<;>subst e<;>decide
 obtain⟨h1,h2⟩:=aCM _ hM;obtain⟨a,ha,ea⟩:=h1 i (by simp;lia);obtain⟨b,hb,eb⟩:=h1 t (by simp;lia);simp only[List.mem_range]at ha hb;by_cases hab:a<=b
 ·refine⟨b-a,by lia,?_⟩
  rw[<-ea,<-rE,show a+(b-a)=b by lia,eb]
 ·refine⟨mask+1-a+b,by lia,?_⟩
  rw[<-ea,<-rE,show a+(mask+1-a+b)=(mask+1)+b by lia,rE,h2,eb]
theorem aGj(h:Int):SetTable.bits h<2^64:=by
 unfold SetTable.bits;have h1:=Int.emod_nonneg h (show(2^64:Int)≠0 by decide);have h2:=Int.emod_lt_of_pos h (show(0:Int)<2^64 by decide);lia
theorem zG(hm:mask=7\/mask=31\/mask=127)(h:Int)(ht:t<=mask)(i₀:Nat):∃k,k<mask+15/\(kZ mask k (i₀,SetTable.bits h)).1=t:=by
 have e1:(kZ mask 13 (i₀,SetTable.bits h)).2=0:=by
  rw[zE]
  have:=aGj h
  exact Nat.div_eq_of_lt (Nat.lt_trans this (by decide))
 have e2:(kZ mask 13 (i₀,SetTable.bits h)).1<=mask:=by
  show(kZ mask 12 (SetTable.leap mask i₀ (SetTable.bits h))).1<=mask
  have go:∀k (st:Nat×Nat),st.1<=mask->(kZ mask k st).1<=mask:=by
   intro k;induction k with
   |zero=>intro st q;exact q
   |succ k ih=>
    intro st q;refine ih _ ?_
    show(st.1*5+1+st.2 / 32)%(mask+1)<=mask
    exact Nat.le_of_lt_succ (Nat.mod_lt _ (Nat.succ_pos _))
  refine go 12 _ ?_
  show(i₀*5+1+SetTable.bits h / 32)%(mask+1)<=mask
  exact Nat.le_of_lt_succ (Nat.mod_lt _ (Nat.succ_pos _))
 obtain⟨k,hk,ek⟩:=aFm hm e2 ht;refine⟨13+k,by lia,?_⟩;rw[zH];have e3:kZ mask 13 (i₀,SetTable.bits h)=((kZ mask 13 (i₀,SetTable.bits h)).1,0):=by rw[<-e1]
 rw[e3,zF];exact ek
theorem vH(hi:i<=mask):i<=SetTable.runEnd mask i/\SetTable.runEnd mask i<=mask/\SetTable.runEnd mask i<=i+9:=by
 unfold SetTable.runEnd;split<;>lia
section
variable{t:SetTable}{n:Nat}{hashAt:Nat->Int}{h:Int}
abbrev aBZ(t:SetTable)(i pert:Nat):SetTable.Probe:={j:=i,more:=SetTable.runEnd t.mask i-i,i:=i,perturb:=pert,dummy:=none}
theorem aE5(fuel:Nat)(p:SetTable.Probe):SetTable.probe.go t hashAt h (fuel+1) p=(match t.slot p.j with
  | .empty=>some (.empty p.j p.dummy)
  | .dummy=>SetTable.probe.go t hashAt h fuel (t.advance {p with dummy:=some p.j})
  | .live i=>if hashAt i==h then some (.candidate p.j i (t.advance p))else SetTable.probe.go t hashAt h fuel (t.advance p)):=rfl
theorem aE4(T:fK t n)(hh:∀i,i<n->hashAt i≠h):∀(m fuel:Nat) (p:SetTable.Probe),p.more=m->p.dummy=none->
  (∃j,p.j<=j/\j<=p.j+m/\t.slot j= .empty/\SetTable.probe.go t hashAt h (fuel+m+1) p=some (.empty j none))\/
  (t.slot p.j≠.empty/\SetTable.probe.go t hashAt h (fuel+m+1) p=SetTable.probe.go t hashAt h fuel (aBZ t (SetTable.leap t.mask p.i p.perturb).1 (SetTable.leap t.mask p.i p.perturb).2))
 |0,fuel,p,hm,hd=>by
  rw[show fuel+0+1=fuel+1 from rfl,aE5];rcases wB T p.j with e|⟨i,hi,e,_⟩
  ·rw[e]
   exact .inl ⟨p.j,Nat.le_refl _,Nat.le_refl _,e,by rw[hd]⟩
  ·rw[e]
   right;refine⟨by simp,?_⟩;dsimp only;rw[if_neg (by simpa using hh i hi)];congr 1;unfold SetTable.advance;rw[if_neg (by lia)];simp[aBZ,hd]
 |m+1,fuel,p,hm,hd=>by
  rw[aE5];rcases wB T p.j with e|⟨i,hi,e,_⟩
  ·rw[e]
   exact .inl ⟨p.j,Nat.le_refl _,by lia,e,by rw[hd]⟩
  ·rw[e]
   dsimp only;rw[if_neg (by simpa using hh i hi)];have ha:t.advance p={p with j:=p.j+1,more:=p.more-1}:=by
    unfold SetTable.advance;rw[if_pos (by lia)]
   rw[ha];rcases aE4 T hh m fuel {p with j:=p.j+1,more:=p.more-1} (by show p.more-1=m;lia) hd with ⟨j,q1,q2,q3,q4⟩|⟨q1,q2⟩
   ·exact .inl ⟨j,by show p.j<=j;have:p.j+1<=j:=q1;lia,by have:j<=p.j+1+m:=q2;lia,q3,q4⟩
   ·exact .inr ⟨by simp,q2⟩
theorem aBh(T:fK t n)(hh:∀i,i<n->hashAt i≠h):∀(N fuel i pert:Nat),i<=t.mask->10*N<=fuel->
  (∃j,j<=t.mask/\t.slot j= .empty/\SetTable.probe.go t hashAt h fuel (aBZ t i pert)=some (.empty j none))\/∀k,k<N->t.slot (kZ t.mask k (i,pert)).1≠.empty
 |0,fuel,i,pert,hi,hf=>.inr λ k hk=>by lia
 |N+1,fuel,i,pert,hi,hf=>by
  obtain⟨r1,r2,r3⟩:=vH hi;obtain⟨f',rfl⟩:∃f',fuel=f'+(SetTable.runEnd t.mask i-i)+1:=⟨fuel-(SetTable.runEnd t.mask i-i)-1,by lia⟩
  rcases aE4 T hh (SetTable.runEnd t.mask i-i) f' (aBZ t i pert) rfl rfl with ⟨j,q1,q2,q3,q4⟩|⟨q1,q2⟩
  ·exact .inl ⟨j,by have:j<=i+(SetTable.runEnd t.mask i-i):=q2;lia,q3,q4⟩
  ·have hl:(SetTable.leap t.mask i pert).1<=t.mask:=Nat.le_of_lt_succ (Nat.mod_lt _ (Nat.succ_pos _))
   rcases aBh T hh N f' _ (SetTable.leap t.mask i pert).2 hl (by lia)with ⟨j,s1,s2,s3⟩|s
   ·exact .inl ⟨j,s1,s2,q2.trans s3⟩
   ·right
    intro k hk;cases k with
    |zero=>exact q1
    |succ k=>exact s k (by lia)
theorem fK.mask3(T:fK t n):t.mask=7\/t.mask=31\/t.mask=127:=by
 rcases T.msk with ⟨e,_⟩|⟨e,_⟩|⟨e,_⟩
 ·exact .inl e
 ·exact .inr (.inl e)
 ·exact .inr (.inr e)
theorem aAY(T:fK t n)(hh:∀i,i<n->hashAt i≠h):∃j,j<=t.mask/\t.slot j= .empty/\t.probe hashAt h (t.probeStart h)=some (.empty j none):=by
 have hs:SetTable.bits h%(t.mask+1)<=t.mask:=Nat.le_of_lt_succ (Nat.mod_lt _ (Nat.succ_pos _));rcases aBh T hh (t.mask+15) (10*SetTable.turns t.mask) _ (SetTable.bits h) hs (by unfold SetTable.turns;lia)with z|z
 ·exact z
 ·exfalso
  have hall:∀x∈List.range (t.mask+1),x∈t.place.toList:=by
   intro x hx;simp only[List.mem_range]at hx;obtain⟨k,hk,ek⟩:=zG T.mask3 h (t:=x) (by lia) (SetTable.bits h%(t.mask+1))
   have:=z k hk
   rw[ek]at this;rcases wB T x with e|⟨i,hi,_,e⟩
   ·exact absurd e this
   ·rw[<-e]
    have hi':i<t.place.size:=by rw[T.siz];exact hi
    rw[show t.place.getD i 0=t.place[i]by simp[Array.getD,hi']];exact Array.getElem_mem_toList hi'
  have:=sub_len List.nodup_range hall
  have h2:=T.few;rw[List.length_range,Array.length_toList,T.siz]at this;lia
end
theorem rH(xs:Array α)(p:Nat)(x d:α)(hp:p<=xs.size)(i:Nat):(SetTable.insertAt xs p x).getD i d=if i<p then xs.getD i d else if i=p then x else xs.getD (i-1) d:=by
 have e:∀(ys:Array α) i,ys.getD i d=(ys.toList[i]?).getD d:=λ ys i=>by rw[Array.getD_eq_getD_getElem?,Array.getElem?_toList]
 rw[e,e,e,SetTable.toList_insertAt];have hl:p<=xs.toList.length:=by simpa using hp
 by_cases h1:i<p
 ·rw[if_pos h1,List.getElem?_append_left (by rw[List.length_take];lia),List.getElem?_take,if_pos h1]
 ·rw[if_neg h1,List.getElem?_append_right (by rw[List.length_take];lia),List.length_take,Nat.min_eq_left hl]
  by_cases h2:i=p
  ·rw[if_pos h2,h2,Nat.sub_self]
   rfl
  ·rw[if_neg h2,show i-p=(i-p-1)+1 by lia,List.getElem?_cons_succ,List.getElem?_drop]
   congr 2;lia
theorem oH(xs:Array α)(p:Nat)(x:α):(SetTable.insertAt xs p x).size=xs.size+1:=by
 rw[<-Array.length_toList,(SetTable.insertAt_perm xs p x).length_eq,Array.toList_push];simp
theorem qH{t:SetTable}(hf:t.fill=n):t.tooFull=decide (t.mask*3<=n*5):=by unfold SetTable.tooFull;rw[hf]
structure lV(t:SetTable)(n:Nat):Prop where
 dum:t.dummies=#[]
 siz:t.place.size=n
 ris:Ris t.place
 top:∀i,i<n->t.place.getD i 0<=t.mask
 msk:t.mask=7/\n<=5\/t.mask=31/\n<=19\/t.mask=127/\n<77
 pla:t.plain=true
theorem lV.fill(h:lV t n):t.fill=n:=by unfold SetTable.fill;rw[h.dum,h.siz];rfl
theorem lV.fits(h:lV t n):t.fits n=true:=by
 unfold SetTable.fits;rw[h.fill,h.siz]
 have:=h.msk
 simp;lia
theorem aHq(T:fK t n)(h64:n<63)(hj:j<=t.mask)(he:t.slot j= .empty):lV (t.put j).1 (n+1)/\(t.put j).2=SetTable.below t.place j/\(t.put j).2<=n/\(t.put j).1.mask=t.mask/\(t.put j).1.led=t.led:=by
 have hno:=aDB T he;obtain⟨b1,b2,b3⟩:=oX T.ris j;have hsz:=T.siz;have hg:=rH t.place (SetTable.below t.place j) j 0 b1;refine⟨⟨?_,?_,?_,?_,?_,T.pla⟩,rfl,by rw[<-hsz];exact b1,rfl,rfl⟩
 ·show(if SetTable.has t.dummies j then SetTable.eraseAt t.dummies (SetTable.below t.dummies j)else t.dummies)=#[]
  rw[T.dum]
  have:SetTable.has #[] j=false:=by unfold SetTable.has;simp
  rw[this];rfl
 ·show(SetTable.insertAt t.place _ j).size=n+1
  rw[oH,hsz]
 ·intro a b hab hb
  have hb':b<n+1:=by
   have:b<(SetTable.insertAt t.place (SetTable.below t.place j) j).size:=hb
   rw[oH,hsz]at this;exact this
  show(SetTable.insertAt t.place (SetTable.below t.place j) j).getD a 0<(SetTable.insertAt t.place (SetTable.below t.place j) j).getD b 0
  rw[hg,hg];by_cases a1:a<SetTable.below t.place j
  ·rw[if_pos a1]
   by_cases c1:b<SetTable.below t.place j
   ·rw[if_pos c1];exact T.ris a b hab (by lia)
   ·rw[if_neg c1]
    by_cases c2:b=SetTable.below t.place j
    ·rw[if_pos c2];exact b2 a a1
    ·rw[if_neg c2]
     exact T.ris a (b-1) (by lia) (by lia)
  ·rw[if_neg a1,if_neg (show¬b<SetTable.below t.place j by lia),if_neg (show¬b=SetTable.below t.place j by lia)]
   by_cases a2:a=SetTable.below t.place j
   ·rw[if_pos a2]
    have q1:=b3 (b-1) (by lia) (by lia);have q2:=hno (b-1) (by lia);lia
   ·rw[if_neg a2]
    exact T.ris (a-1) (b-1) (by lia) (by lia)
 ·intro i hi
  show(SetTable.insertAt t.place (SetTable.below t.place j) j).getD i 0<=t.mask
  rw[hg];split
  ·exact T.top i (by lia)
  ·split
   ·exact hj
   ·exact T.top (i-1) (by lia)
 ·have:=T.msk
  show t.mask=7/\n+1<=5\/t.mask=31/\n+1<=19\/t.mask=127/\n+1<77;lia
theorem lV.still{t:SetTable}(h:lV t n)(hf:t.tooFull=false):fK t n:=by
 rw[qH h.fill]at hf;simp only[decide_eq_false_iff_not]at hf;refine⟨h.dum,h.siz,h.ris,h.top,?_,h.pla⟩;rcases h.msk with ⟨e,l⟩|⟨e,l⟩|⟨e,l⟩<;>rw[e]at hf
 ·exact .inl ⟨e,by lia⟩
 ·exact .inr (.inl ⟨e,by lia⟩)
 ·exact .inr (.inr ⟨e,by lia⟩)
theorem lV.full{t:SetTable}(h:lV t n)(h64:n<=63)(hf:t.tooFull=true):n=5\/n=19:=by
 rw[qH h.fill]at hf;simp only[decide_eq_true_eq]at hf
 have:=h.msk
 lia
def heldBy(owner:Array (Option Nat)):List Nat:=owner.toList.filterMap id
theorem uB:∀(l:List (Option Nat)) (j x:Nat),l[j]? =some none->((l.set j (some x)).filterMap id).Perm (x::l.filterMap id)
 |[],j,x,h=>by simp at h
 |a::l,0,x,h=>by
  simp at h;subst h;exact List.Perm.refl _
 |none::l,j+1,x,h=>by
  have ih:=uB l j x (by simpa using h);simpa using ih
 |some a::l,j+1,x,h=>by
  have ih:=uB l j x (by simpa using h)
  have:(((some a::l).set (j+1) (some x)).filterMap id).Perm (a::x::l.filterMap id):=by
   simpa using ih.cons a
  exact this.trans (List.Perm.swap _ _ _)
theorem vR:∀(l:List (Option Nat)),(∀j,j<l.length->∃x,l[j]? =some (some x))->(l.filterMap id).length=l.length
 |[],_=>rfl
 |a::l,h=>by
  obtain⟨x,e⟩:=h 0 (by simp);have ex:a=some x:=by simpa using e
  subst ex;have ih:=vR l λ j hj=>by simpa using h (j+1) (by simpa using hj)
  simp[ih]
theorem aBj(ho:owner.size=mask+1):∀(N i pert:Nat),i<=mask->
  (∃j,owner.toList[j]? =some none/\SetTable.layClean.free mask owner N i pert=some j)\/∀k,k<N->∃x,owner.toList[(kZ mask k (i,pert)).1]? =some (some x)
 |0,i,pert,hi=>.inr λ k hk=>by lia
 |N+1,i,pert,hi=>by
  obtain⟨r1,r2,r3⟩:=vH hi;have hone:SetTable.layClean.free mask owner (N+1) i pert=(match (List.range (SetTable.runEnd mask i+1-i)).find? λ k=>(owner.getD (i+k) (some 0)).isNone with
   |some k=>some (i+k)
   |none=>SetTable.layClean.free mask owner N (SetTable.leap mask i pert).1 (SetTable.leap mask i pert).2):=rfl
  rw[hone];cases hf:(List.range (SetTable.runEnd mask i+1-i)).find? λ k=>(owner.getD (i+k) (some 0)).isNone with
  |some k=>
   left;have h1:=List.mem_of_find?_eq_some hf;have h2:=List.find?_some hf;simp only[List.mem_range]at h1;have hlt:i+k<owner.size:=by lia
   refine⟨i+k,?_,rfl⟩;have e:owner.getD (i+k) (some 0)=owner[i+k]:=by simp[Array.getD,hlt]
   rw[e]at h2;rw[Array.getElem?_toList,Array.getElem?_eq_some_iff];exact⟨hlt,by simpa using h2⟩
  |none=>
   have h0:=List.find?_eq_none.mp hf 0 (by simp;lia);have hlt:i<owner.size:=by lia
   have e:owner.getD (i+0) (some 0)=owner[i]:=by simp[Array.getD,hlt]
   rw[e]at h0;have hl:(SetTable.leap mask i pert).1<=mask:=Nat.le_of_lt_succ (Nat.mod_lt _ (Nat.succ_pos _));rcases aBj ho N _ (SetTable.leap mask i pert).2 hl with ⟨j,s1,s2⟩|s
   ·exact .inl ⟨j,s1,s2⟩
   ·right
    intro k hk;cases k with
    |zero=>
     show∃x,owner.toList[i]? =some (some x)
     rw[Array.getElem?_toList];cases q:owner[i]with
     |none=>rw[q]at h0;simp at h0
     |some x=>exact⟨x,by rw[Array.getElem?_eq_some_iff];exact⟨hlt,q⟩⟩
    |succ k=>exact s k (by lia)
theorem aC7(hm:mask=7\/mask=31\/mask=127)(ho:owner.size=mask+1)(hfew:(heldBy owner).length<mask+1)(h:Int):
  ∃j,owner.toList[j]? =some none/\SetTable.layClean.free mask owner (SetTable.turns mask) (SetTable.bits h%(mask+1)) (SetTable.bits h)=some j:=by
 rcases aBj ho (SetTable.turns mask) _ (SetTable.bits h) (Nat.le_of_lt_succ (Nat.mod_lt (SetTable.bits h) (Nat.succ_pos mask)))with z|z
 ·exact z
 ·exfalso
  have:=vR owner.toList λ j hj=>by
   rw[Array.length_toList,ho]at hj;obtain⟨k,hk,ek⟩:=zG hm h (t:=j) (by lia) (SetTable.bits h%(mask+1));obtain⟨x,e⟩:=z k (by unfold SetTable.turns;lia);rw[ek]at e;exact⟨x,e⟩
  unfold heldBy at hfew;rw[this,Array.length_toList]at hfew;lia
def rG(mask:Nat)(acc:Option (Array (Option Nat)×Nat))(h:Int):Option (Array (Option Nat)×Nat):=do
 let(owner,k) <-acc
 let j <-SetTable.layClean.free mask owner (SetTable.turns mask) (SetTable.bits h%(mask+1)) (SetTable.bits h)
 pure (owner.setIfInBounds j (some k),k+1)
theorem zK(hm:mask=7\/mask=31\/mask=127):∀(hs:List Int) (owner:Array (Option Nat)) (k:Nat),owner.size=mask+1->(heldBy owner).Perm (List.range k)->k+hs.length<=mask->
  ∃owner',hs.foldl (rG mask) (some (owner,k))=some (owner',k+hs.length)/\owner'.size=mask+1/\(heldBy owner').Perm (List.range (k+hs.length))
 |[],owner,k,ho,hp,hl=>⟨owner,rfl,ho,hp⟩
 |h::hs,owner,k,ho,hp,hl=>by
  rw[List.length_cons]at hl;obtain⟨j,e1,e2⟩:=aC7 hm ho (by rw[hp.length_eq,List.length_range];lia) h;have hst:rG mask (some (owner,k)) h=some (owner.setIfInBounds j (some k),k+1):=by
   unfold rG;simp[e2]
  rw[List.foldl_cons,hst];obtain⟨o',f1,f2,f3⟩:=zK hm hs (owner.setIfInBounds j (some k)) (k+1) (by simpa using ho) (by
   unfold heldBy;rw[Array.toList_setIfInBounds];refine(uB owner.toList j k e1).trans ?_;rw[List.range_succ];exact(List.Perm.cons k hp).trans (List.perm_append_singleton k _).symm) (by lia)
  refine⟨o',?_,f2,?_⟩
  ·rw[f1,List.length_cons,show k+1+hs.length=k+(hs.length+1)by lia]
  ·rw[List.length_cons,show k+(hs.length+1)=k+1+hs.length by lia]
   exact f3
theorem aE2(m:Nat):heldBy (Array.replicate m none)=[]:=by
 unfold heldBy;rw[Array.toList_replicate];induction m with
 |zero=>rfl
 |succ m ih=>rw[List.replicate_succ];simpa using ih
theorem zL(hm:mask=7\/mask=31\/mask=127)(hs:Array Int)(hl:hs.size<=mask):∃owner,SetTable.layClean mask hs=some owner/\owner.size=mask+1/\(heldBy owner).Perm (List.range hs.size):=by
 obtain⟨o',f1,f2,f3⟩:=zK hm hs.toList (Array.replicate (mask+1) none) 0 (by simp) (by rw[aE2];exact List.Perm.refl _) (by simpa using hl);refine⟨o',?_,f2,by simpa using f3⟩;have e:SetTable.layClean mask hs=(hs.foldl (rG mask) (some (Array.replicate (mask+1) none,0))).map (·.1):=rfl;rw[e,<-Array.foldl_toList,f1];rfl
def jP(owner:Array (Option Nat))(m:Nat):List (Nat×Nat):=(List.range m).filterMap λ j=>(owner.getD j none).map (j,·)
theorem zA:∀(l:List (Option Nat)) (b:Nat) (f:Nat->Option Nat),(∀i,i<l.length->f (b+i)=(l[i]?).getD none)->
  ((List.range' b l.length).filterMap λ j=>(f j).map (j,·)).map (·.2)=l.filterMap id
 |[],_,_,_=>rfl
 |a::l,b,f,h=>by
  have h0:=h 0 (by simp);simp at h0;have ih:=zA l (b+1) f λ i hi=>by
   have:=h (i+1) (by simpa using hi)
   rw[show b+(i+1)=b+1+i by lia]at this;simpa using this
  rw[List.length_cons,List.range'_succ,List.filterMap_cons,h0];cases a with
  |none=>simpa using ih
  |some x=>simpa using ih
theorem aAd(owner:Array (Option Nat)):(jP owner owner.size).map (·.2)=heldBy owner:=by
 have:=zA owner.toList 0 (λ j=>owner.getD j none) λ i hi=>by
  rw[Nat.zero_add,Array.getD_eq_getD_getElem?,Array.getElem?_toList]
 unfold jP heldBy;rw[List.range_eq_range',<-this,Array.length_toList]
theorem zB(f:Nat->Option Nat):∀(m b:Nat),(((List.range' b m).filterMap λ j=>(f j).map (j,·)).map (·.1)).Pairwise (·< ·)/\∀x∈((List.range' b m).filterMap λ j=>(f j).map (j,·)).map (·.1),b<=x/\x<b+m
 |0,b=>⟨.nil,λ x hx=>by simp at hx⟩
 |m+1,b=>by
  obtain⟨ih1,ih2⟩:=zB f m (b+1);rw[List.range'_succ,List.filterMap_cons];cases hf:f b with
  |none=>
   simp only[Option.map_none];exact⟨ih1,λ x hx=>by have:=ih2 x hx;lia⟩
  |some y=>
   simp only[Option.map_some,List.map_cons];refine⟨List.pairwise_cons.mpr ⟨λ x hx=>by have:=ih2 x hx;lia,ih1⟩,λ x hx=>?_⟩;rcases List.mem_cons.mp hx with e|hx
   ·lia
   ·have:=ih2 x hx
    lia
theorem aHn{l:List Nat}(h:l.Pairwise (·< ·)):Ris l.toArray:=by
 intro i j hij hj;have hj':j<l.length:=by simpa using hj
 have e:∀k,k<l.length->l.toArray.getD k 0=l[k]!:=λ k hk=>by simp[Array.getD,hk]
 have:=List.pairwise_iff_getElem.mp h i j (by lia) hj' hij
 simp[Array.getD,hj',show i<l.length by lia];exact this
theorem aDS{t:SetTable}(hp:t.plain=true)(hn:n=5\/n=19)(hs:Array Int)(hl:hs.size=n):
  ∃t' order,t.relaid hs (SetTable.grown n)=some (t',order)/\fK t' n/\t'.led=t.led/\order.toList.Perm (List.range n):=by
 have hm:∃mask,SetTable.sizeAbove (SetTable.grown n)-1=mask/\(mask=31/\n=5\/mask=127/\n=19):=by
  rcases hn with e|e<;>subst e
  ·exact⟨31,by decide,.inl ⟨rfl,rfl⟩⟩
  ·exact⟨127,by decide,.inr ⟨rfl,rfl⟩⟩
 obtain⟨mask,em,hmn⟩:=hm;have hm3:mask=7\/mask=31\/mask=127:=by lia
 obtain⟨owner,o1,o2,o3⟩:=zL hm3 hs (by lia);have hsnd:=aAd owner;obtain⟨r1,r2⟩:=zB (λ j=>owner.getD j none) (mask+1) 0;rw[<-List.range_eq_range']at r1 r2;have hlen:((jP owner (mask+1)).map (·.1)).length=n:=by
  rw[List.length_map,<-List.length_map (f:=(·.2)),<-o2,hsnd,o3.length_eq,List.length_range,hl]
 refine⟨{mask:=mask,place:=((jP owner (mask+1)).map (·.1)).toArray,dummies:=#[],finger:=t.finger,led:=t.led,moves:=t.movedTo mask,plain:=t.plain},((jP owner (mask+1)).map (·.2)).toArray,?_,⟨rfl,?_,aHn r1,?_,?_,hp⟩,rfl,?_⟩
 ·unfold SetTable.relaid SetTable.laid
  rw[em,o1];rfl
 ·simpa using hlen
 ·intro i hi
  have hi':i<((jP owner (mask+1)).map (·.1)).length:=by rw[hlen];exact hi
  show((jP owner (mask+1)).map (·.1)).toArray.getD i 0<=mask
  have:((jP owner (mask+1)).map (·.1)).toArray.getD i 0=((jP owner (mask+1)).map (·.1))[i]:=by
   rw[Array.getD_eq_getD_getElem?,List.getElem?_toArray,List.getElem?_eq_getElem hi'];rfl
  rw[this]
  have:=r2 _ (List.getElem_mem hi')
  lia
 ·show mask=7/\n<5\/mask=31/\n<19\/mask=127/\n<77
  lia
 ·show((jP owner (mask+1)).map (·.2)).Perm (List.range n)
  rw[<-o2,hsnd,<-hl];exact o3
abbrev bz(es:Array (Int×Value))(ep:Nat)(t:SetTable):Obj:={cls:=.type "set",dict:=none,data:=.set es ep t}
structure TupAt(h:Heap)(x:Addr)(ns:List Int):Prop where
 ex:∃o xs k,h.get? x=some o/\o.cls= .type "tuple"/\o.data= .seq xs k/\IntsAre xs.toList ns
section
variable{prog:Program}{w:World}{A:Around}{E:Value->Shared->Prop}{s:Shared}
theorem aCv(ho:s.heap.get? a=some (bz es ep t))(hz:es'.size<=63)
  (h:(s.heap.update a (Obj.putSet es' t')).get? a=some (bz es' (ep+1) t')->Q () {s with heap:=s.heap.update a (Obj.putSet es' t')}):wpAny (model prog w) A (storeSet a es' t') Q E s:=by
 refine wpAny_storeSet_of ho rfl (h ?_) (by rw[sizeLine_eq];lia)
 have:=Heap.get?_update_self (Obj.putSet es' t') ho (by rw[putSet_of es' t' rfl];rfl)
 rw[putSet_of es' t' rfl]at this;exact this
end
section
variable{prog:Program}{w:World}{A:Around}{R:Result->Shared->Prop}{I:Addr}{fp wr:List Addr}{G:Array GenState->Array GenState->Prop}{n:Nat}{St:Nat->Shared->Prop}{vs:List Value}{nss:List (List Int)}
end
end VL
namespace PySem
section
variable{prog:Program}{w:World}{A:Around}{E:Value->Shared->Prop}{s:Shared}
theorem aDI(a:Value)(h:Q₁ (.ref s.heap.objs.size) {s with heap:=s.heap.push (VL.bz #[] 0 (.fresh 0 0 (!w.params.followText "set-order")))}):
  codeAny (model prog w) A (.call (.builtin "set.__new__") ⟨[.type "set",a],[]⟩) (wants Q₁ E) s:=by
 refine codeAny_of_tree ?_;show wpAny _ A.in1 (checkBuiltinCall "set.__new__" ⟨[.type "set",a],[]⟩>>=λ _=>again (.builtin "set.__new__" ⟨[.type "set",a],[]⟩)) _ _ s;refine wpAny_bind (wpAny_of_eq (F.newCall_set_1 a) (wpAny_pure ⟨plainId_quiet PySem.F.plain_set_new _,codeAny_builtin PySem.F.entry_set_new ?_⟩));rw[Around.under_plainId PySem.F.plain_set_new _];unfold Builtin.«set.__new__» Builtin.Frozenset.newClass;have hsub:=sub_set_self;obtain⟨hp,g,d,tk,os⟩:=s;dsimp only;wp_walk;refine wpAny_askSetting (wpAny_pure ?_);dsimp only;simp only[newObj];exact wpAny_bind (wpAny_alloc (wpAny_pure (wpAny_pure h)))
set_option maxHeartbeats 3200000 in
theorem zf{l:Addr}{T:String}{oI:Obj}{Φ:Heap->Prop}{Q:Value->Shared->Prop}(hty:s.TypeIs (.ref l) T)(hsls:isSubtype (.type T) (.type "set")=pure false)(hslf:isSubtype (.type T) (.type "frozenset")=pure false)(hne:(Value.type T==Value.type "dict")=false)
  (hit:∀(h₁:Heap) (A₁:Around) (E₁:Value->Shared->Prop) (Q₁:Value->Shared->Prop),(∀b o,s.heap.get? b=some o->h₁.get? b=some o)->Q₁ (.ref h₁.objs.size) {s with heap:=h₁.push oI}->wpAny (model prog w) A₁ (pyIter (.ref l)) Q₁ E₁ {s with heap:=h₁})
  (hrun:∀R:Result->Shared->Prop,(∀h' tk,Φ h'->(∀b o,s.heap.get? b=some o->h'.get? b=some o)->R (.ok (.ret .none)) {s with heap:=h',toks:=tk})->
   codeAny (model prog w) A.in1.in1 (.builtin "set.update.loop" ⟨[.ref s.heap.objs.size,.ref (s.heap.push (VL.bz #[] 0 (.fresh 0 0 (!w.params.followText "set-order")))).objs.size],[]⟩) R {s with heap:=(s.heap.push (VL.bz #[] 0 (.fresh 0 0 (!w.params.followText "set-order")))).push oI})
  (h:∀h' tk,Φ h'->(∀b o,s.heap.get? b=some o->h'.get? b=some o)->Q (.ref s.heap.objs.size) {s with heap:=h',toks:=tk}):
  wpAny (model prog w) A (call (.type "set") [.ref l]) Q E s:=by
 obtain⟨c,tl,hmro⟩:=F.called_set.mro;have hmade:=F.called_set.made;have hsub:=F.called_set.sub
 refine wpAny_call (codeAny_of_tree ?_);show wpAny _ _ (callAny (.type "set") _) _ _ _;refine wpAny_pure ⟨Code.quiet_builtin _ (by decide+kernel),codeAny_builtin PySem.F.entry_type_call ?_⟩;rw[Around.under_plain (weight_type_call_type "set" [.ref l] []) rfl];have h1:=F.called_set.notType;have h2:=F.called_set.canCreate
 have hct:=F.typeCall_set_1 (.ref l);repeat (any_goals (first|assumption|wp_step))
 generalize hled:(!w.params.followText "set-order")=led at hrun;refine codeAny_mono (aDI (.ref l) (E:=E) (Q₁:=λ obj s₁=>obj= .ref s.heap.objs.size/\s₁={s with heap:=s.heap.push (VL.bz #[] 0 (.fresh 0 0 led))}) ⟨rfl,by rw[hled]⟩) λ r s₁ hr=>?_
 cases r with
 |error e=>exact hr
 |ok fl=>
  cases fl with
  |ret obj=>
   obtain⟨rfl,rfl⟩:=hr;have hS:(s.heap.push (VL.bz #[] 0 (.fresh 0 0 led))).get? s.heap.objs.size=some (VL.bz #[] 0 (.fresh 0 0 led)):=Heap.get?_push_size _ rfl;have hT:Shared.TypeIs {s with heap:=s.heap.push (VL.bz #[] 0 (.fresh 0 0 led))} (.ref s.heap.objs.size) "set":=⟨_,hS,rfl⟩;have hli:=F.called_set.init.lookup;have hbi:=F.called_set.init.bind (.ref s.heap.objs.size)
   repeat (any_goals (first|assumption|wp_step))
   refine codeAny_mono (codeAny_call_builtin (R:=wants (λ r s₂=>r= .none/\∃h' tk,s₂={s with heap:=h',toks:=tk}/\Φ h'/\(∀b o,s.heap.get? b=some o->h'.get? b=some o)) E) F.called_set.init.plain F.entry_set_init (check_set_init_1 hT ?_)) λ r₂ s₂ hr₂=>?_
   ·obtain⟨ol,hol,hcl⟩:=hty
    obtain⟨ocls,odict,odata,oslots⟩:=ol;simp only at hcl;subst hcl;have hol':(s.heap.push (VL.bz #[] 0 (.fresh 0 0 led))).get? l=some {cls:=.type T,dict:=odict,data:=odata,slots:=oslots}:=Heap.get?_push_of_some _ hol;unfold Builtin.«set.__init__» noKeywords Builtin.Frozenset.updateFrom;generalize hPI:pyIter=PI;wp_walk;subst hPI;refine hit _ _ _ _ (λ b o e=>Heap.get?_push_of_some _ e) (wpAny_bind (wpAny_runValue (hrun _ λ h' tk g1 g2=>?_)));show wpAny _ _ _ _ _ _;refine wpAny_pure ?_;show wpAny _ _ (ret Value.none) _ _ _;exact wpAny_pure ⟨rfl,h',tk,rfl,g1,g2⟩
   ·cases r₂ with
    |error e=>exact hr₂
    |ok fl₂=>
     cases fl₂ with
     |ret r=>
      obtain⟨rfl,h',tk,rfl,g1,g2⟩:=hr₂
      repeat (any_goals (first|assumption|wp_step))
      exact h _ _ g1 g2
     |_=>exact hr₂.elim
  |_=>exact hr.elim
end
end PySem
namespace VL
open PySem PySem.Spec PyProof.Rows L2
theorem zU:∀{l:List α} {i:Nat} (h:i<l.length),(l[i]::l.eraseIdx i).Perm l
 |a::l,0,_=>List.Perm.refl _
 |a::l,i+1,h=>by
  have h':i<l.length:=by simpa using h
  have ih:=zU (l:=l) (i:=i) h'
  show(l[i]::a::l.eraseIdx i).Perm (a::l)
  exact(List.Perm.swap _ _ _).trans (ih.cons a)
theorem aB4(next:Nat->Nat):∀(f k:Nat) (left:List α) (out:Array α),left.length<=f->(pickOrder.go next f k left out).toList.Perm (out.toList++left)
 |0,k,left,out,h=>by
  have:left=[]:=List.length_eq_zero_iff.mp (by omega)
  subst this;rw[List.append_nil];exact List.Perm.refl _
 |f+1,k,left,out,h=>by
  unfold pickOrder.go;cases left with
  |nil=>simp
  |cons a l=>
   have hlt:next k%(a::l).length<(a::l).length:=Nat.mod_lt _ (by simp)
   rw[List.getElem?_eq_getElem hlt];dsimp only;refine(aB4 next f (k+1) _ _ (by rw[List.length_eraseIdx];simp only[hlt,if_true];simp at h ⊢;omega)).trans ?_;rw[Array.toList_push,List.append_assoc];exact List.Perm.append_left _ (zU hlt)
theorem aCI(next:Nat->Nat)(xs:Array α):(pickOrder next xs).toList.Perm xs.toList:=by
 have:=aB4 next xs.size 0 xs.toList #[] (by simp)
 unfold pickOrder;simpa using this
def nM(w:World)(d:Addr)(ep:Nat)(es:Array (Int×Value)):Array (Int×Value):=if w.params.followText "set-order" then pickOrder (w.params.setOrder d ep) es else es
theorem lu(w:World)(d:Addr)(ep:Nat)(es:Array (Int×Value)):(nM w d ep es).toList.Perm es.toList:=by
 unfold nM;split
 ·exact aCI _ _
 ·exact List.Perm.refl _
def slotAt(w:World)(t:SetTable):Nat->Nat
 |0=>0
 |i+1=>if w.params.followText "set-order" then 0 else t.place.getD i 0+1
theorem aBE(T:fK t n)(hf:w.params.followText "set-order"=false):∀i,i<=n->SetTable.below t.place (slotAt w t i)=i
 |0,_=>by
  obtain⟨b1,b2,b3⟩:=oX T.ris 0;show SetTable.below t.place 0=0;cases h:SetTable.below t.place 0 with
  |zero=>rfl
  |succ k=>
   rw[h]at b2
   have:=b2 0 (by omega)
   omega
 |i+1,hi=>by
  unfold slotAt;rw[hf];simp only[Bool.false_eq_true,if_false];obtain⟨b1,b2,b3⟩:=oX T.ris (t.place.getD i 0+1);have hs:=T.siz;rcases Nat.lt_trichotomy (SetTable.below t.place (t.place.getD i 0+1)) (i+1)with z|z|z
  ·have:=b3 i (by omega) (by omega)
   omega
  ·exact z
  ·have h1:=b2 (i+1) (by omega)
   have h2:=T.ris i (i+1) (by omega) (by omega);omega
section
variable{prog:Program}{w:World}{A:Around}{E:Value->Shared->Prop}{s:Shared}{d I:Addr}{es:Array (Int×Value)}{ep:Nat}{t:SetTable}{i':Nat}
theorem rz(ho:s.heap.get? d=some (bz es ep t))(T:fK t es.size)(hled:t.led= !w.params.followText "set-order")(hi:i<=es.size)
  (h:Q (((nM w d ep es)[i]?).map λ e=>(e.2,slotAt w t (i+1))) s):wpAny (model prog w) A (setNext d (slotAt w t i) i ep) Q E s:=by
 unfold setNext;refine wpAny_bind (wpAny_setState_of ho rfl T.fits ?_);dsimp only;unfold setsByText;refine wpAny_bind (wpAny_bind (wpAny_askSetting (wpAny_pure ?_)));show wpAny _ _ (if w.params.followText "set-order"=true then _ else _) _ _ _;unfold nM at h;cases hf:w.params.followText "set-order" with
 |true=>
  rw[hf]at h;simp only[if_true]at h ⊢;simp only[bne_self_eq_false,Bool.false_eq_true,if_false];unfold setWalk;refine wpAny_bind (wpAny_bind (wpAny_setState_of ho rfl T.fits ?_));dsimp only;unfold setsByText;refine wpAny_bind (wpAny_bind (wpAny_askSetting (wpAny_pure ?_)));show wpAny _ _ (if w.params.followText "set-order"=true then _ else _) _ _ _;rw[hf];simp only[if_true];refine wpAny_bind (wpAny_askSetting (wpAny_pure (wpAny_pure ?_)));have e1:slotAt w t (i+1)=slotAt w t i:=by
   unfold slotAt;cases i with
   |zero=>simp[hf]
   |succ i=>simp[hf]
  rw[e1]at h;exact h
 |false=>
  rw[hf]at h hled;simp only[Bool.false_eq_true,if_false]at h ⊢;have hd:(!t.plain&&decide (es.size>1))=false:=by rw[T.pla];rfl
  show wpAny _ _ (if (!t.plain&&decide (es.size>1))=true then _ else _) _ _ _;rw[hd];simp only[Bool.false_eq_true,if_false];refine wpAny_bind ?_;show wpAny _ _ (if (!t.led&& !es.isEmpty)=true then _ else _) _ _ _;rw[hled];simp only[Bool.not_false,Bool.not_true,Bool.false_and,Bool.false_eq_true,if_false];refine wpAny_pure ?_;rw[aBE T hf i hi];have hslot:slotAt w t (i+1)=t.place.getD i 0+1:=by unfold slotAt;rw[hf];rfl
  rw[hslot]at h;by_cases hlt:i<es.size
  ·have h1:es[i]? =some es[i]:=Array.getElem?_eq_getElem hlt
   have hlt2:i<t.place.size:=by rw[T.siz];exact hlt
   have h2:t.place[i]? =some (t.place.getD i 0):=by
    rw[Array.getElem?_eq_getElem hlt2];simp[Array.getD,hlt2]
   rw[h1,h2];rw[h1]at h;exact wpAny_pure h
  ·have h1:es[i]? =none:=Array.getElem?_eq_none (by omega)
   rw[h1];rw[h1]at h;exact wpAny_pure h
theorem bU:PySem.Slot "set_iterator" "__next__" "set_iterator.__next__":=
 .of (owner:="set_iterator") (n:="__next__") (by rw[typeLookup_type,builtinLookup_eq_fast];kernel_rfl) (by decide+kernel) (by decide+kernel) (by decide+kernel) (.inl (by decide+kernel)) (by rw[isSubtype_type];kernel_rfl)
theorem jA:PySem.Slot "set_iterator" "__iter__" "set_iterator.__iter__":=
 .of (owner:="set_iterator") (n:="__iter__") (by rw[typeLookup_type,builtinLookup_eq_fast];kernel_rfl) (by decide+kernel) (by decide+kernel) (by decide+kernel) (.inl (by decide+kernel)) (by rw[isSubtype_type];kernel_rfl)
theorem iY:entryFor table "set_iterator.__next__"=some Builtin.«set_iterator.__next__»:=entryFor_of_fast (by kernel_rfl)
theorem nP:entryFor table "set_iterator.__iter__"=some Builtin.«dict_keyiterator.__iter__»:=entryFor_alias (id':="dict_keyiterator.__iter__") (by kernel_rfl) rfl (by decide+kernel) (by kernel_rfl)
theorem qu:entryFor table "set.__iter__"=some Builtin.«frozenset.__iter__»:=entryFor_alias (id':="frozenset.__iter__") (by kernel_rfl) rfl (by decide+kernel) (by kernel_rfl)
theorem jK(a:Value):argsOk "set_iterator.__next__" ⟨[a],[]⟩:=by unfold argsOk;kernel_rfl
theorem oY(a:Value):argsOk "set_iterator.__iter__" ⟨[a],[]⟩:=by unfold argsOk;kernel_rfl
end
section
variable{prog:Program}{w:World}{A:Around}{E:Value->Shared->Prop}{s:Shared}{d I:Addr}{es:Array (Int×Value)}{ep:Nat}{t:SetTable}{i':Nat}
abbrev aER(d:Addr)(sl i n ep:Nat):Obj:={cls:=.type "set_iterator",data:=.fields #[.int sl 0,.int i 0,.ref d,.int n 0,.int ep 0]}
def aGr(h:Heap)(I d:Addr)(sl i n ep:Nat):Prop:=h.get? I=some (aER d sl i n ep)
theorem aEP{h:Heap}{sl i n ep k:Nat}(e:h.get? I=some {cls:=.type "set_iterator",data:=.fields vs}):(h.update I (Obj.mapFields (·.setIfInBounds k x))).get? I=some {cls:=.type "set_iterator",data:=.fields (vs.setIfInBounds k x)}:=by
 have:=Heap.get?_update_self (Obj.mapFields (·.setIfInBounds k x)) e (Obj.isFreed_of_fields (Obj.data_mapFields rfl _))
 rw[this];rfl
theorem aAF(hI:aGr s.heap I d (slotAt w t i') i' es.size ep)(ho:s.heap.get? d=some (bz es ep t))(T:fK t es.size)(hled:t.led= !w.params.followText "set-order"){v:Value}(hi:i'<es.size)(hv:((nM w d ep es)[i']?).map (·.2)=some v){Q:Option Value->Shared->Prop}
  (h:∀h',aGr h' I d (slotAt w t (i'+1)) (i'+1) es.size ep->Heap.SameBut I s.heap h'->Q (some v) {s with heap:=h'}):wpAny (model prog w) A (pyNext (.ref I)) Q E s:=by
 have hT:s.TypeIs (.ref I) "set_iterator":=⟨_,hI,rfl⟩;unfold pyNext;refine wpAny_bind (wpAny_attempt (wpAny_callSpecial?_slot (name:=Str.ofString "__next__") hT bU (wpAny_call_entry bU hT iY ?_ (jK _))));show wpAny _ _ (fieldsOf (.ref I)>>=_) _ _ s;refine wpAny_bind (wpAny_fieldsOf hI rfl ?_);dsimp only;refine wpAny_bind ?_;unfold setEntries;refine wpAny_bind (wpAny_setState_of ho rfl T.fits (wpAny_pure ?_));simp only[bne_self_eq_false,Bool.false_eq_true,if_false];refine wpAny_bind ?_;simp only[Int.toNat_natCast];refine rz ho T hled (Nat.le_of_lt hi) ?_;cases hq:(nM w d ep es)[i']? with
 |none=>rw[hq]at hv;cases hv
 |some e=>
  rw[hq]at hv;cases hv;dsimp only[Option.map_some];refine wpAny_bind (wpAny_setField hI rfl (by simp) ?_);have e1:=aEP (h:=s.heap) (I:=I) (k:=0) (x:=rawInt (slotAt w t (i'+1))) (sl:=0) (i:=0) (n:=0) (ep:=0) hI;refine wpAny_bind (wpAny_setField e1 rfl (by simp) ?_);have e2:=aEP (k:=1) (x:=rawInt (i'+1)) (sl:=0) (i:=0) (n:=0) (ep:=0) e1;exact wpAny_pure ⟨_,rfl,wpAny_pure (h _ e2 ((Heap.SameBut.update ..).trans (Heap.SameBut.update ..)))⟩
theorem aCB(hh:A.handled=none)(hI:aGr s.heap I d (slotAt w t es.size) es.size es.size ep)(ho:s.heap.get? d=some (bz es ep t))(T:fK t es.size)(hled:t.led= !w.params.followText "set-order")
  (h:∀h',Heap.ExtBut I s.heap h'->Q none {s with heap:=h'}):wpAny (model prog w) A (pyNext (.ref I)) Q E s:=by
 have hT:s.TypeIs (.ref I) "set_iterator":=⟨_,hI,rfl⟩;unfold pyNext;refine wpAny_bind (wpAny_attempt (wpAny_callSpecial?_slot (name:=Str.ofString "__next__") hT bU (wpAny_call_entry bU hT iY ?_ (jK _))));show wpAny _ _ (fieldsOf (.ref I)>>=_) _ _ s;refine wpAny_bind (wpAny_fieldsOf hI rfl ?_);dsimp only;refine wpAny_bind ?_;unfold setEntries;refine wpAny_bind (wpAny_setState_of ho rfl T.fits (wpAny_pure ?_));simp only[bne_self_eq_false,Bool.false_eq_true,if_false];refine wpAny_bind ?_;simp only[Int.toNat_natCast];refine rz ho T hled (Nat.le_refl _) ?_;have hq:(nM w d ep es)[es.size]? =none:=Array.getElem?_eq_none (by
  have:=(lu w d ep es).length_eq
  rw[Array.length_toList,Array.length_toList]at this;lia)
 rw[hq];dsimp only[Option.map_none];refine wpAny_bind (wpAny_setField hI rfl (by simp) ?_);show wpAny _ _ (newExc (.type "StopIteration") []>>=_) _ _ _;refine wpAny_bind ?_;simp only[newExc,newTuple];refine wpAny_bind (wpAny_newObj_type (wpAny_bind (m:=firstArgMember _ _) (wpAny_of_eq (a:=Value.none) (by first|rfl|(simp only[firstArgMember];rfl)) (wpAny_newObj_type ?_ (by size_fits)))) (by size_fits));simp only[raiseNew];refine wpAny_bind (wpAny_handled ?_);rw[show A.in1.handled=none from hh];refine wpAny_bind (wpAny_pure (wpAny_throw ?_));refine wpAny_bind (wpAny_isInstance (T:="StopIteration") (b:=true) ⟨_,Heap.get?_push_size _ rfl,rfl⟩ isSubtype_stop ?_);exact wpAny_pure (h _ (((Heap.SameBut.update ..).extBut.push _).push _))
theorem aBv(hh:A.handled=none)(I d:Addr)(hne:d≠I)(es:Array (Int×Value))(ep:Nat)(t:SetTable)(T:fK t es.size)(hled:t.led= !w.params.followText "set-order"):
  Walks prog w A I [I,d] [I] es.size (λ i v=>((nM w d ep es)[i]?).map (·.2)=some v) (λ i h=>aGr h I d (slotAt w t i) i es.size ep/\h.get? d=some (bz es ep t)) where
 sub:=λ b hb=>by simp at hb;simp[hb]
 frame:=λ _ _ _ st hk=>⟨hk I (by simp) _ st.1,hk d (by simp) _ st.2⟩
 item:=λ i s Q E hi st hQ=>by
  have hl:i<(nM w d ep es).size:=by
   have:=(lu w d ep es).length_eq
   rw[Array.length_toList,Array.length_toList]at this;lia
  have hv:((nM w d ep es)[i]?).map (·.2)=some (nM w d ep es)[i].2:=by rw[Array.getElem?_eq_getElem hl];rfl
  refine aAF st.1 st.2 T hled hi hv λ h' hI' hs'=>?_
  exact hQ _ h' s.toks hv ⟨hI',by rw[hs'.2 d hne];exact st.2⟩ λ b o hb e=>hs'.extBut b o (λ h=>hb (by simp[h])) e
 done:=λ s Q E st hQ=>aCB hh st.1 st.2 T hled λ h' he'=>hQ h' s.toks λ b o hb e=>he' b o (λ h=>hb (by simp[h])) e
 self:=λ i s Q E st hQ=>by
  have hT:s.TypeIs (.ref I) "set_iterator":=⟨_,st.1,rfl⟩;refine wpAny_pyIter_slot hT jA (wpAny_call_entry jA hT nP ?_ (oY _));show wpAny _ _ (ret (.ref I)) _ _ s;exact wpAny_pure ⟨_,rfl,"set_iterator",_,hT,bU.lookup,hQ⟩
theorem aAV(ho:s.heap.get? d=some (bz es ep t))(T:fK t es.size)(h:Q (.ref s.heap.objs.size) {s with heap:=s.heap.push (aER d 0 0 es.size ep)}):wpAny (model prog w) A (pyIter (.ref d)) Q E s:=by
 have hT:s.TypeIs (.ref d) "set":=⟨_,ho,rfl⟩;refine wpAny_pyIter_slot hT PySem.F.slot_set_iter (wpAny_call_entry PySem.F.slot_set_iter hT qu ?_ (PySem.F.args_set_iter_1 _));unfold Builtin.«frozenset.__iter__» Builtin.Frozenset.slot0 slotArgs;simp only[List.isEmpty_nil,Bool.not_true,Bool.false_eq_true,↓reduceIte,bind_assoc,List.length_nil,bne_self_eq_false];unfold Builtin.Frozenset.addrOf Builtin.Frozenset.sizeOf;refine wpAny_bind (wpAny_pure (wpAny_bind (wpAny_pure (wpAny_bind (wpAny_bind (wpAny_setEntries_of ho rfl T.fits (wpAny_pure ?_)))))));unfold setDrawn;refine wpAny_bind (wpAny_bind (wpAny_setState_of ho rfl T.fits ?_));dsimp only;unfold setsByText;refine wpAny_bind (wpAny_bind (wpAny_askSetting (wpAny_pure (wpAny_pure ?_))));have hd:(!w.params.followText "set-order"&&(!t.plain&&decide (es.size>1)))=false:=by rw[T.pla];simp
 show wpAny _ _ (if (!w.params.followText "set-order"&&(!t.plain&&decide (es.size>1)))=true then _ else _) _ _ _;rw[hd];simp only[Bool.false_eq_true,if_false];refine wpAny_bind (wpAny_pure (wpAny_bind (wpAny_setEpoch_of ho rfl T.fits ?_)));simp only[newFields];refine wpAny_bind (wpAny_newObj_type (wpAny_pure ⟨_,rfl,"set_iterator",_,⟨_,Heap.get?_push_size _ rfl,rfl⟩,bU.lookup,?_⟩));exact h
theorem aEZ(hT:s.TypeIs (.ref r) "set")(h:Q false s):wpAny (model prog w) A (Builtin.List.listLengthHint (.ref r)) Q E s:=by
 unfold Builtin.List.listLengthHint;refine wpAny_bind (wpAny_specialOf hT PySem.F.slot_set_len.lookup ?_);generalize hid:("set.__len__":String)=id0;wp_delta;rw[show splitId id0=some ("set","__len__")from by subst hid;decide+kernel];subst hid;refine wpAny_bind (wpAny_isInstance (T:="set") (b:=true) hT (by rw[isSubtype_type];kernel_rfl) ?_);refine wpAny_ite_split (λ hab=>absurd hab (by decide)) λ _=>wpAny_ite_split (λ _=>?_) λ hab=>absurd (by decide+kernel) hab
 exact wpAny_bind (wpAny_typeOf hT (wpAny_pure h))
theorem aFJ(T:fK t es.size)(hled:t.led= !w.params.followText "set-order"):PySem.W.KdlSrc prog w "set" d d es.size (λ i v=>((nM w d ep es)[i]?).map (·.2)=some v) (λ h=>h.get? d=some (bz es ep t)) where
 type:=λ _ hm=>⟨_,hm,rfl⟩
 there:=λ _ hm=>⟨Heap.lt_size hm,Heap.lt_size hm⟩
 keep:=λ _ _ hm hk=>hk d (.inl rfl) _ hm
 notList:=by decide
 notTuple:=by decide
 hint:=λ _ _ _ _ hm hq=>aEZ ⟨_,hm,rfl⟩ hq
 iter:=λ A s hh hm=>⟨aER d 0 0 es.size ep,_,(λ _ _ hq=>aAV hm T hq),aBv hh _ d (Nat.ne_of_lt (Heap.lt_size hm)) es ep t T hled,⟨Heap.get?_push_size _ rfl,Heap.get?_push_of_some _ hm⟩⟩
end
section
variable{prog:Program}{w:World}{A:Around}{E:Value->Shared->Prop}{s:Shared}{T:String}{r d:Addr}{n:Nat}{P:Nat->Value->Prop}{OK:Heap->Prop}
theorem za(K:PySem.W.KdlSrc prog w T r d n P OK)(hh:A.handled=none)(hok:OK s.heap)(hn:n<=sizeLine)
  (h:∀h' tk vs,s.heap.objs.size<h'.objs.size->(∀b o,s.heap.get? b=some o->h'.get? b=some o)->vs.length=n->(∀(j:Nat) v,vs[j]? =some v->P j v)->Q vs {s with heap:=h',toks:=tk}):wpAny (model prog w) A (collect (.ref r)) Q E s:=by
 have hlt:=K.there _ hok;unfold collect;refine wpAny_bind (wpAny_runValue (codeAny_builtin PySem.F.entry_proto_collect ?_));rw[Around.under_plainId PySem.F.plain_proto_collect _];show wpAny _ A.in1 (newList []>>=λ l=>again (.builtin "list.__iadd__" ⟨[l,.ref r],[]⟩)) _ _ s;refine wpAny_bind (wpAny_newObj_type (wpAny_pure ⟨plainId_quiet PySem.F.plain_list_iadd _,codeAny_builtin PySem.F.entry_list_iadd ?_⟩));rw[Around.under_plainId PySem.F.plain_list_iadd _];show wpAny _ A.in1 (Builtin.List.listExtendWith (.ref s.heap.objs.size) (.ref r) (.ref s.heap.objs.size)) _ _ _;have fin:∀h' tk acc' c',(∀b o,b≠s.heap.objs.size->(s.heap.push (seqObj "list" #[] 0)).get? b=some o->h'.get? b=some o)->h'.get? s.heap.objs.size=some {cls:=.type "list",dict:=none,data:=.seq acc' c',slots:=#[]}->ItemsOf P acc' n->
   wpAny (model prog w) A (do match (Value.ref s.heap.objs.size)with
    | .ref a=>match (<-load a).data with
     | .seq xs _=>pure xs.toList
     |_=>unsupported "internal:collect"
    |_=>unsupported "internal:collect") Q E {s with heap:=h',toks:=tk}:=λ h' tk acc' c' hk hS' hacc=>
  wpAny_bind (wpAny_load hS' (wpAny_pure (h h' tk acc'.toList (Heap.lt_size hS') (λ b o e=>hk b o (Nat.ne_of_lt (Heap.lt_size e)) (Heap.get?_push_of_some _ e)) (by rw[Array.length_toList];exact hacc.1) λ j v e=>hacc.2 j v (by rw[<-Array.getElem?_toList];exact e))))
 refine wpAny_mono (PySem.W.kdl_extend (A:=A) (s:={s with heap:=s.heap.push (seqObj "list" #[] 0)}) (R:=λ r s'=>∃h' tk acc' c',r= .ok (.ret (.ref s.heap.objs.size))/\s'={s with heap:=h',toks:=tk}/\(∀b o,b≠s.heap.objs.size->(s.heap.push (seqObj "list" #[] 0)).get? b=some o->h'.get? b=some o)/\h'.get? s.heap.objs.size=some {cls:=.type "list",dict:=none,data:=.seq acc' c',slots:=#[]}/\ItemsOf P acc' n)
  K hh (K.keep _ _ hok λ b _ o e=>Heap.get?_push_of_some _ e) s.heap.objs.size (Nat.ne_of_gt hlt.1) (Nat.ne_of_gt hlt.2) (.ref s.heap.objs.size) 0 (Heap.get?_push_size _ rfl) (λ h' tk acc' c' hk hS' hacc=>⟨h',tk,acc',c',rfl,rfl,hk,hS',hacc⟩) hn) (λ f s' hf=>?_) λ e s' he=>?_
 ·cases f with
  |done f=>
   obtain⟨h',tk,acc',c',q1,q2,q3,q4,q5⟩:=hf;cases q1;subst q2;exact fin h' tk acc' c' q3 q4 q5
  |again c=>
   refine⟨hf.1,codeAny_mono hf.2 λ r s' hr=>?_⟩;obtain⟨h',tk,acc',c',q1,q2,q3,q4,q5⟩:=hr;subst q1 q2;exact fin h' tk acc' c' q3 q4 q5
 ·obtain⟨h',tk,acc',c',q1,_⟩:=he
  cases q1
end
def aGp(h:Heap)(p:Value×List Int):Prop:=∃x o xs k,p.1= .ref x/\h.get? x=some o/\o.cls= .type "tuple"/\o.data= .seq xs k/\IntsAre xs.toList p.2/\p.2≠[]
theorem cU.all:∀{vs:List Value} {nss:List (List Int)},cU h vs nss->∀p∈vs.zip nss,aGp h p
 |_,_,.nil,p,hp=>by simp at hp
 |_,_,.cons ho hc hd hi hne r,p,hp=>by
  rw[List.zip_cons_cons]at hp;rcases List.mem_cons.mp hp with e|hp
  ·subst e;exact⟨_,_,_,_,rfl,ho,hc,hd,hi,hne⟩
  ·exact r.all p hp
theorem aBK:∀{zs:List (Value×List Int)},(∀p∈zs,aGp h p)->cU h (zs.map (·.1)) (zs.map (·.2))
 |[],_=>.nil
 |p::zs,hz=>by
  obtain⟨x,o,xs,k,e1,e2,e3,e4,e5,e6⟩:=hz p List.mem_cons_self;rw[List.map_cons,List.map_cons,e1];exact .cons e2 e3 e4 e5 e6 (aBK λ q hq=>hz q (List.mem_cons_of_mem _ hq))
theorem jr(h:l.Perm m'):∀{m:List α},m'=m.map f->∃m2:List α,m2.Perm m/\l=m2.map f:=by
 induction h with
 |nil=>intro m e;exact⟨m,List.Perm.refl _,e⟩
 |cons x p ih=>
  intro m e;cases m with
  |nil=>cases e
  |cons a m=>
   rw[List.map_cons]at e;injection e with e1 e2
   obtain⟨m2,q1,q2⟩:=ih e2;exact⟨a::m2,q1.cons a,by rw[List.map_cons,q2,e1]⟩
 |swap x y l=>
  intro m e;cases m with
  |nil=>cases e
  |cons a m=>
   cases m with
   |nil=>rw[List.map_cons]at e;injection e with _ e2;cases e2
   |cons b m=>
    rw[List.map_cons,List.map_cons]at e;injection e with e1 e2
    injection e2 with e2 e3
    exact⟨b::a::m,List.Perm.swap _ _ _,by rw[List.map_cons,List.map_cons,e1,e2,e3]⟩
 |trans p q ih1 ih2=>
  intro m e;obtain⟨m2,a1,a2⟩:=ih2 e;obtain⟨m3,b1,b2⟩:=ih1 a2;exact⟨m3,b1.trans a1,b2⟩
def o5(l:List (List Int)):Prop:=l.Pairwise λ a b=>HT.lexLt b a=false
section
variable{prog:Program}{w:World}{A:Around}{E:Value->Shared->Prop}{s:Shared}
theorem yQ{Q:Value->Shared->Prop}(hz:∀p∈zs,aGp s.heap p)(h64:zs.length<64)
  (h:∀(zs':List (Value×List Int)) h' e,zs'.Perm zs->o5 (zs'.map (·.2))->(∀b o,s.heap.get? b=some o->h'.get? b=some o)->h'.get? s.heap.objs.size=some (seqObj "list" (zs'.map (·.1)).toArray e)->Q (.ref s.heap.objs.size) {s with heap:=h'}):
  wpAny (model prog w) A (newList (zs.map (·.1))>>=λ l=>holding [l] (call (.builtin "list.sort") [l])>>=λ _=>ret l) (λ fin s'=>∃r,fin= .done (.ret r)/\Q r s') E s:=by
 have hlen:(zs.map (·.1)).length=zs.length:=List.length_map _;refine wpAny_bind (wpAny_newList ?_ (by rw[sizeLine_eq];omega));have hoL:(s.heap.push (seqObj "list" (zs.map (·.1)).toArray 0)).get? s.heap.objs.size=some (seqObj "list" (zs.map (·.1)).toArray 0):=Heap.get?_push_size _ rfl;refine wpAny_bind (wpAny_holding (wpAny_call_entry slot_list_sort ⟨_,hoL,rfl⟩ entry_list_sort ?_ (args_list_sort _)));refine aAe (s:={s with heap:=s.heap.push (seqObj "list" (zs.map (·.1)).toArray 0)}) hoL (aBK λ p hp=>?_) (by omega) λ p a1 a2=>⟨_,rfl,?_⟩
 ·obtain⟨x,o,xs,k,e1,e2,e3⟩:=hz p hp
  exact⟨x,o,xs,k,e1,Heap.get?_push_of_some _ e2,e3⟩
 rw[hlen]at a1 a2;have hmap:p.toList.map (λ i=>(zs.map (·.1)).getD i Value.none)=(p.toList.map λ i=>zs.getD i (Value.none,[])).map (·.1):=by
  rw[List.map_map];refine List.map_congr_left λ i hi=>?_
  show(zs.map (·.1)).getD i Value.none=(zs.getD i (Value.none,[])).1
  rw[List.getD_eq_getElem?_getD,List.getD_eq_getElem?_getD,List.getElem?_map];cases zs[i]?<;>rfl
 have hperm:(p.toList.map λ i=>zs.getD i (Value.none,[])).Perm zs:=by
  have h1:p.toList.Perm (List.range zs.length):=by
   have:=Array.perm_iff_toList_perm.mp a1
   simpa using this
  refine(h1.map _).trans ?_
  have:(List.range zs.length).map (λ i=>zs.getD i (Value.none,[]))=zs:=by
   refine List.ext_getElem (by simp) λ i h1 h2=>?_
   rw[List.getElem_map,List.getElem_range,List.getD_eq_getElem?_getD,List.getElem?_eq_getElem h2];rfl
  rw[this]
 have hne:∀b o,s.heap.get? b=some o->b≠s.heap.objs.size:=λ b o e=>Nat.ne_of_lt (Heap.lt_size e)
 obtain⟨e1,he1⟩:∃e1,((s.heap.push (seqObj "list" (zs.map (·.1)).toArray 0)).update s.heap.objs.size (Obj.mapSeq λ _=>(#[]:Array Value))).get? s.heap.objs.size=some (seqObj "list" #[] e1):=⟨_,get?_update_seq hoL λ _=>#[]⟩
 have g1:=Heap.get?_push_of_some (seqObj "list" #[] 0) (Heap.get?_push_of_some (seqObj "tuple" (zs.map (·.1)).toArray 0) he1);have g2:=get?_update_seq g1 (λ _=>mL (zs.map (·.1)) p);generalize (if ((mL (zs.map (·.1)) p).size==(#[]:Array Value).size)=true then e1 else e1+1)=c1 at g2;have hend:(sortedHeap (s.heap.push (seqObj "list" (zs.map (·.1)).toArray 0)) s.heap.objs.size (zs.map (·.1)) (mL (zs.map (·.1)) p)).get? s.heap.objs.size=some (seqObj "list" (mL (zs.map (·.1)) p) c1):=g2;have hout:mL (zs.map (·.1)) p=((p.toList.map λ i=>zs.getD i (Value.none,[])).map (·.1)).toArray:=by unfold mL;rw[hmap]
 have hris:o5 ((p.toList.map λ i=>zs.getD i (Value.none,[])).map (·.2)):=by
  unfold o5;rw[List.map_map];refine List.pairwise_iff_getElem.mpr λ i j hi hj hij=>?_
  rw[List.length_map,Array.length_toList,a1.sz]at hi hj;have hk:∀k (hk:k<zs.length),Kp (O:=aAf) (λ i=>(zs.map (·.2)).getD i []) p k=(zs.getD (p.getD k 0) (Value.none,[])).2:=λ k hk=>by
   show(zs.map (·.2)).getD (p.getD k 0) []=_
   rw[List.getD_eq_getElem?_getD,List.getD_eq_getElem?_getD,List.getElem?_map];cases zs[p.getD k 0]?<;>rfl
  have hg:∀k (hk:k<p.toList.length),p.toList[k]=p.getD k 0:=λ k hk=>by
   have:k<p.size:=by simpa using hk
   simp[Array.getD,this]
  have this:HT.lexLt (Kp (O:=aAf) (λ i=>(zs.map (·.2)).getD i []) p j) (Kp (O:=aAf) (λ i=>(zs.map (·.2)).getD i []) p i)=false:=a2 i j (Nat.le_of_lt hij) hj;rw[hk i hi,hk j hj]at this;rw[List.getElem_map,List.getElem_map,hg,hg];exact this
 have hkeep:∀b o,s.heap.get? b=some o->(sortedHeap (s.heap.push (seqObj "list" (zs.map (·.1)).toArray 0)) s.heap.objs.size (zs.map (·.1)) (mL (zs.map (·.1)) p)).get? b=some o:=λ b o e=>by
  unfold sortedHeap;rw[Heap.get?_update_ne _ _ _ _ (hne b o e)];refine Heap.get?_push_of_some _ (Heap.get?_push_of_some _ ?_);rw[Heap.get?_update_ne _ _ _ _ (hne b o e)];exact Heap.get?_push_of_some _ e
 rw[hout]at hend hkeep;have hq:=h (p.toList.map λ i=>zs.getD i (Value.none,[])) _ c1 hperm hris hkeep hend;rw[<-hout]at hq;exact wpAny_pure ⟨_,rfl,hq⟩
theorem jk(h:wpAny (model prog w) A.in1 (collect v) (λ vs s'=>wpAny (model prog w) A.in1 (newList vs>>=λ l=>holding [l] (call (.builtin "list.sort") [l])>>=λ _=>ret l) (λ fin s'=>∃r,fin= .done (.ret r)/\Q r s') E s') E s):
  wpAny (model prog w) A (call (.builtin "sorted") [v]) Q E s:=by
 refine Calls.call_function_entry kind_sorted plain_sorted entry_sorted (args_sorted1 _) ?_;unfold Builtin.«sorted»;refine wpAny_bind (m:=checkCount "sorted" 1 1 _) (wpAny_pure (wpAny_bind ?_));exact h
end
inductive fU(K:PySem.W.Frag)(H:Hp):List V->List (List Int)->Prop where
 |nil:fU K H [] []
 |cons {a:Addr} {ns:List Int} {vs:List V} {nss:List (List Int)} (h:SqT K H a (ns.map V.int)) (hne:ns≠[]) (r:fU K H vs nss):fU K H (.ref a::vs) (ns::nss)
def oF:V->Value
 | .ref a=>.ref a
 |_=>.none
theorem fU.vals{K:PySem.W.Frag}:∀{vs:List V} {nss:List (List Int)} {us:List Value},fU K H vs nss->Vals vs us->us=vs.map oF:=by
 intro vs nss us t v;induction v generalizing nss with
 |nil=>rfl
 |cons q s ih=>
  cases t with
  |cons _ _ r=>
   cases q;rw[List.map_cons,ih r];rfl
theorem fU.len{K:PySem.W.Frag}:∀{vs:List V} {nss:List (List Int)},fU K H vs nss->vs.length=nss.length
 |_,_,.nil=>rfl
 |_,_,.cons _ _ r=>by rw[List.length_cons,List.length_cons,r.len]
theorem fU.refs{K:PySem.W.Frag}:∀{vs:List V} {nss:List (List Int)},fU K H vs nss->∀v∈vs,RelV v (oF v)
 |_,_,.nil,v,hv=>by simp at hv
 |_,_,.cons _ _ r,v,hv=>by
  rcases List.mem_cons.mp hv with e|hv
  ·subst e;exact rfl
  ·exact r.refs v hv
theorem fU.at(I:Inv X pins σ H s):∀{vs:List V} {nss:List (List Int)},fU X.K H vs nss->cU s.heap (vs.map oF) nss
 |_,_,.nil=>.nil
 |_,_,.cons h hne r=>by
  obtain⟨its,rv,⟨o,ho,hc,n,hd⟩,_⟩:=I.tuple h;exact .cons ho hc hd (by simpa using intsAre_of rv) hne (r.at I)
theorem ux:∀{vs:List V},(∀v∈vs,RelV v (oF v))->Vals vs (vs.map oF)
 |[],_=>.nil
 |v::vs,h=>.cons (h v List.mem_cons_self) (ux λ u hu=>h u (List.mem_cons_of_mem _ hu))
section
variable{X:Cx}
def aBt(H:Hp)(vs:List V)(nss:List (List Int))(Q:VK):Prop:=∀zs:List (V×List Int),zs.Perm (vs.zip nss)->o5 (zs.map (·.2))->New H (.lst (zs.map (·.1))) Q
theorem rZ{pins:List (Addr×Obj)}(I:Inv X pins σ H s)(ht:fU X.K H vs nss)(h64:vs.length<64)(q:aBt H vs nss Q)
  (hs1:∃h1 tk,s1={s with heap:=h1,toks:=tk}/\s.heap.objs.size<=h1.objs.size/\∀b o,s.heap.get? b=some o->h1.get? b=some o){zs:List (Value×List Int)}(hz:zs.Perm ((vs.map oF).zip nss))(hus:us=zs.map (·.1)):
  wpAny (model X.prog X.w) X.A.in1 (newList us>>=λ l=>holding [l] (call (.builtin "list.sort") [l])>>=λ _=>ret l) (λ fin s'=>∃r,fin= .done (.ret r)/\EP X pins σ Q r s') X.xe s1:=by
 obtain⟨h1,tk,rfl,hsz,keep⟩:=hs1;subst hus;have hall:∀p∈zs,aGp h1 p:=λ p hp=>by
  obtain⟨x,o,xs,k,e1,e2,e3⟩:=(ht.at I).all p (hz.mem_iff.mp hp);exact⟨x,o,xs,k,e1,keep _ _ e2,e3⟩
 have hlen:zs.length<64:=by
  rw[hz.length_eq,List.length_zip,List.length_map,<-ht.len,Nat.min_self];exact h64
 refine yQ (s:={s with heap:=h1,toks:=tk}) hall hlen λ zs' h' e a1 a2 a3 a4=>?_
 have hmap:(vs.map oF).zip nss=(vs.zip nss).map λ p=>(oF p.1,p.2):=by rw[List.zip_map_left];rfl
 obtain⟨ws,w1,w2⟩:=jr (f:=λ p:V×List Int=>(oF p.1,p.2)) (a1.trans hz) hmap;have hfr:H h1.objs.size=none:=I.hok.fresh hsz;have hmem:∀v∈ws.map (·.1),RelV v (oF v):=λ v hv=>by
  obtain⟨p,hp,rfl⟩:=List.mem_map.mp hv;exact ht.refs p.1 (List.of_mem_zip (w1.mem_iff.mp hp)).1
 have hws:zs'.map (·.1)=(ws.map (·.1)).map oF:=by rw[w2,List.map_map,List.map_map];rfl
 have hwl:(ws.map (·.1)).length<=sizeLine:=by
  rw[List.length_map,w1.length_eq,List.length_zip,<-ht.len,Nat.min_self,sizeLine_eq];lia
 refine⟨.ref h1.objs.size,upd H h1.objs.size (.lst (ws.map (·.1))),I.laid (t':=tk) (λ b o e=>a3 b o (keep b o e)) hsz ⟨hwl,(ws.map (·.1)).map oF,e,ux hmem,?_⟩,rfl,(q ws w1 ?_).at hfr⟩
 ·rw[<-hws];exact a4
 ·have:ws.map (·.2)=zs'.map (·.2):=by rw[w2,List.map_map];rfl
  rw[this];exact a2
def aAT(K:PySem.W.Frag):List V->Hp->VK->Prop:=λ xs H Q=>∃p vs nss,xs=[.ref p]/\SqL K H p vs/\fU K H vs nss/\vs.length<64/\aBt H vs nss Q
theorem uv:bx X (.builtin "sorted") (aAT X.K):=by
 intro pins s σ H xs us Q I r h;obtain⟨p,vs,nss,rfl,hp,ht,h64,q⟩:=h;obtain⟨u,rfl,ru⟩:=vals1 r;cases ru;obtain⟨its,rv,pl,hz⟩:=I.list hp;have e:=ht.vals rv;subst e;have hl2:(vs.map oF).length=nss.length:=by rw[List.length_map];exact ht.len
 refine jk (collect_list pl.isList ?_ (by rw[List.length_map];exact hz));refine rZ I ht h64 q ⟨_,_,rfl,?_,λ b o e=>?_⟩ (List.Perm.refl _) ?_
 ·rw[Heap.size_update,size_push']
  exact Nat.le_succ _
 ·rw[Heap.get?_update_ne _ _ _ _ (Nat.ne_of_lt (Heap.lt_size e))]
  exact Heap.get?_push_of_some _ e
 ·exact(List.map_fst_zip (by lia)).symm
end
def aC5(a:List Int):List (List Int)->List (List Int)
 |[]=>[a]
 |b::l=>if HT.lexLt b a then b::aC5 a l else a::b::l
def qJ:List (List Int)->List (List Int)
 |[]=>[]
 |a::l=>aC5 a (qJ l)
theorem pX(a:List Int):∀l,(aC5 a l).Perm (a::l)
 |[]=>List.Perm.refl _
 |b::l=>by
  unfold aC5;split
  ·exact((pX a l).cons b).trans (List.Perm.swap _ _ _)
  ·exact List.Perm.refl _
theorem nA:∀l,(qJ l).Perm l
 |[]=>List.Perm.refl _
 |a::l=>(pX a _).trans ((nA l).cons a)
theorem aGD(h:HT.lexLt a b=true):HT.lexLt b a=false:=by
 cases e:HT.lexLt b a with
 |false=>rfl
 |true=>have:=oG a b a h e;rw[xP]at this;cases this
theorem aI5(h1:HT.lexLt b a=false)(h2:HT.lexLt c b=false):HT.lexLt c a=false:=by
 cases e:HT.lexLt c a with
 |false=>rfl
 |true=>
  rcases aEB c b a e with z|z
  ·rw[h2]at z;cases z
  ·rw[h1]at z;cases z
theorem uA(a:List Int):∀l,o5 l->o5 (aC5 a l)
 |[],_=>List.pairwise_cons.mpr ⟨λ _ h=>by simp at h,.nil⟩
 |b::l,h=>by
  obtain⟨h1,h2⟩:=List.pairwise_cons.mp h;unfold aC5;cases e:HT.lexLt b a with
  |true=>
   rw[if_pos rfl];refine List.pairwise_cons.mpr ⟨λ x hx=>?_,uA a l h2⟩;rcases List.mem_cons.mp ((pX a l).mem_iff.mp hx)with q|q
   ·subst q;exact aGD e
   ·exact h1 x q
  |false=>
   rw[if_neg (by simp)];refine List.pairwise_cons.mpr ⟨λ x hx=>?_,h⟩;rcases List.mem_cons.mp hx with q|q
   ·subst q;exact e
   ·exact aI5 e (h1 x q)
theorem lD:∀l,o5 (qJ l)
 |[]=>.nil
 |a::l=>uA a _ (lD l)
theorem vI:∀{a b:List (List Int)},a.Perm b->o5 a->o5 b->a=b
 |[],b,p,_,_=>p.nil_eq
 |x::a,b,p,h1,h2=>by
  cases b with
  |nil=>exact absurd p.length_eq (by simp)
  |cons y b=>
   have hxy:x=y:=by
    obtain⟨q1,_⟩:=List.pairwise_cons.mp h1;obtain⟨q2,_⟩:=List.pairwise_cons.mp h2;have m1:x∈y::b:=p.mem_iff.mp List.mem_cons_self;have m2:y∈x::a:=p.mem_iff.mpr List.mem_cons_self;rcases List.mem_cons.mp m1 with e|m1
    ·exact e
    ·rcases List.mem_cons.mp m2 with e|m2
     ·exact e.symm
     ·exact tR _ _ (q2 x m1) (q1 y m2)
   subst hxy;rw[vI (List.Perm.cons_inv p) (List.pairwise_cons.mp h1).2 (List.pairwise_cons.mp h2).2]
abbrev tupI(ns:List Int):D:=.tup (ns.map .int)
def jh:List D->Option (List (List Int))
 |[]=>some []
 | .tup l::r=>match intsOf l,jh r with
  |some (n::ns),some nss=>some ((n::ns)::nss)
  |_,_=>none
 |_=>none
theorem kj:∀{l:List D} {nss:List (List Int)},jh l=some nss->l=nss.map tupI/\∀ns∈nss,ns≠[]
 |[],nss,h=>by cases h;exact⟨rfl,λ ns h=>by simp at h⟩
 | .tup l::r,nss,h=>by
  unfold jh at h;split at h
  ·rename_i n ns nss' e1 e2
   cases h;obtain⟨q1,q2⟩:=kj e2;rw[gO e1,q1];refine⟨rfl,λ ms hm=>?_⟩;rcases List.mem_cons.mp hm with e|hm
   ·subst e;simp
   ·exact q2 ms hm
  ·cases h
 | .non::_,_,h=>by cases h
 | .int _::_,_,h=>by cases h
 | .bl _::_,_,h=>by cases h
 | .str _::_,_,h=>by cases h
 | .lst _::_,_,h=>by cases h
 | .dct _ _::_,_,h=>by cases h
 | .set _::_,_,h=>by cases h
 | .scr _::_,_,h=>by cases h
theorem rP:∀{nss:List (List Int)},(∀ns∈nss,ns≠[])->jh (nss.map tupI)=some nss
 |[],_=>rfl
 |[]::nss,h=>absurd rfl (h [] List.mem_cons_self)
 |(n::ns)::nss,h=>by
  have ih:=rP λ ms hm=>h ms (List.mem_cons_of_mem _ hm)
  rw[List.map_cons];unfold jh;rw[ih,show intsOf (List.map D.int (n::ns))=some (n::ns)from iT _]
theorem rO{K:PySem.W.Frag}:∀{xs:List V} {nss:List (List Int)},Rps K A H xs (nss.map tupI)->(∀ns∈nss,ns≠[])->fU K H xs nss
 |_,[],.nil,_=>.nil
 |_,ns::nss,.cons h r,hne=>by
  cases h with
  |tup h r'=>
   have e:=r'.ints_of;subst e;exact .cons h (hne ns List.mem_cons_self) (rO r λ ms hm=>hne ms (List.mem_cons_of_mem _ hm))
theorem aDO{K:PySem.W.Frag}:∀{zs:List (V×List Int)},(∀p∈zs,∃a,p.1= .ref a/\SqT K H a (p.2.map V.int))->Rps K A H (zs.map (·.1)) ((zs.map (·.2)).map tupI)
 |[],_=>.nil
 |p::zs,h=>by
  obtain⟨a,e1,e2⟩:=h p List.mem_cons_self;rw[List.map_cons,List.map_cons,List.map_cons,e1];exact .cons (.tup e2 .ints) (aDO λ q hq=>h q (List.mem_cons_of_mem _ hq))
theorem fU.all{K:PySem.W.Frag}:∀{vs:List V} {nss:List (List Int)},fU K H vs nss->∀p∈vs.zip nss,∃a,p.1= .ref a/\SqT K H a (p.2.map V.int)
 |_,_,.nil,p,hp=>by simp at hp
 |_,_,.cons h _ r,p,hp=>by
  rw[List.zip_cons_cons]at hp;rcases List.mem_cons.mp hp with e|hp
  ·subst e;exact⟨_,rfl,h⟩
  ·exact r.all p hp
theorem yS{K:PySem.W.Frag}(ht:fU K H vs nss)(q:∀v H',aU H H'->Rp K (λ p=>H p=none) H' v (.lst ((qJ nss).map tupI))->Q v H'):aBt H vs nss Q:=by
 intro zs hz hr p H' s hp hn;have e:zs.map (·.2)=qJ nss:=vI (((hz.map (·.2)).trans (by rw[List.map_snd_zip (by rw[ht.len];exact Nat.le_refl _)])).trans (nA nss).symm) hr (lD nss);refine q _ H' s (.lst hp hn ?_);rw[<-e];exact aDO λ p hp=>by
  obtain⟨a,e1,e2⟩:=ht.all p (hz.mem_iff.mp hp);exact⟨a,e1,s.sqt e2⟩
def insI(a:Int):List Int->List Int
 |[]=>[a]
 |b::l=>if b<a then b::insI a l else a::b::l
def sortI:List Int->List Int
 |[]=>[]
 |a::l=>insI a (sortI l)
theorem insI_perm(a:Int):∀l,(insI a l).Perm (a::l)
 |[]=>List.Perm.refl _
 |b::l=>by
  unfold insI;split
  ·exact((insI_perm a l).cons b).trans (List.Perm.swap _ _ _)
  ·exact List.Perm.refl _
theorem sortI_perm:∀l,(sortI l).Perm l
 |[]=>List.Perm.refl _
 |a::l=>(insI_perm a _).trans ((sortI_perm l).cons a)
theorem zT(a:Int):∀l:List Int,l.Pairwise (·<=·)->(insI a l).Pairwise (·<=·)
 |[],_=>List.pairwise_cons.mpr ⟨λ _ h=>by simp at h,.nil⟩
 |b::l,h=>by
  obtain⟨h1,h2⟩:=List.pairwise_cons.mp h;unfold insI;by_cases e:b<a
  ·rw[if_pos e]
   refine List.pairwise_cons.mpr ⟨λ x hx=>?_,zT a l h2⟩;rcases List.mem_cons.mp ((insI_perm a l).mem_iff.mp hx)with q|q
   ·lia
   ·exact h1 x q
  ·rw[if_neg e]
   refine List.pairwise_cons.mpr ⟨λ x hx=>?_,h⟩;rcases List.mem_cons.mp hx with q|q
   ·lia
   ·have:=h1 x q;lia
theorem gk:∀l,(sortI l).Pairwise (·<=·)
 |[]=>.nil
 |a::l=>zT a _ (gk l)
theorem dD:∀{us:List Value} {ns:List Int},IntsAre us ns->Vals (ns.map V.int) us
 |_,_,.nil=>.nil
 |_,_,.cons n t r=>.cons ⟨t,rfl⟩ (dD r)
section
variable{X:Cx}
def aAU(K:PySem.W.Frag):List V->Hp->VK->Prop:=λ xs H Q=>∃p ns,xs=[.ref p]/\SqL K H p (ns.map V.int)/\ns.length<64/\New H (.lst ((sortI ns).map V.int)) Q
theorem oV:bx X (.builtin "sorted") (aAU X.K):=by
 intro pins s σ H xs us Q I r h;obtain⟨p,ns,rfl,hp,h64,q⟩:=h;obtain⟨u,rfl,ru⟩:=vals1 r;cases ru;obtain⟨its,rv,pl,hz⟩:=I.list hp;have hI:IntsAre its ns:=intsAre_of rv;have hlen:its.length<64:=by
  have:=rv.length
  rw[List.length_map]at this;lia
 refine sorted_ints pl.isList hI hlen λ out ns' h1 h2 h3=>?_
 have e:ns'=sortI ns:=PySem.W.ksm_same (h2.trans (sortI_perm ns).symm) h3 (gk ns);subst e;obtain⟨e,he⟩:=sortedAll_at s.heap its out;have hfr:H (s.heap.objs.size+1)=none:=I.hok.fresh (Nat.le_succ _);refine⟨.ref (s.heap.objs.size+1),upd H (s.heap.objs.size+1) (.lst ((sortI ns).map V.int)),I.laid (t':=s.toks) (λ b o q=>sortedAll_old q) (Nat.le_succ _) ?_,rfl,q.at hfr⟩;refine⟨?_,out.toList,e,dD h1,?_⟩
 ·rw[List.length_map,h2.length_eq]
  exact Nat.le_trans (Nat.le_of_lt h64) (by decide)
 ·rw[Array.toArray_toList]
  exact he
theorem bx.or(h1:bx X f r1)(h2:bx X f r2):bx X f λ xs H Q=>r1 xs H Q\/r2 xs H Q:=λ pins s σ H xs us Q I r h=>h.elim (h1 pins s σ H xs us Q I r) (h2 pins s σ H xs us Q I r)
end
def aFA(K:PySem.W.Frag)(r:List V->Hp->VK->Prop)(fd:List D->Rs D):Prop:=∀(A:Addr->Prop) xs ds H (Q:VK) z,Rps K A H xs ds->fd ds= .ok z->(∀v H',aU H H'->Rp K (λ p=>H p=none) H' v z->Q v H')->r xs H Q
theorem aBU{K:PySem.W.Frag}(hs:aFA K r fd)(h1:aGn K G m ta g):jR K G (some []) (tCB r ta) (opA fd g):=by
 intro τ σ H ρ lab Q R W;refine h1 τ σ H ρ lab _ R (W.bd.imp λ d _ w x H1 s1 r1=>?_);obtain⟨z,ez,w⟩:=w.okD;exact hs (fpM m lab H) x d H1 Q z r1 ez λ v H' s r=>w v H' (s1.trans s) (r.wk λ p o _ q=>.inl (s1.free q))
def iH:List D->Rs D
 |[.lst l]=>match jh l with
  |some nss=>if nss.length<64 then .ok (.lst ((qJ nss).map tupI))else .st
  |none=>match intsOf l with
   |some ns=>if ns.length<64 then .ok (.lst ((sortI ns).map .int))else .st
   |none=>.st
 |_=>.st
theorem aCc{K:PySem.W.Frag}:aFA K (λ xs H Q=>aAT K xs H Q\/aAU K xs H Q) iH:=by
 intro A xs ds H Q z r ez q;unfold iH at ez;split at ez
 ·cases r with
  |cons h r=>
   cases r;cases h with
   |lst h m r=>
    split at ez
    ·rename_i nss e
     obtain⟨e1,e2⟩:=kj e;subst e1;split at ez
     ·rename_i hl
      cases ez;have ht:=rO r e2;exact .inl ⟨_,_,nss,rfl,SqL.of h,ht,by rw[ht.len];exact hl,yS ht q⟩
     ·cases ez
    ·split at ez
     ·rename_i ns e
      have e1:=gO e;subst e1;split at ez
      ·rename_i hl
       cases ez;have e2:=r.ints_of;subst e2;exact .inr ⟨_,ns,rfl,SqL.of h,hl,λ p H' s hp hn=>q _ H' s (.lst hp hn .ints)⟩
      ·cases ez
     ·cases ez
 ·cases ez
section
variable{C:Ct}{pos p p2 pos2:Pos}{m:Mode}{a:Expr}{ga:En->Rs (List D)}
theorem lZ(hm:C.mg "sorted"=none)(ha:SA C m [a] ga)(he:∀i,starEach [a] (C.X i).env=[(false,eval a (C.X i).env)]:=by intro _;rfl)(hg:∀i,Gl (C.X i) "sorted":=by intro _;rfl)(hv:bootBuiltins "sorted"=some (.builtin "sorted"):=by decide+kernel):SE C (some []) (.Call (.Name "sorted" p) [a] [] pos) (opA iH ga):=by
 obtain⟨t,h1,h2⟩:=ha;refine⟨_,λ i=>jX (r:=λ xs H Q=>aAT C.K xs H Q\/aAU C.K xs H Q) (by rw[<-C.hK i];exact uv.or oV) (hg i) (by rw[(C.cx i).2.2.2.1];exact hm) hv (h1 i) (by decide) (by decide) (he i) rfl,aBU aCc h2⟩
end
def ddI(ns:List Int):List Int:=ns.foldl step_dedup []
theorem aEg(ns:List Int)(n:Int):ddI (ns++[n])=step_dedup (ddI ns) n:=by unfold ddI;rw[List.foldl_append];rfl
theorem aGf(hl:l.Nodup)(n:Int):(step_dedup l n).Nodup/\∀x,x∈step_dedup l n↔x∈l\/x=n:=by
 unfold step_dedup;by_cases h:l.any (·==n)=true
 ·rw[if_pos h]
  have:n∈l:=by simpa using h
  exact⟨hl,λ x=>⟨.inl,λ q=>q.elim id λ e=>e▸this⟩⟩
 ·rw[if_neg h]
  have:n∉l:=by simpa using h
  refine⟨List.nodup_append.mpr ⟨hl,by simp,λ x hx y hy e=>?_⟩,λ x=>by simp⟩;rw[List.mem_singleton]at hy;subst hy;subst e;exact this hx
theorem aEf:∀(ns acc:List Int),acc.Nodup->(ns.foldl step_dedup acc).Nodup/\∀x,x∈ns.foldl step_dedup acc↔x∈acc\/x∈ns
 |[],acc,h=>⟨h,λ x=>by simp⟩
 |n::ns,acc,h=>by
  obtain⟨h1,h2⟩:=aGf h n;obtain⟨h3,h4⟩:=aEf ns _ h1;refine⟨h3,λ x=>?_⟩;rw[List.foldl_cons,h4,h2,List.mem_cons];constructor
  ·rintro((a|a)|a)
   ·exact .inl a
   ·exact .inr (.inl a)
   ·exact .inr (.inr a)
  ·rintro(a|a|a)
   ·exact .inl (.inl a)
   ·exact .inl (.inr a)
   ·exact .inr a
theorem v8(ns:List Int):(ddI ns).Nodup:=(aEf ns [] (by simp)).1
theorem aB8(ns:List Int)(x:Int):x∈ddI ns↔x∈ns:=by
 have:=(aEf ns [] (by simp)).2 x
 unfold ddI;simpa using this
theorem aEh(ns:List Int):(ddI ns).length<=ns.length:=sub_len (v8 ns) λ x hx=>(aB8 ns x).mp hx
section
variable{X:Cx}
end
section
variable{C:Ct}{pos p:Pos}{m:Mode}{a:Expr}{ga:En->Rs (List D)}
end
section
variable{K:PySem.W.Frag}{G:Gx}{wi:TI}{fi:En->Rs (List D)}{g:TG}{fg:D->En->Rs En}{tt:TT}
theorem aHb(hi:aJB K G wi fi)(hg:aJC K {G with E:=λ _ _ _=>False} g fg)(hfg:∀d,∃ρ1,fg d [.no]= .ok ρ1)(ht:aCk K {G with E:=λ _ _ _=>False} tt je)(R:RR K G τ ρ σ H lab)
  (W:WR G (fi (shE ρ)) (λ ds=>ds.length<sizeLine/\∀(l:Addr) (as:List Addr) H',aU H H'->H l=none->H' l=some (.lst (as.map V.ref))->(l::as).Nodup->as.length=ds.length->(∀a∈as,H a=none/\H' a=some (.lst []))->Q (.ref l) H')):
  tLC wi (stV [none]) g tt (aCt lA) σ H Q:=by
 refine hi τ σ H _ _ _ R.shE (W.imp λ ds _ w J H1 lab1 τ1 s1 _ R1 jl=>?_);obtain⟨hlen,w⟩:=w;intro l hl;have hHl:H l=none:=s1.free hl;have nl:∀p o,H1 p=some o->p≠l:=λ p o e z=>by subst z;rw[hl]at e;cases e
 have RB:RR K {G with E:=λ _ _ _=>False} (τ1++τ) [.no] (stV [none] σ) H1 (λ p=>if p=l then(2,0)else(0,0)):=by
  refine⟨rfl,λ i s e=>?_,R1.old,λ p hp=>?_,λ q hq=>(R1.tm q hq).wk λ p o e _=>by rw[if_neg (nl p o e)];exact Nat.zero_le _⟩
  ·match i,e with
   |0,e=>cases e;exact .inl rfl
   |i+1,e=>simp at e
  ·by_cases z:p=l
   ·subst z;exact R1.old.free hl
   ·exact absurd (show(if p=l then((2,0):Nat×Nat)else(0,0)).1=0 by rw[if_neg z]) hp
 have labl:¬((λ p=>if p=l then((2,0):Nat×Nat)else(0,0)) l).1<=1:=by simp
 refine⟨λ i n acc H2=>∃as:List Addr,n=ds.length-i/\i<=ds.length/\acc=as.map V.ref/\H2 l=some (.lst acc)/\RR K {G with E:=λ _ _ _=>False} (τ1++τ) [.no] (stV [none] σ) H2 (λ p=>if p=l then(2,0)else(0,0))/\aU H H2/\as.length=i/\(l::as).Nodup/\∀a∈as,H a=none/\H2 a=some (.lst []),
  ⟨ds.length,[],by omega,by omega,rfl,ao,RB.up (bO hl _),s1.trans (bO hl _),rfl,by simp,λ a h=>by simp at h⟩,?_⟩
 rintro i n acc H2 ⟨as,rfl,hi',rfl,hH2,R2,s2,hlen2,hnd,hal⟩;refine⟨hH2,by rw[List.length_map];omega,?_⟩;have jj:=jl _ H2 λ q hq=>R2.tm q (List.mem_append_left _ hq)
 by_cases hlt:i<ds.length
 ·obtain⟨go,yl⟩:=(jj i).2 hlt
  refine .inr ⟨go,λ x H3 hy=>?_⟩;obtain⟨s3,d,ed,rx⟩:=yl x H3 hy;replace R2:=R2.up s3;replace hH2:=s3 _ _ hH2;replace s2:=s2.trans s3;replace hal:=λ a ha=>(⟨(hal a ha).1,s3 _ _ (hal a ha).2⟩:H a=none/\H3 a=some (.lst []))
  obtain⟨ρ1,e1⟩:=hfg d;refine hg (τ1++τ) x d _ H3 _ _ _ ρ1 R2 rx e1 λ σ4 R4=>?_
  refine ht (τ1++τ) σ4 H3 ρ1 _ _ R4 λ H5 s5=>?_
  rw[if_pos rfl];refine⟨Nat.zero_le _,λ p H6 s6 hp hn=>?_⟩;have hl6:H6 l=some (.lst (as.map V.ref)):=s6 _ _ (s5 _ _ hH2);have hpl:p≠l:=λ z=>by subst z;rw[s5 _ _ hH2]at hn;cases hn
  have hpa:p∉as:=λ z=>by
   have:=s5 _ _ (hal p z).2
   rw[hn]at this;cases this
  have hpH:H p=none:=(s2.trans s5).free hn;have B:kJ l H6 (upd H6 l (.lst (as.map V.ref++[.ref p]))):=λ b o ne hb=>by rw[aa ne];exact hb
  refine⟨hl6,ds.length-(i+1),by omega,as++[p],rfl,hlt,by rw[List.map_append];rfl,ao,?_,?_,by rw[List.length_append];simp;omega,?_,λ a ha=>?_⟩
  ·have R6:=R2.up (s5.trans s6)
   refine⟨R6.len,λ j s e=>?_,λ b o hb=>?_,R6.new,λ q hq=>(R6.tm q hq).but B hl6 rfl labl⟩
   ·match j,e with
    |0,e=>cases e;exact .inl rfl
    |j+1,e=>simp at e
   ·exact B b o (λ z=>by subst z;rw[R1.old.free hl]at hb;cases hb) (R6.old b o hb)
  ·exact λ b o hb=>B b o (λ z=>by subst z;rw[hHl]at hb;cases hb) (((s2.trans s5).trans s6) b o hb)
  ·obtain⟨n1,n2⟩:=List.nodup_cons.mp hnd
   refine List.nodup_cons.mpr ⟨λ z=>?_,List.nodup_append.mpr ⟨n2,by simp,λ x hx y hy e=>?_⟩⟩
   ·rcases List.mem_append.mp z with z|z
    ·exact n1 z
    ·exact hpl (List.mem_singleton.mp z).symm
   ·rw[List.mem_singleton]at hy
    subst hy;subst e;exact hpa hx
  ·rcases List.mem_append.mp ha with z|z
   ·refine⟨(hal a z).1,?_⟩
    rw[aa λ q=>by subst q;exact(List.nodup_cons.mp hnd).1 z];exact s6 _ _ (s5 _ _ (hal a z).2)
   ·rw[List.mem_singleton]at z
    subst z;exact⟨hpH,by rw[aa hpl];exact hp⟩
 ·have ei:i=ds.length:=by omega
  exact .inl ⟨by rw[ei];exact(jj _).1 (Nat.le_refl _),w l as H2 s2 hHl hH2 hnd (by omega) hal⟩
end
section
variable{C:Ct}{pos lpos:Pos}{tg iter:Expr}{sc:Scope}{N:List Str}{js:List (Option Nat)}{ks:List Nat}{fi:En->Rs (List D)}{fg:D->En->Rs En}
def llS(i:Nat)(fi:En->Rs (List D))(js:List (Option Nat))(fg:D->En->Rs En):En->Ou:=λ ρ=>(fi (shE ρ)).bo λ ds=>if ds.length<sizeLine then .nx (ρ.set i (.o2 (List.replicate ds.length [])))else .st
theorem aJU(hi:SI C tg iter fi)(hg:SG (C.blk sc N) tg ks fg)(hj:js=[none]:=by rfl)(hfg:∀d,∃ρ1,fg d [.no]= .ok ρ1:=by intro _;exact⟨_,rfl⟩)(hN:∀j,(C.X j).N[i]? =some x:=by intro _;rfl)(hx:∀j,Loc (C.X j).env.scope x:=by intro _;first|exact Or.inl rfl|exact Or.inr rfl)(hsw:∀j,swapsWith (.ListComp (.List [] lpos) [⟨tg,iter,[],0⟩] sc pos) (some (.Name x pos')) spos.line (C.X j).env=pure true:=by intro _;rfl)(hs:∀i x,foldedSetIterable iter (C.X i).env x=pure x:=by intro _ _;rfl)(hf:∀j,(C.X j).fn x=true\/(C.X j).env.scope.names.lookup x=some .local:=by intro _;first|exact .inl rfl|exact .inr rfl)(nd:∀j,(C.X j).N.Nodup:=by intro _;assumption)(hB:∀i,gU (C.X i) sc N (stV js) ks:=by intro _;exact aBD rfl rfl rfl rfl rfl rfl):
  SS C (.Assign [.Name x pos'] (.ListComp (.List [] lpos) [⟨tg,iter,[],0⟩] sc pos) spos) (llS i fi js fg):=by
 subst hj;obtain⟨wi,i1,i2⟩:=hi;obtain⟨g,g1,g2,g3,g4⟩:=hg;obtain⟨tt,t1,t2⟩:=ou (C:=C.blk sc N);refine⟨_,λ j=>yj (nd j) (hN j) (hx j) (hB j) (C.calm j) (i1 j) (λ c fp s₀ H₀=>g1 (j,c,fp,s₀,H₀)) g3 (λ c fp s₀ H₀=>t1 (j,c,fp,s₀,H₀)) (λ c fp s₀ H₀=>jt cF) (hsw j) (hs j) (hf j),λ τ σ H ρ lab De R W=>?_⟩;refine aHb i2 g2 hfg t2 R (W.bo.imp λ ds _ w=>?_);by_cases hl:ds.length<sizeLine
 ·rw[if_pos hl]at w
  refine⟨hl,λ l as H' s hn hH hnd hlen hal=>?_⟩;have hlab:∀p o,H p=some o->(λ p=>if p=l then(i+2,0)else if p∈as then(i+2,as.idxOf p+1)else bc H 1 lab p) p=lab p:=λ p o e=>by
   dsimp only;have z1:p≠l:=λ z=>by subst z;rw[hn]at e;cases e
   have z2:p∉as:=λ z=>by rw[(hal p z).1]at e;cases e
   rw[if_neg z1,if_neg z2,bM e]
  have R':RR C.K C.G τ ρ σ H' (λ p=>if p=l then(i+2,0)else if p∈as then(i+2,as.idxOf p+1)else bc H 1 lab p):=by
   refine(R.relab hlab λ p hp=>?_).up s;cases e:H p with
   |none=>exact R.old.free e
   |some o=>
    have:=hlab p o e
    dsimp only at this hp;rw[this]at hp;exact R.new p hp
  refine w _ _ _ (R'.put (s:=.o2 (List.replicate ds.length [])) ⟨l,as.map V.ref,rfl,hH,by dsimp only;rw[if_pos rfl],by rw[List.length_map,List.length_replicate];exact hlen,λ j x es e1 e2=>?_⟩);rw[List.getElem?_map,Option.map_eq_some_iff]at e1;obtain⟨a,e1,rfl⟩:=e1;have ees:es=[]:=by
   rw[List.getElem?_replicate]at e2;split at e2
   ·cases e2;rfl
   ·cases e2
  subst ees;have ha:a∈as:=List.mem_of_getElem? e1;have hla:a≠l:=λ z=>by subst z;exact(List.nodup_cons.mp hnd).1 ha
  have hj2:j<as.length:=(List.getElem?_eq_some_iff.mp e1).1;refine .lst (hal a ha).2 ?_ .nil
  show(if a=l then(i+2,0)else if a∈as then(i+2,as.idxOf a+1)else bc H 1 lab a)=(i+2,j+1)
  rw[if_neg hla,if_pos ha];have hix:as.idxOf a<as.length:=List.idxOf_lt_length_iff.mpr ha
  have:as[as.idxOf a]? =some a:=by rw[List.getElem?_eq_getElem hix];exact congrArg some (List.getElem_idxOf hix)
  have:=(List.getElem?_inj hix (List.nodup_cons.mp hnd).2).mp (this.trans e1.symm)
  rw[this]
 ·rw[if_neg hl]at w
  exact False.elim w
end
section
variable{C:Ct}{pos apos cpos p:Pos}{e e1 e2:Expr}{fe f1 f2:En->Rs D}{i:Nat}{x:Str}{m m1:Mode}
end
section
variable{C:Ct}{pos p:Pos}{a:Expr}{ga:En->Rs (List D)}{m:Mode}
end
theorem qp:∀{us:List α},us.length=1->∃a0,us=[a0]
 |[a0],_=>⟨a0,rfl⟩
theorem xR:∀{us:List α},us.length=2->∃a0 a1,us=[a0,a1]
 |[a0,a1],_=>⟨a0,a1,rfl⟩
theorem aKX:∀{us:List α},us.length=3->∃a0 a1 a2,us=[a0,a1,a2]
 |[a0,a1,a2],_=>⟨a0,a1,a2,rfl⟩
theorem aJm:∀{us:List α},us.length=6->∃a0 a1 a2 a3 a4 a5,us=[a0,a1,a2,a3,a4,a5]
 |[a0,a1,a2,a3,a4,a5],_=>⟨a0,a1,a2,a3,a4,a5,rfl⟩
section
variable{K:PySem.W.Frag}{G:Gx}{wi:TI}{fi:En->Rs (List D)}{js:List (Option Nat)}{g:TG}{fg:D->En->Rs En}{tt:TT}{ft:En->Rs Bool}{te:TE}{fe:En->Rs D}
end
section
variable{C:Ct}{pos:Pos}{elt tg iter:Expr}{ifs:List Expr}{sc:Scope}{N:List Str}{js:List (Option Nat)}{ks:List Nat}{fi:En->Rs (List D)}{fg:D->En->Rs En}{ft:En->Rs Bool}{fe:En->Rs D}
end
section
variable{C:Ct}{pos apos cpos p:Pos}{e a:Expr}{fe fa:En->Rs D}{i:Nat}{x:Str}{m:Mode}
end
section
variable{C:Ct}{pos tpos p:Pos}{ek e:Expr}{fk fe:En->Rs D}{x:Str}{m m1:Mode}{op:Operator}{g:Int->Int->Int}
end
def mX(j:Int):List Int:=(List.range j.toNat).map λ(k:Nat)=>0+(k:Int)
def aJ2:List V->Hp->VK->Prop:=λ xs H Q=>∃j:Int,xs=[.int j]/\∀p,H p=none->Q (.ref p) (upd H p (.rng 0 j))
theorem aEo:bx X (.type "range") aJ2:=by
 intro pins s σ H vs us Q I rv h;obtain⟨j,rfl,q⟩:=h;obtain⟨u,rfl,ru⟩:=rv.one;obtain⟨t,rfl⟩:=ru;exact call_range_1 ⟨.ref s.heap.objs.size,_,I.laid (a:=s.heap.objs.size) (o:=.rng 0 j) (t':=s.toks+1+1) (λ _ _ q=>Heap.get?_push_of_some _ q) (Nat.le_refl _) ⟨_,_,_,Heap.get?_push_size _ rfl⟩,rfl,q _ (I.hok.fresh (Nat.le_refl _))⟩
def yg:List V->Hp->VK->Prop:=λ xs H Q=>∃(p:Addr) (j:Int),xs=[.ref p]/\H p=some (.rng 0 j)/\-(2^62)<=j/\j<=10000/\∀l H',aU H H'->H l=none->H' l=some (.lst ((mX j).map V.int))->Q (.ref l) H'
theorem aFD:∀{ns:List Int} {us:List Value},ns.length=us.length->(∀(k:Nat) i,ns[k]? =some i->∃tk,us[k]? =some (.int i tk))->Vals (ns.map V.int) us:=by
 intro ns;induction ns with
 |nil=>intro us hl _;rw[List.eq_nil_of_length_eq_zero hl.symm];exact .nil
 |cons n ns ih=>
  intro us hl h;obtain⟨tk,e⟩:=h 0 n rfl;cases us with
  |nil=>cases e
  |cons u us=>
   have e':u= .int n tk:=Option.some.inj e;subst e';exact .cons ⟨tk,rfl⟩ (ih (Nat.succ.inj hl) λ k i hi=>h (k+1) i hi)
theorem yD(hc:X.calm=true):bx X (.type "list") yg:=by
 intro pins s σ H vs us Q I rv h;obtain⟨p,j,rfl,hp,h1,h2,q⟩:=h;obtain⟨u,rfl,ru⟩:=rv.one;cases ru;obtain⟨t,u,v,hg⟩:=I.hok p _ hp;have hsz:Builtin.Range.rangeSize 0 j 1=(j.toNat:Int):=by
  unfold Builtin.Range.rangeSize;simp only[show(1:Int)>0 by decide,if_true];split<;>lia
 refine call_list_range (n:=j.toNat) (I.ok.hd hc) hg ?_ hsz (by lia) λ h' tk acc c' hk hS hacc=>?_
 ·have fl:∀x:Int,-(2^62)<=x->x<=2^62->Builtin.Range.rangeFitsLong x=true:=λ x hx1 hx2=>by
   unfold Builtin.Range.rangeFitsLong;simp;lia
  unfold Builtin.Range.small;rw[hsz,fl 0 (by lia) (by lia),fl j (by lia) (by lia),fl 1 (by lia) (by lia),fl _ (by lia) (by lia),if_pos (by decide),fl (j+(1-1)) (by lia) (by lia),Bool.or_true];rfl
 ·have hfr:=I.hok.fresh (Nat.le_refl s.heap.objs.size)
  have hv:Vals ((mX j).map V.int) acc.toList:=by
   have hl:(mX j).length=acc.toList.length:=by rw[show acc.toList.length=acc.size from Array.length_toList,hacc.1];simp[mX]
   refine aFD hl λ k i hi=>?_
   have hk2:k<acc.size:=by rw[hacc.1];have:=(List.getElem?_eq_some_iff.mp hi).1;simpa[mX]using this
   obtain⟨tk,e⟩:=hacc.2 k acc[k] (Array.getElem?_eq_getElem hk2);refine⟨tk,?_⟩;have ei:i=0+(k:Int)*1:=by
    unfold mX at hi;rw[List.getElem?_map]at hi;cases c:(List.range j.toNat)[k]? with
    |none=>rw[c]at hi;cases hi
    |some m=>
     rw[c]at hi;cases hi
     have:=List.getElem?_eq_some_iff.mp c
     have:m=k:=by simpa using this.2.symm
     subst this
     show(0:Int)+(m:Int)=0+(m:Int)*1
     lia
   rw[ei,<-e];simp[hk2]
  refine⟨.ref s.heap.objs.size,upd H s.heap.objs.size (.lst ((mX j).map V.int)),I.laid (t':=tk) hk (Nat.le_refl _) ⟨?_,acc.toList,c',hv,by simpa using hS⟩,rfl,q _ _ (bO hfr _) hfr ao⟩;simp[mX]
  have:sizeLine=16777216:=sizeLine_eq
  lia
def lrR:D->Rs D
 | .int j=>if -(2^62)<=j/\j<=10000 then .ok (.lst (bB 0 j))else .st
 |_=>.st
def lrD(fa:En->Rs D):En->Rs D:=λ ρ=>(fa ρ).bd lrR
theorem aCF(j:Int):bB 0 j=(mX j).map D.int:=by
 unfold bB mX;rw[List.map_map,Int.sub_zero];rfl
section
variable{C:Ct}{pos pos2 p p2:Pos}{a:Expr}{fa:En->Rs D}{m:Mode}
theorem sG(hmL:C.mg "list"=none)(hmR:C.mg "range"=none)(ha:SE C m a fa)(hs:∀i,starEach [a] (C.X i).env=[(false,eval a (C.X i).env)]:=by intro _;rfl)(hs2:∀i,starEach [.Call (.Name "range" p2) [a] [] pos2] (C.X i).env=[(false,eval (.Call (.Name "range" p2) [a] [] pos2) (C.X i).env)]:=by intro _;rfl)(hgL:∀i,Gl (C.X i) "list":=by intro _;rfl)(hvL:bootBuiltins "list"=some (.type "list"):=by decide+kernel)(hgR:∀i,Gl (C.X i) "range":=by intro _;rfl):SE C (some []) (.Call (.Name "list" p) [.Call (.Name "range" p2) [a] [] pos2] [] pos) (lrD fa):=by
 obtain⟨t,h1,h2⟩:=ha;refine⟨tCB yg (gZ (tCB aJ2 (gZ t lA)) lA),λ i=>lr (yD (C.calm i)) (hgL i) (by rw[(C.cx i).2.2.2.1];exact hmL) hvL (aZ (lr aEo (hgR i) (by rw[(C.cx i).2.2.2.1];exact hmR) boot_range (aZ (h1 i) cF (hs i)) (by decide) (by decide) (hs i) rfl) cF (hs2 i)) (by decide) (by decide) (hs2 i) rfl,λ τ σ H ρ lab Q R W=>?_⟩;refine h2 τ σ H ρ lab _ R (W.bd.imp λ d _ w y H1 s1 r1=>?_);unfold lrR at w;split at w
 ·rename_i j _
  by_cases hz: -(2^62)<=j/\j<=10000
  ·rw[if_pos hz]at w
   have ey:=r1.int_inv;subst ey;refine⟨j,rfl,λ q hq=>⟨q,j,rfl,ao,hz.1,hz.2,λ l H' s' hl hH'=>?_⟩⟩;have s0:=(s1.trans (bO hq _)).trans s';have hlH:H l=none:=(s1.trans (bO hq _)).free hl;refine w _ H' s0 (.lst hH' (.inl hlH) ?_);rw[aCF];exact Rps.ints
  ·rw[if_neg hz]at w
   exact False.elim w
 ·exact False.elim w
end
def aHH:V->List V->Hp->VK->Prop:=λ x vs H Q=>∃(l:Addr) (S:Int->Bool) (n:Nat) (i:Int),x= .ref l/\vs=[.int i]/\H l=some (.set S n)/\n+1<scanBound/\∀H',kJ l H H'->H' l=some (.set (λ k=>S k||decide (k=i)) (if S i=true then n else n+1))->Q .non H'
theorem aFz:MtM X "set.add" aHH:=by
 intro pins s σ H x vs v us Q I rx rv h;obtain⟨l,S,n,i,rfl,rfl,hH,hn,q⟩:=h;cases rx;obtain⟨u,rfl,ru⟩:=rv.one;obtain⟨t,rfl⟩:=ru;have hS:s.heap.SetOf (intKind X.prog X.w) l S n:=I.hok l _ hH;refine call_set_add (k:=i) (by simp[intKind,Value.isInt]) rfl hS hn λ h' hsb hS'=>⟨.non,_,?_,rfl,q _ (λ b o ne hb=>by rw[aa ne];exact hb) ao⟩
 refine I.write (x:=l) (e:=l) (by rw[hH];exact trivial) (.inl rfl) (λ b' u hb hu=>(hsb.2 b' hb).trans hu) ?_ hS';obtain⟨o,_,_,_,ho,_⟩:=hS';exact⟨o,ho⟩
theorem aC9(ds:List Int)(z:Int):(step_dedup ds z).length=if decide (z∈ds)=true then ds.length else ds.length+1:=by
 unfold step_dedup;by_cases h:z∈ds
 ·rw[if_pos (by simpa using h),if_pos (by simpa using h)]
 ·rw[if_neg (by simpa using h),if_neg (by simpa using h),List.length_append,List.length_singleton]
theorem v7(ds:List Int)(z k:Int):(decide (k∈ds)||decide (k=z))=decide (k∈step_dedup ds z):=by
 unfold step_dedup;rw[Bool.eq_iff_iff];split
 ·rename_i h
  have h':z∈ds:=by simpa using h
  simp only[Bool.or_eq_true,decide_eq_true_eq];exact⟨λ q=>q.elim id λ e=>e▸h',.inl⟩
 ·simp
theorem z7{z:Int}(nd:ds.Nodup):(step_dedup ds z).Nodup:=by
 unfold step_dedup;split
 ·exact nd
 ·rename_i h
  have h':¬z∈ds:=by simpa using h
  refine List.nodup_append.mpr ⟨nd,by simp,λ a ha b hb e=>?_⟩;rw[List.mem_singleton]at hb;subst hb;subst e;exact h' ha
def aCj(ρ:En)(i:Nat)(ds:List Int):D->Ou
 | .int z=>if ds.length<4000 then .nx (ρ.set i (.ow (.set (step_dedup ds z))))else .st
 |_=>.st
def aGm(i:Nat)(fe:En->Rs D):En->Ou:=λ ρ=>match ρ[i]? with
 |some (.ow (.set ds))=>(fe ρ).bo λ d=>aCj ρ i ds d
 |_=>.st
section
variable{C:Ct}{pos apos cpos p:Pos}{e a:Expr}{fe fa:En->Rs D}{i:Nat}{x:Str}{m:Mode}
theorem aHa(i:Nat)(he:SE C m e fe)(hm:okN m=true:=by rfl)(hN:∀j,(C.X j).N[i]? =some x:=by intro _;rfl)(hv:∀j,Vis (C.X j).env.scope x:=by intro _;first|exact Or.inl rfl|exact Or.inr (Or.inl rfl)|exact Or.inr (Or.inr rfl))(hd:(x==("__debug__":Str))=false:=by decide)
  (hcd:(x==("__classdict__":Str))=false:=by decide)(hs1:∀j,starEach [e] (C.X j).env=[(false,eval e (C.X j).env)]:=by intro _;rfl)
  (hbase:∀j,attributeBase (.Name x p) "add" (C.X j).env (eval (.Name x p) (C.X j).env)=eval (.Name x p) (C.X j).env:=by intro _;rfl)
  (hfew:∀j,((backTo cpos (starEach [e] (C.X j).env)).all (λ x=>!x.1)&&(backToKw cpos (keywordEach [] (C.X j).env)).all (λ x=>x.1.isSome)&&decide ([e].length+([]:List Keyword).length+(if ([]:List Keyword).isEmpty then 0 else 1)<30))=true:=by intro _;rfl)
  (hline:(apos.endLine==cpos.line)=true:=by rfl)
  (hsw:∀j,swapsWith (.Call (.Attribute (.Name x p) "add" apos) [e] [] cpos) none pos.line (C.X j).env=pure false:=by intro _;rfl):
  SS C (.Expr (.Call (.Attribute (.Name x p) "add" apos) [e] [] cpos) pos) (aGm i fe):=by
 obtain⟨t,h1,h2⟩:=he;refine⟨rT (tBM C.K "set" aHH (km i) (gZ t lA)),λ j=>lq (by rw[<-C.hK j];exact vK PySem.F.plainAttrs_set PySem.F.slot_set_add PySem.F.type_set_add aFz (fD (hN j) (hv j) hd hcd) (aZ (h1 j) cF (hs1 j)) (hbase j) (hfew j) hline (hs1 j) rfl) (hsw j),λ τ σ H ρ lab De R W=>?_⟩;unfold aGm at W;cases es:ρ[i]? with
 |none=>rw[es]at W;exact False.elim W
 |some s=>
  rw[es]at W;split at W
  ·rename_i ds hs
   cases hs;rcases R.sl i _ es with z|⟨v,ev,hv'⟩
   ·cases z
   ·obtain⟨hv1,htop⟩:=hv'
    obtain⟨a0,ea0,la0⟩:=htop rfl;subst ea0;cases hv1 with
    |set h mm hS nd=>
     rename_i S;refine⟨.ref a0,ev,.inr (.inr (.inr ⟨rfl,S,_,h⟩)),h2 τ σ H ρ lab _ R (W.bo.imp λ d _ w y H2 s2 r2=>?_)⟩;unfold aCj at w;split at w
     ·rename_i z _
      by_cases hz:ds.length<4000
      ·rw[if_pos hz]at w
       have ey:=r2.int_inv;subst ey;have hb:scanBound=4096:=rfl;refine⟨a0,S,ds.length,z,rfl,rfl,s2 _ _ h,by omega,λ H3 B h3=>?_⟩;refine w σ H3 _ ((R.up s2).mut ev (s2 _ _ h) rfl la0 B ⟨?_,λ _=>⟨a0,rfl,la0⟩⟩);have e1:(if S z=true then ds.length else ds.length+1)=(step_dedup ds z).length:=by
        rw[hS z];exact(aC9 ds z).symm
       rw[e1]at h3;exact .set h3 (.inr la0) (λ k=>by rw[hS k];exact v7 ds z k) (z7 nd)
      ·rw[if_neg hz]at w
       exact False.elim w
     ·exact False.elim w
  ·exact False.elim W
end
def aHC:List V->Hp->VK->Prop:=λ xs H Q=>xs=[]/\∀p,H p=none->Q (.ref p) (upd H p (.set (λ _=>false) 0))
theorem aCe:bx X (.type "set") aHC:=by
 intro pins s σ H vs us Q I rv h;obtain⟨rfl,q⟩:=h;cases rv;refine call_set_0 λ led=>⟨.ref s.heap.objs.size,_,I.laid (a:=s.heap.objs.size) (o:=.set (λ _=>false) 0) (t':=s.toks) (λ _ _ q=>Heap.get?_push_of_some _ q) (Nat.le_refl _) ?_,rfl,q _ (I.hok.fresh (Nat.le_refl _))⟩
 exact⟨_,#[],0,_,Heap.get?_push_size _ rfl,⟨rfl,rfl,rfl⟩,rfl,λ e he=>by simp at he,λ k=>by simp,by decide,by rfl,rfl⟩
def aJ6(neg:Bool):R2:=λ x y H Q=>∃(i:Int) (a:Addr) (S:Int->Bool) (n:Nat),x= .int i/\y= .ref a/\H a=some (.set S n)/\Q (.bl (if neg then !S i else S i)) H
theorem aFn:OpR X (compareOp .NotIn) (aJ6 true):=by
 intro pins s σ H x y v u Q I rx ry h;obtain⟨i,a,S,n,rfl,rfl,hH,q⟩:=h;obtain⟨t,rfl⟩:=rx;cases ry;have hS:s.heap.SetOf (intKind X.prog X.w) a S n:=I.hok a _ hH;exact wpAny_notInSet_of (k:=i) (by simp[intKind,Value.isInt]) rfl hS ⟨.bl (!S i),H,I.tok _,rfl,q⟩
def inX(neg:Bool):D->D->Rs D
 | .int i,.set l=>.ok (.bl (if neg then !decide (i∈l)else decide (i∈l)))
 |d,e=>inR neg d e
theorem aIK{K:PySem.W.Frag}:OpS K (λ x y H Q=>aF3 K n x y H Q\/aJ6 n x y H Q) (inX n):=by
 intro A x y d e H Q z rx ry ez q;unfold inX at ez;split at ez
 ·cases ez
  have ex:=rx.int_inv;subst ex;cases ry with
  |set h m hS nd=>exact .inr ⟨_,_,_,_,rfl,rfl,h,by rw[hS];exact q _ H (aU.refl H) (.bl _)⟩
 ·exact .inl (aHL A x y d e H Q z rx ry ez q)
section
variable{C:Ct}{pos p:Pos}{a b:Expr}{fa fb:En->Rs D}{m1 m2:Mode}
theorem aFG(ha:SE C m1 a fa)(hb:SE C m2 b fb)(hm:behindInMarks .NotIn b=false:=by with_unfolding_all rfl):ST C (.Compare a [.NotIn] [b] pos) (tsb (op2 (inX true) fa fb)):=lC (λ i=>(C.ninRl i).or aFn) aIK ha hb hm
theorem aFR(hm:C.mg "set"=none)(hg:∀i,Gl (C.X i) "set":=by intro _;rfl)(hv:bootBuiltins "set"=some (.type "set"):=by decide+kernel):SE C (some []) (.Call (.Name "set" p) [] [] pos) (cD (.set [])):=by
 refine⟨tCB aHC lA,λ i=>aA1 aCe (hg i) (by rw[(C.cx i).2.2.2.1];exact hm) hv,λ τ σ H ρ lab Q R W=>?_⟩;exact⟨rfl,λ q hq=>W _ _ (bO hq _) (.set ao (.inl hq) (λ _=>by simp) (by simp))⟩
end
section
variable{prog:Program}{w:World}{A:Around}{E:Value->Shared->Prop}{s:Shared}{r:Addr}{a b c:Int}{t u v:Tok}{n:Nat}
end
section
variable{C:Ct}{pos pos2 p p2:Pos}{a:Expr}{fa:En->Rs D}{m:Mode}
end
section
variable{prog:Program}{w:World}{A:Around}{E:Value->Shared->Prop}{s:Shared}{it t:Addr}{i:Nat}{items:Array Value}
end
section
variable{C:Ct}{m:Mode}{a:Expr}{ga:En->Rs (List D)}{elts:List Expr}{x1:Nat}{ps p pos:Pos}
end
abbrev Ent:=List Int×Addr×V
section
variable{X:Cx}{pins:List (Addr×Obj)}{σ:L2.St}{H:Hp}{s:Shared}{a b:Addr}{k:List Int}{es:List Ent}
end
section
variable{C:Ct}{m1 m2:Mode}{a b:Expr}{fa fb:En->Rs D}{pos:Pos}
end
section
variable{K:PySem.W.Frag}{G:Gx}{wi:TI}{fi:En->Rs (List D)}{js:List (Option Nat)}{g:TG}{fg:D->En->Rs En}{tt:TT}{ft:En->Rs Bool}{tk tv:TE}{fk fv:En->Rs D}
end
section
variable{C:Ct}{pos:Pos}{kx vx tg iter:Expr}{ifs:List Expr}{sc:Scope}{N:List Str}{js:List (Option Nat)}{ks:List Nat}{fi:En->Rs (List D)}{fg:D->En->Rs En}{ft:En->Rs Bool}{fk fv:En->Rs D}
end
def aC8(p:Int×Tok):Int×Value:=(hashInt p.1,.int p.1 p.2)
def zp(h:Heap)(a:Addr)(led:Bool)(ks:List Int):Prop:=∃es ep t,h.get? a=some (bz es ep t)/\fK t es.size/\t.led=led/\∃tks:List (Int×Tok),tks.map (·.1)=ks/\es.toList.Perm (tks.map aC8)
section
variable{prog:Program}{w:World}{A:Around}{E:Value->Shared->Prop}{s:Shared}{a:Addr}{led:Bool}{ks:List Int}
theorem aAy{es:Array (Int×Value)}{tks:List (Int×Tok)}(hp:es.toList.Perm (tks.map aC8)):ElemsOf (intKind prog w) es.toList:=λ e he=>by
 obtain⟨p,_,rfl⟩:=List.mem_map.mp (hp.mem_iff.mp he);exact⟨⟨p.1,intKind_is _ _ _ _,rfl⟩,rfl⟩
theorem aCX(T:fK t es.size)(h63:es.size<63)(h:Int)(x:Value):∃j,layNew t es h x=(SetTable.insertAt es (t.put j).2 (h,x),(t.put j).1,false,false)/\lV (t.put j).1 (es.size+1)/\(t.put j).1.led=t.led:=by
 obtain⟨j,j1,j2,j3⟩:=aAY (hashAt:=λ _=>h+1) T (h:=h) λ i hi=>by omega
 obtain⟨P,p1,p2,p3,p4⟩:=aHq T h63 j1 j2;have hes:(SetTable.insertAt es (t.put j).2 (h,x)).size=es.size+1:=oH _ _ _;refine⟨j,?_,P,p4⟩;have hf:t.freeSlot h=some (j,false):=by unfold SetTable.freeSlot;rw[j3];rfl
 unfold layNew SetTable.orStandIn;rw[hf];dsimp only;rw[hes,P.fits];rfl
theorem ye(P:lV t n)(hn:es.size=n)(h5:n=5\/n=19):∃es' t',relayAll t es (SetTable.grown es.size)=(es',t',false)/\fK t' es'.size/\t'.led=t.led/\es'.toList.Perm es.toList:=by
 obtain⟨t',order,r1,r2,r3,r4⟩:=aDS P.pla h5 (es.map (·.1)) (by rw[Array.size_map];exact hn);have hperm:(order.filterMap (es[·]?)).toList.Perm es.toList:=by
  rw[Array.toList_filterMap];refine(r4.filterMap _).trans ?_;rw[<-hn,filterMap_getElem?_range]
 have hes:(order.filterMap (es[·]?)).size=n:=by rw[<-Array.length_toList,hperm.length_eq,Array.length_toList,hn]
 refine⟨order.filterMap (es[·]?),t',?_,by rw[hes];exact r2,r3,hperm⟩;unfold relayAll;rw[hn,r1];have hc:coversAll order n=true:=List.isPerm_iff.mpr r4;dsimp only;rw[hes,hc,r2.fits];rfl
theorem aFQ(S:zp s.heap a led ks)(h63:ks.length<63)
  (q:∀h' b,Heap.SameBut a s.heap h'->zp h' a led (step_dedup ks k)->Q b {s with heap:=h',toks:=s.toks+1}):wpAny (model prog w) A (setAdd a (.int k tk)) Q E s:=by
 obtain⟨es,ep,t,ho,T,hl,tks,hk,hp⟩:=S;have hel:ElemsOf (intKind prog w) es.toList:=aAy hp;have hsz:es.size=ks.length:=by rw[<-Array.length_toList,hp.length_eq,List.length_map,<-hk,List.length_map]
 have hb:es.size<scanBound:=by rw[hsz];unfold scanBound;omega
 have hany:∀e∈es.toList,(intKind prog w).is k e.2=true->k∈ks:=λ e he hi=>by
  obtain⟨p,hpm,rfl⟩:=List.mem_map.mp (hp.mem_iff.mp he)
  have:k=p.1:=(intKind prog w).inj _ k p.1 hi (intKind_is _ _ _ _)
  rw[this,<-hk];exact List.mem_map_of_mem hpm
 unfold setAdd;refine wpAny_holding (wpAny_bind ((intKind prog w).pyHash (k:=k) (intKind_is _ _ _ _) ?_));unfold setAddHashed setAddHashedIn;refine wpAny_holding (wpAny_bind (wpAny_setState_of (s:={s with toks:=s.toks+1}) ho rfl T.fits ?_));dsimp only;rw[byScan_of (knd:=intKind prog w) rfl hb hel];simp only[↓reduceIte];unfold setAddByScan;refine wpAny_bind (wpAny_bind (wpAny_rule (wpAny_bind (wpAny_setScan_of (knd:=intKind prog w) (s:={s with toks:=s.toks+1}) (intKind_is _ _ _ _) ho rfl T.fits hel ?_))));cases hr:List.findIdx? (λ e=>(intKind prog w).is k e.2) es.toList with
 |some j=>
  obtain⟨hj,hpj,_⟩:=List.findIdx?_eq_some_iff_getElem.mp hr;have hin:=hany _ (List.getElem_mem hj) hpj;dsimp only;refine wpAny_pure (wpAny_pure (q s.heap _ (Heap.SameBut.refl a s.heap) ?_))
  have:step_dedup ks k=ks:=by unfold step_dedup;rw[if_pos (List.any_eq_true.mpr ⟨k,hin,by simp⟩)]
  rw[this];exact⟨es,ep,t,ho,T,hl,tks,hk,hp⟩
 |none=>
  have hno:k∉ks:=λ hin=>by
   rw[<-hk]at hin;obtain⟨p,hpm,e⟩:=List.mem_map.mp hin;have he:aC8 p∈es.toList:=hp.mem_iff.mpr (List.mem_map_of_mem hpm)
   have:=List.findIdx?_eq_none_iff.mp hr _ he
   rw[<-e]at this;have z:(intKind prog w).is p.1 (.int p.1 p.2)=false:=this;rw[intKind_is]at z;cases z
  have hstep:step_dedup ks k=ks++[k]:=by
   unfold step_dedup;rw[if_neg];intro h;obtain⟨y,hy,e⟩:=List.any_eq_true.mp h;exact hno (by rw[<-eq_of_beq e];exact hy)
  obtain⟨j,hL,P,pl⟩:=aCX T (by omega) ((intKind prog w).hash k) (.int k tk);have hes:(SetTable.insertAt es (t.put j).2 ((intKind prog w).hash k,Value.int k tk)).size=es.size+1:=oH _ _ _;have hperm:(SetTable.insertAt es (t.put j).2 ((intKind prog w).hash k,Value.int k tk)).toList.Perm ((tks++[(k,tk)]).map aC8):=by
   have:=SetTable.insertAt_perm es (t.put j).2 ((intKind prog w).hash k,Value.int k tk)
   rw[Array.toList_push]at this;rw[List.map_append];exact this.trans (hp.append_right _)
  have htk:(tks++[(k,tk)]).map (·.1)=step_dedup ks k:=by rw[hstep,List.map_append,hk];rfl
  dsimp only;rw[hL];dsimp only;refine wpAny_bind (wpAny_pure ?_);rw[P.pla];simp only[↓reduceIte];refine wpAny_bind (wpAny_pure ?_);simp only[↓reduceIte];generalize SetTable.insertAt es (t.put j).2 ((intKind prog w).hash k,Value.int k tk)=es1 at hes hperm ⊢;generalize (t.put j).1=t1 at P pl ⊢;refine wpAny_bind (aCv (s:={s with toks:=s.toks+1}) ho (by omega) λ e1=>?_);simp only[Bool.not_false,Bool.true_and];cases hf:t1.tooFull with
  |true=>
   obtain⟨es2,t2,hR,T2,l2,p2⟩:=ye P hes (P.full (by omega) hf);simp only[↓reduceIte];rw[hR];dsimp only;refine wpAny_bind (wpAny_pure ?_);have hz2:es2.size<=63:=by rw[<-Array.length_toList,p2.length_eq,Array.length_toList];omega
   refine wpAny_bind (aCv e1 hz2 λ e2=>wpAny_pure (wpAny_pure (q _ _ ((Heap.SameBut.update s.heap a _).trans (Heap.SameBut.update _ a _)) ⟨es2,_,t2,e2,T2,l2.trans (pl.trans hl),_,htk,p2.trans hperm⟩)))
  |false=>
   simp only[Bool.false_eq_true,if_false];exact wpAny_pure (wpAny_pure (q _ _ (Heap.SameBut.update ..) ⟨es1,_,t1,e1,by rw[hes];exact P.still hf,pl.trans hl,_,htk,hperm⟩))
theorem aCC{St:Nat->Shared->Prop}(W:WalksS prog w A.in1 I fp wr G n (λ i v=>vs.toArray[i]? =some v) St)(hSf:S∉fp)(hi:IntsAre vs ns)(hn:n=vs.length)(h64:n<64)(led:Bool):
  ∀(k i:Nat) (s:Shared),n-i=k->i<=n->St i s->zp s.heap S led (ddI (ns.take i))->(∀s',Moved (S::wr) G s s'->zp s'.heap S led (ddI ns)->R (.ok (.ret .none)) s')->
   codeAny (model prog w) A (.builtin "set.update.loop" ⟨[.ref S,.ref I],[]⟩) R s:=by
 have hSw:S∉wr:=λ h=>hSf (W.sub _ h)
 have hsb:∀b∈wr,b∈S::wr:=λ b hb=>List.mem_cons_of_mem _ hb
 have hlen:vs.length=ns.length:=IntsAre.length hi;have keep:∀{h h':Heap} {ks:List Int},zp h S led ks->(∀o,h.get? S=some o->h'.get? S=some o)->zp h' S led ks:=λ⟨es,ep,t,e,r⟩ k=>⟨es,ep,t,k _ e,r⟩
 intro k;induction k with
 |zero=>
  intro i s hk hi' hst hS hR;have hin':i=n:=by omega
  subst hin';refine codeAny_builtin PyProof.Rows.F.entry_set_update_loop ?_;rw[Around.under_plainId PyProof.Rows.F.plain_set_update_loop _];show wpAny _ A.in1 (pyNext (.ref I)>>=_) _ _ s;refine wpAny_bind (W.done s _ _ hst λ s' hm=>wpAny_pure (hR s' (hm.mono hsb) ?_));rw[List.take_of_length_le (by omega)]at hS;exact keep hS λ o e=>hm.heap S _ hSw e
 |succ k ih=>
  intro i s hk hi' hst hS hR;have hlt:i<n:=by omega
  refine codeAny_builtin PyProof.Rows.F.entry_set_update_loop ?_;rw[Around.under_plainId PyProof.Rows.F.plain_set_update_loop _];show wpAny _ A.in1 (pyNext (.ref I)>>=_) _ _ s;refine wpAny_bind (W.item i s _ _ hlt hst λ v s' hP' hst' hm=>?_);have hP:vs[i]? =some v:=by simpa using hP'
  obtain⟨t,rfl⟩:=PyProof.Rows.IntsAre.int_at hi i v hP;have hS':zp s'.heap S led (ddI (ns.take i)):=keep hS λ o e=>hm.heap S _ hSw e
  have hle:(ddI (ns.take i)).length<63:=by
   have h1:=aEh (ns.take i);rw[List.length_take]at h1;omega
  have hnx:step_dedup (ddI (ns.take i)) (ns.getD i 0)=ddI (ns.take (i+1)):=by
   have hx:ns[i]? =some (ns.getD i 0):=by
    rw[List.getD_eq_getElem?_getD,List.getElem?_eq_getElem (by omega)];rfl
   rw[List.take_add_one,hx,<-aEg];rfl
  show wpAny _ A.in1 (holding [Value.int (ns.getD i 0) t] (setAdd S (.int (ns.getD i 0) t))>>=_) _ _ s';refine wpAny_bind (wpAny_holding (aFQ hS' hle λ h' b c1 c3=>?_));have kp:∀b o,b≠S->s'.heap.get? b=some o->h'.get? b=some o:=λ b o hb e=>by rw[c1.2 b hb];exact e
  rw[hnx]at c3;refine wpAny_pure ⟨plainId_quiet PyProof.Rows.F.plain_set_update_loop _,ih (i+1) _ (by omega) hlt (W.frame _ s' _ _ hst' (Nat.le_succ _) λ b hb o e=>kp b o (λ z=>hSf (z▸hb)) e) c3 λ s'' hm'' hS''=>?_⟩;exact hR s'' (Moved.trans W.gtrans ((hm.mono hsb).then_heap (Nat.le_succ _) λ b o hb e=>kp b o (λ z=>hb (z▸List.mem_cons_self)) e) hm'') hS''
theorem xK{Q:Value->Shared->Prop}(hI:IntsAre vs ns)(h64:vs.length<64)
  (h:∀(out:List Value) h' e,Vals ((sortI ns).map V.int) out->(∀b o,s.heap.get? b=some o->h'.get? b=some o)->h'.get? s.heap.objs.size=some (seqObj "list" out.toArray e)->Q (.ref s.heap.objs.size) {s with heap:=h'}):
  wpAny (model prog w) A (newList vs>>=λ l=>holding [l] (call (.builtin "list.sort") [l])>>=λ _=>ret l) (λ fin s'=>∃r,fin= .done (.ret r)/\Q r s') E s:=by
 refine wpAny_bind (wpAny_newList ?_ (by rw[sizeLine_eq];omega));have hoL:(s.heap.push (seqObj "list" vs.toArray 0)).get? s.heap.objs.size=some (seqObj "list" vs.toArray 0):=Heap.get?_push_size _ rfl;refine wpAny_bind (wpAny_holding (wpAny_call_entry slot_list_sort ⟨_,hoL,rfl⟩ entry_list_sort (list_sort_tree (s:={s with heap:=s.heap.push (seqObj "list" vs.toArray 0)}) hoL hI h64 λ out ns' a1 a2 a3=>⟨_,rfl,wpAny_pure ⟨_,rfl,?_⟩⟩) (args_list_sort _)));have e:ns'=sortI ns:=PySem.W.ksm_same (a2.trans (sortI_perm ns).symm) a3 (gk ns);subst e;have hne:∀b o,s.heap.get? b=some o->b≠s.heap.objs.size:=λ b o e=>Nat.ne_of_lt (Heap.lt_size e)
 have g0:=get?_update_seq hoL λ _=>(#[]:Array Value)
 have g1:=Heap.get?_push_of_some (seqObj "list" #[] 0) (Heap.get?_push_of_some (seqObj "tuple" vs.toArray 0) g0);have g2:=get?_update_seq g1 (λ _=>out);refine h out.toList _ _ (dD a1) (λ b o e=>?_) (by rw[Array.toArray_toList];exact g2);unfold sortedHeap;rw[Heap.get?_update_ne _ _ _ _ (hne b o e)];refine Heap.get?_push_of_some _ (Heap.get?_push_of_some _ ?_);rw[Heap.get?_update_ne _ _ _ _ (hne b o e)];exact Heap.get?_push_of_some _ e
end
section
variable{X:Cx}
def aDJφ(w:World)(a:Addr)(ks:List Int):Heap->Prop:=λ h=>zp h a (!w.params.followText "set-order") ks
def aHB(K:PySem.W.Frag)(w:World):List V->Hp->VK->Prop:=λ xs H Q=>∃p ns,xs=[.ref p]/\SqL K H p (ns.map V.int)/\ns.length<64/\∀a H',aU H H'->H' a=some (.ext (aDJφ w a (ddI ns)))->H a=none->Q (.ref a) H'
theorem aCd(hc:X.calm=true):bx X (.type "set") (aHB X.K X.w):=by
 intro pins s σ H xs us Q I r h;obtain⟨p,ns,rfl,hp,hz,q⟩:=h;obtain⟨u,rfl,ru⟩:=vals1 r;cases ru;have hh:X.A.in1.in1.in1.handled=none:=I.ok.hd hc;obtain⟨its,rv,pl,_⟩:=I.list hp;have hI:IntsAre its ns:=intsAre_of rv;have hlen:its.length=ns.length:=IntsAre.length hI;obtain⟨ol,hol,hcl,nl,hdl⟩:=pl.isList;have hlS:p<s.heap.objs.size:=Heap.lt_size hol;refine PySem.zf (T:="list") (Φ:=aDJφ X.w s.heap.objs.size (ddI ns)) ⟨ol,hol,hcl⟩ F.sub_list_set F.sub_list_frozenset (by decide)
  (λ h₁ A₁ E₁ Q₁ k q=>wpAny_pyIter_list (s:={s with heap:=h₁}) (items:=its.toArray) ⟨ol,k _ _ hol,hcl,nl,hdl⟩ q) (λ R hR=>?_) λ h' tk g1 g2=>?_
 ·generalize hled:(!X.w.params.followText "set-order")=led at hR ⊢
  have hS:(s.heap.push (bz #[] 0 (.fresh 0 0 led))).get? s.heap.objs.size=some (bz #[] 0 (.fresh 0 0 led)):=Heap.get?_push_size _ rfl;have hl1:(s.heap.push (bz #[] 0 (.fresh 0 0 led))).IsList p its.toArray:=⟨ol,Heap.get?_push_of_some _ hol,hcl,nl,hdl⟩;have hneI:p≠(s.heap.push (bz #[] 0 (.fresh 0 0 led))).objs.size:=by rw[Heap.size_push];exact Nat.ne_of_lt (Nat.lt_succ_of_lt hlS)
  have hSf:s.heap.objs.size∉[(s.heap.push (bz #[] 0 (.fresh 0 0 led))).objs.size,p]:=by
   rw[Heap.size_push];simp only[List.mem_cons,List.not_mem_nil,or_false,not_or];exact⟨Nat.ne_of_lt (Nat.lt_succ_self _),Nat.ne_of_gt hlS⟩
  refine aCC ((Walks.list hh _ p hneI its.toArray).toS) hSf hI (by simp) (by simpa[hlen]using hz) led (its.toArray.size-0) 0 _ (by simp) (Nat.zero_le _) ⟨⟨_,Heap.get?_push_size _ rfl,rfl,rfl⟩,(hl1.push _)⟩
   ⟨#[],0,_,Heap.get?_push_of_some _ hS,fK.fresh led,rfl,[],rfl,List.Perm.refl _⟩ λ s' hm hS'=>?_
  obtain⟨h',g',d',tk',os'⟩:=s';have eg:g'=s.gens:=hm.gens;have ed:d'=s.drawn:=hm.drawn;have eo:os'=s.os:=hm.os;subst eg;subst ed;subst eo;refine hR h' tk' (by unfold aDJφ;rw[hled];exact hS') λ b o e=>hm.heap b o ?_ (Heap.get?_push_of_some _ (Heap.get?_push_of_some _ e))
  have hb:=Heap.lt_size e;rw[Heap.size_push];simp only[List.mem_cons,List.not_mem_nil,or_false,not_or];exact⟨Nat.ne_of_lt hb,Nat.ne_of_lt (Nat.lt_succ_of_lt hb)⟩
 ·have hfr:H s.heap.objs.size=none:=I.hok.fresh (Nat.le_refl _)
  obtain⟨es,ep,t,ge,r⟩:=id g1;exact⟨.ref s.heap.objs.size,upd H s.heap.objs.size (.ext (aDJφ X.w s.heap.objs.size (ddI ns))),I.laid (t':=tk) g2 (Nat.le_refl _) ⟨g1,⟨_,ge⟩,λ h1 h2 ⟨es,ep,t,e1,e2⟩ k=>⟨es,ep,t,k _ e1,e2⟩⟩,rfl,q _ _ (bO hfr _) ao hfr⟩
def aDW(w:World):List V->Hp->VK->Prop:=λ xs H Q=>∃a ks,xs=[.ref a]/\H a=some (.ext (aDJφ w a ks))/\ks.length<64/\New H (.lst ((sortI ks).map V.int)) Q
theorem ints_of:∀(tks:List (Int×Tok)),IntsAre (tks.map λ p=>Value.int p.1 p.2) (tks.map (·.1))
 |[]=>.nil
 |p::r=>.cons _ _ (ints_of r)
theorem yC(hc:X.calm=true):bx X (.builtin "sorted") (aDW X.w):=by
 intro pins s σ H xs us Q I r h;obtain⟨a,ks,rfl,ha,h64,q⟩:=h;obtain⟨u,rfl,ru⟩:=vals1 r;cases ru;obtain⟨⟨es,ep,t,e1,e2,e3,tks,hk,e4⟩,_,_⟩:=I.hok a _ ha;have hsz:es.size=ks.length:=by rw[<-Array.length_toList,e4.length_eq,List.length_map,<-hk,List.length_map]
 have hh:X.A.in1.handled=none:=I.ok.hd hc;refine jk (za (aFJ (ep:=ep) e2 e3) hh e1 (by rw[hsz,sizeLine_eq];omega) λ h1 tk vs1 k0 k1 k2 k3=>?_);have hperm:(nM X.w a ep es).toList.Perm (tks.map aC8):=(lu X.w a ep es).trans e4;obtain⟨zs,z1,z2⟩:=jr (f:=aC8) hperm rfl;have hvs:vs1=zs.map λ p=>Value.int p.1 p.2:=by
  have e5:(nM X.w a ep es).toList.map (·.2)=zs.map λ p=>Value.int p.1 p.2:=by rw[z2,List.map_map];rfl
  have hlen:(nM X.w a ep es).toList.length=es.size:=by rw[(lu X.w a ep es).length_eq,Array.length_toList]
  rw[<-e5];refine List.ext_getElem (by rw[k2,List.length_map,hlen]) λ i g1 g2=>?_
  have:=k3 i _ (List.getElem?_eq_getElem g1)
  rw[<-Array.getElem?_toList,<-List.getElem?_map,List.getElem?_eq_getElem g2]at this;exact(Option.some.inj this).symm
 subst hvs;have hps:(zs.map (·.1)).Perm ks:=by rw[<-hk];exact z1.map _
 have hss:sortI (zs.map (·.1))=sortI ks:=PySem.W.ksm_same (((sortI_perm _).trans hps).trans (sortI_perm ks).symm) (gk _) (gk _);refine xK (s:={s with heap:=h1,toks:=tk}) (ints_of zs) (by rw[k2];omega) λ out h' e a1 a2 a3=>?_
 rw[hss]at a1;have hle:s.heap.objs.size<=h1.objs.size:=Nat.le_of_lt k0;have hfr:H h1.objs.size=none:=I.hok.fresh hle;exact⟨.ref h1.objs.size,upd H h1.objs.size (.lst ((sortI ks).map V.int)),I.laid (t':=tk) (λ b o e=>a2 b o (k1 b o e)) hle ⟨by rw[List.length_map,(sortI_perm ks).length_eq];exact Nat.le_trans (Nat.le_of_lt h64) (by decide),out,e,a1,a3⟩,rfl,q.at hfr⟩
end
def jU:List D->Rs D
 |[.lst l]=>match intsOf l with
  |some ns=>if ns.length<64 then .ok (.lst ((sortI (ddI ns)).map .int))else .st
  |none=>.st
 |_=>.st
section
variable{C:Ct}{pos pos2 p p2:Pos}{m:Mode}{a:Expr}{ga:En->Rs (List D)}
theorem u9(hm:C.mg "sorted"=none)(hm2:C.mg "set"=none)(ha:SA C m [a] ga)(he:∀i,starEach [a] (C.X i).env=[(false,eval a (C.X i).env)]:=by intro _;rfl)(he2:∀i,starEach [Expr.Call (.Name "set" p2) [a] [] pos2] (C.X i).env=[(false,eval (.Call (.Name "set" p2) [a] [] pos2) (C.X i).env)]:=by intro _;rfl)(hg:∀i,Gl (C.X i) "sorted":=by intro _;rfl)(hv:bootBuiltins "sorted"=some (.builtin "sorted"):=by decide+kernel)(hg2:∀i,Gl (C.X i) "set":=by intro _;rfl)(hv2:bootBuiltins "set"=some (.type "set"):=by decide+kernel):
  SE C (some []) (.Call (.Name "sorted" p) [.Call (.Name "set" p2) [a] [] pos2] [] pos) (opA jU ga):=by
 obtain⟨t,h1,h2⟩:=ha;have hw:∀i,(C.X i).w=C.w:=λ i=>(C.cx i).2.1
 refine⟨tCB (aDW C.w) (gZ (tCB (aHB C.K C.w) t) lA),λ i=>jX (by rw[<-hw i];exact yC (C.calm i)) (hg i) (by rw[(C.cx i).2.2.2.1];exact hm) hv
  (aZ (lr (by rw[<-C.hK i,<-hw i];exact aCd (C.calm i)) (hg2 i) (by rw[(C.cx i).2.2.2.1];exact hm2) hv2 (h1 i) (by decide) (by decide) (he i) rfl) cF (he2 i)) (by decide) (by decide) (he2 i) rfl,λ τ σ H ρ lab Q R W=>?_⟩
 refine h2 τ σ H ρ lab _ R (W.bd.imp λ ds _ w xs H1 s1 r1=>?_);obtain⟨z,ez,w⟩:=w.okD;unfold jU at ez;split at ez
 ·obtain⟨v,rfl,rd⟩:=r1.one_inv
  obtain⟨b,ys,rfl,hb,mb,rb⟩:=rd.lst_inv;split at ez
  ·rename_i ns e
   split at ez
   ·rename_i hl
    cases ez;rw[gO e]at rb;have ey:=rb.ints_of;subst ey;refine⟨b,ns,rfl,SqL.of hb,hl,λ c H2 s2 hc2 hn2=>⟨c,ddI ns,rfl,hc2,Nat.lt_of_le_of_lt (aEh ns) hl,λ q H3 s3 hq hn3=>w _ H3 ((s1.trans s2).trans s3) (.lst hq (.inl ((s1.trans s2).free hn3)) Rps.ints)⟩⟩
   ·cases ez
  ·cases ez
 ·cases ez
end
abbrev aKF:=List (Str×(List D->Rs D))
def fnOf(tab:aKF):Rs D->Option (List D->Rs D)
 | .ok (.fn x)=>tab.lookup x
 |_=>none
section
variable{C:Ct}{m:Mode}{e:Expr}{es:List Expr}{ga:En->Rs (List D)}{pos p:Pos}{n i:Nat}{y:Str}{tab:aKF}
end
section
variable{K:PySem.W.Frag}{G:Gx}{wi wi2:TI}{fi fi2:En->Rs (List D)}{js:List (Option Nat)}{ks ks2:List Nat}{g g2:TG}{fg fg2:D->En->Rs En}{tt tt2:TT}{ft ft2:En->Rs Bool}{te:TE}{fe:En->Rs D}
end
section
variable{C:Ct}{pos:Pos}{elt tg iter tg2 iter2:Expr}{ifs ifs2:List Expr}{sc:Scope}{N:List Str}{js:List (Option Nat)}{ks ks2:List Nat}{fi fi2:En->Rs (List D)}{fg fg2:D->En->Rs En}{ft ft2:En->Rs Bool}{fe:En->Rs D}
end
section
variable{C:Ct}{m:Mode}{a:Expr}{ga:En->Rs (List D)}{elts:List Expr}{x1:Nat}{ps p pos:Pos}
end
end VL
namespace HT
open PySem PySem.Spec PyProof.Rows
section
variable{prog:Program}{w:World}{A:Around}{E:Value->Shared->Prop}{s:Shared}
end
end HT
namespace VL
open PySem PySem.Spec PyProof.Rows L2
section
variable{C:Ct}{m:Mode}{e:Expr}{fe:En->Rs D}{pos p2:Pos}
end
section
variable{C:Ct}{elts:List Expr}{n i:Nat}{x:Str}{p lpos pos pos':Pos}
end
end VL
namespace PySem.AutoSeq1
end PySem.AutoSeq1
namespace VL
open PySem PySem.Spec PyProof.Rows L2
def zP:D->D->Rs D
 | .bl a,.bl b=>.ok (.bl (a !=b))
 |_,_=>.st
theorem aFp:OpR X (compareOp .IsNot) (λ x y H Q=>∃b c,x= .bl b/\y= .bl c/\Q (.bl (b !=c)) H):=by
 intro pins s σ H x y v u Q I rx ry h;obtain⟨b,c,rfl,rfl,q⟩:=h;cases rx;cases ry;exact isnot_bool (aAx I q rfl)
theorem aGN(h:zP d e= .ok z):∃a b,d= .bl a/\e= .bl b/\z= .bl (a !=b):=by
 unfold zP at h;split at h
 ·cases h;exact⟨_,_,rfl,rfl,rfl⟩
 ·cases h
theorem aFk{K:PySem.W.Frag}:OpS K (λ x y H Q=>∃b c,x= .bl b/\y= .bl c/\Q (.bl (b !=c)) H) zP:=by
 intro A x y d e H Q z rx ry ez q;obtain⟨a,b,rfl,rfl,rfl⟩:=aGN ez;have e1:=rx.bl_inv;have e2:=ry.bl_inv;subst e1 e2;exact⟨_,_,rfl,rfl,q _ H (aU.refl H) (.bl _)⟩
section
variable{C:Ct}{m1 m2:Mode}{a b:Expr}{fa fb:En->Rs D}{pos:Pos}
theorem aBP(ha:SE C m1 a fa)(hb:SE C m2 b fb):ST C (.Compare a [.IsNot] [b] pos) (tsb (op2 zP fa fb)):=lC (λ _=>aFp) aFk ha hb
end
section
variable{C:Ct}{pos apos cpos p:Pos}{e:Expr}{fe:En->Rs D}{i:Nat}{x:Str}{m:Mode}
end
def Enr(K:PySem.W.Frag)(x:Str)(st:Stmt)(f:Addr)(fd:FuncData):Prop:=L2.Fun K x x st f fd/\PySem.W.nsIn K mainGlobals x=some (some (.ref f))
theorem enr{K:PySem.W.Frag}{st:Stmt}{oc kV dc pm cd ct:Value}(a:PySem.W.nsIn K mainGlobals x=some (some (.ref f)))
  (l:K.lookup f=some ⟨oc,od,.func (PySem.W.fnOf x x (mF st) (cM st) (aG st) .none kV dc pm an cd ct),sl⟩)(c:PySem.W.codeIn K cd x=true)(k:PySem.W.keepIn K (.ref f)=true):∃f fd,Enr K x st f fd:=⟨f,_,aIq (st:=st) l c k,a⟩
structure Dnr(K:PySem.W.Frag)(mg:Str->Option Value)(x:Str)(st:Stmt)(ps:List Str)(f:Addr)(d:FuncData):Prop where
 F:L2.Fun K x x st f d
 m:mg x=some (.ref f)
 b:L2.Binds K d ps []
section
variable{C:Ct}
theorem au{st:Stmt}(hF:cg C.prog C.w C.K C.mg C.base (CX1 C.prog C.w) k fn fd ps (spF C.K C.G.cl n F))(D:Dnr C.K C.mg x st ps fn fd)(ha:SA C m (e::es) ga)(hr:k<=C.k:=by exact Nat.le_of_ble_eq_true rfl)(hg:∀i,Gl (C.X i) x:=by intro _;rfl)
  (hn:∀ρ ds,ga ρ= .ok ds->ds.length=n:=by repeat (first|exact λ _ _ h=>aGG h|apply aEC))(hdb:(x==("__debug__":Str))=false:=by decide)(he:∀i,starEach (e::es) (C.X i).env=(false,eval e (C.X i).env)::starEach es (C.X i).env:=by intro _;rfl)
  (hpl:∀i,(backTo pos (starEach es (C.X i).env)).any (·.1)=false:=by intro _;rfl):SE C (some []) (.Call (.Name x p) (e::es) [] pos) (aR F ga):=aFV hF hr D.m D.F.kp D.b ha hn hdb he hpl hg
end
theorem bf{P:Program}{w:World}{K:PySem.W.Frag}{st:Stmt}(D:Dnr K mg q st ps fn fd)(S:ak N ps (aG st))(hb:N.Nodup->∀cdv A outer s H E hr,SSs (ctD P w K mg base N q (aG st) fn cdv A outer s H E k hr) (cM st) f)(hn:ps.length=n:=by rfl)(hF:fL N.length f=FF:=by rfl):
  cg P w K mg base (CX1 P w) (k+1) fn fd ps (spF K (aq mg) n FF):=aGa D.F S (hb S.nd) hn hF
section
variable{prog:Program}{w:World}{A:Around}{R:Result->Shared->Prop}{I S:Addr}{fp wr:List Addr}{n:Nat}{P:Nat->Value->Prop}{St:Nat->Heap->Prop}{bt:Nat->Nat->Bool}
end
section
variable{prog:Program}{w:World}{A:Around}{E:Value->Shared->Prop}{s:Shared}{Q:Value->Shared->Prop}
end
def aBG(items:Array Value)(nss:Nat->List Int)(h:Heap):Prop:=∀i v,items[i]? =some v->∃x its,v= .ref x/\IsTup h x its/\IntsAre its.toList (nss i)
def aAR(items:Array Value):List Addr:=items.toList.filterMap λ v=>match v with| .ref x=>some x|_=>none
theorem aAQ{items:Array Value}{i:Nat}(h:items[i]? =some (Value.ref x)):x∈aAR items:=by
 unfold aAR;rw[List.mem_filterMap];exact⟨.ref x,by have:=List.mem_of_getElem? (l:=items.toList) (i:=i) (by simpa using h);exact this,rfl⟩
theorem aBG.keep(T:aBG items nss h)(k:∀b∈aAR items,∀o,h.get? b=some o->h'.get? b=some o):aBG items nss h':=λ i v e=>by
 obtain⟨x,its,rfl,⟨o,h1,h2⟩,h3⟩:=T i v e;exact⟨x,its,rfl,⟨o,k x (aAQ e) o h1,h2⟩,h3⟩
section
variable{C:Ct}{pos p:Pos}{a b:Expr}{ga:En->Rs (List D)}{m:Mode}
end
section
variable{prog:Program}{w:World}{A:Around}{E:Value->Shared->Prop}{s:Shared}{z TI TO i1 i2 l1 l2:Addr}{k:Nat}{xs ys:Array Value}{x y a b:Value}
end
section
variable{C:Ct}{m:Mode}{a b:Expr}{ga:En->Rs (List D)}{elts:List Expr}{x1:Nat}{ps p pos:Pos}
end
def putN(ds:List D):D->Option Nat
 | .int n=>ixN ds.length n
 |_=>none
def aAW(i:Nat)(fk fe:En->Rs D):En->Ou:=λ ρ=>match ρ[i]? with
 |some (.ow (.lst ds))=>(fe ρ).bo λ d=>(fk ρ).bo λ k=>match putN ds k with
  |some j=>.nx (ρ.set i (.ow (.lst (ds.set j d))))
  |none=>.st
 |_=>.st
theorem aCG(h:putN ds k=some j):∃n,k= .int n/\ixN ds.length n=some j:=by
 cases k with
 |int n=>exact⟨n,rfl,h⟩
 |_=>cases h
section
variable{C:Ct}{pos tpos p:Pos}{ek e:Expr}{fk fe:En->Rs D}{x:Str}{m m1:Mode}
theorem aBQ(i:Nat)(hk:SE C m1 ek fk)(he:SE C m e fe)(hm:okN m=true:=by rfl)(hN:∀j,(C.X j).N[i]? =some x:=by intro _;rfl)(hv:∀j,Vis (C.X j).env.scope x:=by intro _;first|exact Or.inl rfl|exact Or.inr (Or.inl rfl)|exact Or.inr (Or.inr rfl))(hd:(x==("__debug__":Str))=false:=by decide)
  (hcd:(x==("__classdict__":Str))=false:=by decide)(ha:∀j v,assign (.Subscript (.Name x p) ek tpos) (C.X j).env v=(do
   let ov <-holding [v] (eval (.Name x p) (C.X j).env);let iv <-holding [v,ov] (eval ek (C.X j).env)
   standAt tpos
   holding [v,ov,iv] (setItem ov iv v)
   release [v,ov,iv] []):=by intro _ _;rfl)(hs:∀j,swapsWithSole [.Subscript (.Name x p) ek tpos] e pos.line (C.X j).env=pure false:=by intro _;rfl)(hw:∀j,swappedStores [.Subscript (.Name x p) ek tpos] e (C.X j).env=pure none:=by intro _;rfl)
  (h1:∀j,(assignEach [.Subscript (.Name x p) ek tpos] (C.X j).env).map (·.2)=[assign (.Subscript (.Name x p) ek tpos) (C.X j).env]:=by intro _;rfl):
  SS C (.Assign [.Subscript (.Name x p) ek tpos] e pos) (aAW i fk fe):=by
 obtain⟨tk,k1,k2⟩:=hk;obtain⟨te,e1,e2⟩:=he;refine⟨yO te (aJx (km i) tk aHA),λ j=>aD7 (e1 j) (aHy (fD (hN j) (hv j) hd hcd) (k1 j) set_list (ha j)) (hs j) (hw j) (h1 j),λ τ σ H ρ lab De R W=>?_⟩;unfold aAW at W;cases es:ρ[i]? with
 |none=>rw[es]at W;exact False.elim W
 |some s=>
  rw[es]at W;split at W
  ·rename_i ds hs
   cases hs;rcases R.sl i _ es with z|⟨v,ev,hv'⟩
   ·cases z
   ·obtain⟨hv1,htop⟩:=hv'
    obtain⟨a0,ea0,la0⟩:=htop rfl;subst ea0;cases hv1 with
    |lst h mm r=>
     rename_i xs;refine e2 τ σ H ρ lab _ R (W.bo.imp λ d _ w y H2 s2 r2=>⟨.ref a0,ev,?_⟩);refine k2 τ σ H2 ρ lab _ (R.up s2) (w.bo.imp λ k _ w kv H3 s3 r3=>?_);cases hj:putN ds k with
     |none=>rw[hj]at w;exact False.elim w
     |some j=>
      rw[hj]at w;dsimp only at w;obtain⟨n,rfl,hj⟩:=aCG hj;have ey:=r3.int_inv;subst ey;have h3:H3 a0=some (.lst xs):=(s2.trans s3) _ _ h;refine⟨a0,xs,n,j,rfl,rfl,h3,by rw[r.length];exact hj,?_⟩;obtain⟨R',r'⟩:=R.fresh (P:=λ k=>k=1) rfl (λ k hk=>beq_iff_eq.mp (lw hm k hk)) s2 r2;have la:(bc H 1 lab a0).1=i+2:=by rw[bM h];exact la0
      have B:kJ a0 H3 (upd H3 a0 (.lst (xs.set j y))):=λ b' o ne hb=>by rw[aa ne];exact hb
      refine w σ _ _ ((R'.up s3).mut ev h3 rfl la B ⟨.lst ao (.inr la) ?_,λ _=>⟨a0,rfl,la⟩⟩);have ra:Rps C.K (λ p=>((bc H 1 lab p).1=1\/(bc H 1 lab p).1=i+2)/\p≠a0) H3 (xs.set j y) (ds.set j d):=by
       refine Rps.set ((r'.up s3).wk λ p o e z=>⟨.inl z,λ q=>?_⟩) j (r.mono (s2.trans s3) λ p o e z=>⟨by rw[bM e];exact z.1,z.2⟩);subst q;rw[la]at z;lia
      exact ra.but B h3 rfl λ z=>z.2 rfl
  ·exact False.elim W
end
section
variable{C:Ct}{m1 m2:Mode}{a b:Expr}{fa fb:En->Rs D}{pos:Pos}
end
section
variable{C:Ct}{pos tpos p:Pos}{ek e:Expr}{fk fe:En->Rs D}{x:Str}{m m1:Mode}
end
section
variable{K:PySem.W.Frag}{G:Gx}{wi:TI}{fi:En->Rs (List D)}{g:TG}{fg:D->En->Rs En}{tt:TT}{ft:En->Rs Bool}{tk tv:TE}{fk fv:En->Rs D}{js:List (Option Nat)}
end
section
variable{C:Ct}{pos:Pos}{kx vx tg iter:Expr}{ifs:List Expr}{sc:Scope}{N:List Str}{js:List (Option Nat)}{ks:List Nat}{fi:En->Rs (List D)}{fg:D->En->Rs En}{ft:En->Rs Bool}{fk fv:En->Rs D}
end
section
variable{C:Ct}{m m1:Mode}{o e:Expr}{fo fe:En->Rs D}{apos cpos:Pos}
end
section
variable{prog:Program}{w:World}{A:Around}{E:Value->Shared->Prop}{s:Shared}
theorem z9{l:Addr}{vs:List Value}{Q:List Value->Shared->Prop}(hl:IsTup s.heap l vs.toArray)
  (h:Q vs {s with heap:=(s.heap.push (seqObj "list" #[] 0)).update s.heap.objs.size (Obj.mapSeq (·++vs.toArray))})(hsz:vs.length<=sizeLine):
  wpAny (model prog w) A (collect (.ref l)) Q E s:=by
 obtain⟨o,ho,hc,n,hd⟩:=hl;unfold collect;refine wpAny_bind (wpAny_runValue (codeAny_builtin entry_proto_collect' ?_));show wpAny _ _ (do again (.builtin "list.__iadd__" ⟨[<-newList [],.ref l],[]⟩)) _ _ s;refine wpAny_bind (wpAny_newList (wpAny_pure ⟨Code.quiet_builtin _ (by decide+kernel),codeAny_builtin entry_list_iadd' ?_⟩));show wpAny _ _ (Builtin.List.listExtendWith (.ref s.heap.objs.size) (.ref l) (.ref s.heap.objs.size)) _ _ {s with heap:=s.heap.push (seqObj "list" #[] 0)};unfold Builtin.List.listExtendWith;have ho':(s.heap.push (seqObj "list" #[] 0)).get? l=some o:=Heap.get?_push_of_some _ ho;refine wpAny_bind (wpAny_typeOf (T:="tuple") ⟨o,ho',hc⟩ ?_);have ht:(Value.type "tuple"==Value.type "tuple")=true:=by rfl
 rw[if_pos (by rw[ht];simp)];refine wpAny_bind (listItems_at ho' hd ?_);refine wpAny_bind (listItems_at (xs:=#[]) (n:=0) (Heap.get?_push_size _ rfl) rfl ?_);rw[if_neg (by simp)];refine wpAny_bind (listUpdate_at (xs:=#[]) (n:=0) (Heap.get?_push_size _ rfl) rfl ?_ (Nat.zero_le _) (by show(#[]++vs.toArray).size<=sizeLine+1;simp only[Array.size_append,List.size_toArray,List.length_nil];omega));refine wpAny_pure ?_;show wpAny (model prog w) A (do
   let o <-load s.heap.objs.size
   match o.data with
   | .seq xs _=>pure xs.toList
   |_=>unsupported "internal:collect") Q E {s with heap:=(s.heap.push (seqObj "list" #[] 0)).update s.heap.objs.size (Obj.mapSeq (·++vs.toArray))}
 refine wpAny_bind (wpAny_load (get?_update_seq (Heap.get?_push_size _ rfl) _) ?_);show wpAny _ _ (pure ((#[]:Array Value)++vs.toArray).toList) Q E _;rw[show((#[]:Array Value)++vs.toArray).toList=vs by simp];exact wpAny_pure h
end
section
variable{X:Cx}
def w5(K:PySem.W.Frag):List V->Hp->VK->Prop:=λ xs H Q=>∃p vs nss,xs=[.ref p]/\SqT K H p vs/\fU K H vs nss/\vs.length<64/\aBt H vs nss Q
theorem uw:bx X (.builtin "sorted") (w5 X.K):=by
 intro pins s σ H xs us Q I r h;obtain⟨p,vs,nss,rfl,hp,ht,h64,q⟩:=h;obtain⟨u,rfl,ru⟩:=vals1 r;cases ru;obtain⟨its,rv,pl,hz⟩:=I.tuple hp;have e:=ht.vals rv;subst e;have hl2:(vs.map oF).length=nss.length:=by rw[List.length_map];exact ht.len
 refine jk (z9 pl ?_ (by rw[List.length_map];exact hz));refine rZ I ht h64 q ⟨_,_,rfl,?_,λ b o e=>?_⟩ (List.Perm.refl _) ?_
 ·rw[Heap.size_update,size_push']
  exact Nat.le_succ _
 ·rw[Heap.get?_update_ne _ _ _ _ (Nat.ne_of_lt (Heap.lt_size e))]
  exact Heap.get?_push_of_some _ e
 ·exact(List.map_fst_zip (by lia)).symm
end
def lE:List D->Rs D
 |[.tup l]=>match jh l with
  |some nss=>if nss.length<64 then .ok (.lst ((qJ nss).map tupI))else .st
  |none=>.st
 |_=>.st
theorem aBA{K:PySem.W.Frag}:aFA K (w5 K) lE:=by
 intro A xs ds H Q z r ez q;unfold lE at ez;split at ez
 ·cases r with
  |cons h r=>
   cases r;cases h with
   |tup h r=>
    split at ez
    ·rename_i nss e
     obtain⟨e1,e2⟩:=kj e;subst e1;split at ez
     ·rename_i hl
      cases ez;have ht:=rO r e2;exact⟨_,_,nss,rfl,h,ht,by rw[ht.len];exact hl,yS ht q⟩
     ·cases ez
    ·cases ez
 ·cases ez
section
variable{C:Ct}{pos p p2 pos2:Pos}{m:Mode}{a:Expr}{ga:En->Rs (List D)}
theorem aAG(hm:C.mg "sorted"=none)(ha:SA C m [a] ga)(he:∀i,starEach [a] (C.X i).env=[(false,eval a (C.X i).env)]:=by intro _;rfl)(hg:∀i,Gl (C.X i) "sorted":=by intro _;rfl)(hv:bootBuiltins "sorted"=some (.builtin "sorted"):=by decide+kernel):SE C (some []) (.Call (.Name "sorted" p) [a] [] pos) (opA lE ga):=by
 obtain⟨t,h1,h2⟩:=ha;refine⟨_,λ i=>jX (r:=w5 C.K) (by rw[<-C.hK i];exact uw) (hg i) (by rw[(C.cx i).2.2.2.1];exact hm) hv (h1 i) (by decide) (by decide) (he i) rfl,aBU aBA h2⟩
end
def xU(K:PySem.W.Frag)(x:Str)(Pt:Addr):Bool:=match PySem.W.nsIn K mainGlobals x with
 |some (some (.ref f))=>(match K.lookup f with
  |some ⟨_,_,.func fd,_⟩=>(match fd.code with| .ref c=>PySem.W.codeHdIn K c Pt|_=>false)
  |_=>false)&&(K.lookup Pt).isNone
 |_=>false
theorem aCZ{K:PySem.W.Frag}{h:Heap}{mg:Str->Option Value}{fa Pt:Addr}{x:Str}(X:K.In h)(G:h.Ns mainGlobals mg)(hm:mg x=some (.ref fa))(e:xU K x Pt=true)
  {o:Obj}{fd:FuncData}(lk:K.lookup fa=some o)(hd:o.data= .func fd):K.lookup Pt=none/\∃c,fd.code= .ref c/\PySem.W.codeHdIn K c Pt=true:=by
 unfold xU at e;split at e
 ·rename_i f hf
  have e1:=(PySem.W.mg_of X G hf).symm.trans hm;cases e1;rw[Bool.and_eq_true]at e;refine⟨by simpa using e.2,?_⟩;have e2:=e.1;rw[lk]at e2;split at e2
  ·rename_i fd' _ q
   have q2:=Option.some.inj q;rw[q2]at hd;have hd2:Data.func fd'=Data.func fd:=hd;cases hd2;split at e2
   ·rename_i c hc
    exact⟨c,hc,e2⟩
   ·cases e2
  ·cases e2
 ·cases e
theorem aGH{P:Program}{w:World}{K:PySem.W.Frag}{h:Heap}{mg:Str->Option Value}{fa Pt:Addr}{fd:FuncData}{k n:Nat}{x:Str}{N:List Str}{st:Stmt}{f:En->Ou}{F:List D->Rs D}(X:K.In h)(G:h.Ns mainGlobals mg)
  (hB:xU K "law" Pt=true){ps:List Str}(e:Dnr K mg "law" st ps fa fd)(S:ak N [x] (aG st))
  (hbind:∀(kV doc pm:Value) (an:Option Addr) (cdv ct:Value) (s:Shared) (u:Value),BindsTo s (PySem.W.fnOf "law" "law" (mF st) (cM st) (aG st) .none kV doc pm an cdv ct) ⟨[u],[]⟩ [(x,u)])
  (body:∀(base:Heap) (c:Addr) (s:Shared) (H:Hp) (hr:dG k (callerA.deeper (envOfC "law" (aG st) s.heap.objs.size fa (.ref c)))),qi (cxW P w K mg base N "law" (aG st) fa (.ref c) callerA s H Pt) Pt->List.Nodup N->
   SSs (ctW P w K mg base N "law" (aG st) fa (.ref c) callerA s H Pt k hr) (cM st) f)
  (hF:F=fL N.length f)(tru:∀ns:List Int,ns.length<=n->F [.scr ns]= .ok (.bl true)):aBu P w K mg fa Pt k n:=by
 obtain⟨oc,od,kV,doc,pm,an,cdv,ct,osl,e1,lk,hcd⟩:=e.F.ex;obtain⟨h1,c,h2,h3⟩:=aCZ X G e.m hB lk rfl;subst e1;obtain rfl:cdv= .ref c:=h2;exact⟨x,"law","law",_,_,_,_,kV,doc,pm,ct,oc,an,od,c,osl,N,h1,h3,lk,hcd,S,λ s u=>hbind kV doc pm an _ ct s u,λ a ns hl base s H hr Lx hO hS=>
  aEF (body base c s H hr Lx S.nd) (by rw[<-hF];exact tru ns hl) (.cons (.scr (aHi hO hS)) .nil)⟩
section
variable{ρ:En}{i:Nat}{f g:En->Rs D}{fb gb:En->Rs Bool}{ga:En->Rs (List D)}{u v:En->Ou}{d e:D}
@[simp] theorem varD_ap:cP i ρ=match ρ[i]? with
 |some (.sh d)=>.ok d
 |some (.nw d)=>.ok d
 |some (.ow d)=>.ok d
 |some (.oz d)=>.ok d
 |some (.o2 l)=>.ok (.lst (l.map .lst))
 |_=>.st:=aM rfl
@[simp] theorem aBI:aD i ρ=match ρ[i]? with
 |some (.sh d)=>.ok d
 |some (.nw d)=>.ok d
 |_=>.st:=aM rfl
@[simp] theorem varN_ap:iG i ρ=match ρ[i]? with
 |some (.nw d)=>.ok d
 |_=>.st:=aM rfl
@[simp] theorem varO_ap:rN i ρ=match ρ[i]? with
 |some (.ow d)=>.ok d
 |some (.o2 l)=>.ok (.lst (l.map .lst))
 |_=>.st:=aM rfl
@[simp] theorem aHV:cD d ρ= .ok d:=aM rfl
@[simp] theorem xJ:aF ρ= .ok []:=aM rfl
@[simp] theorem dR:aA f ga ρ=(f ρ).bd λ d=>(ga ρ).bd λ ds=>.ok (d::ds):=aM rfl
@[simp] theorem szl:sizeLine=16777216:=sizeLine_eq
@[simp] theorem aFE:cA ga ρ=(ga ρ).bd λ ds=>if ds.length<=16777216 then .ok (.tup ds)else .st:=by unfold cA;rw[szl]
@[simp] theorem aGF:fM ga ρ=(ga ρ).bd λ ds=>if ds.length<=16777216 then .ok (.lst ds)else .st:=by unfold fM;rw[szl]
@[simp] theorem aA7:okD (.ok d)= .ok d:=aM rfl
@[simp] theorem aDo:op2 fd f g ρ=(f ρ).bd λ x=>(g ρ).bd λ y=>okD (fd x y):=aM rfl
@[simp] theorem aI2:op1 fd f ρ=(f ρ).bd λ x=>okD (fd x):=aM rfl
@[simp] theorem pL:opA fd ga ρ=(ga ρ).bd λ x=>okD (fd x):=aM rfl
@[simp] theorem lU:aR F ga ρ=(ga ρ).bd F:=aM rfl
def aKA(d:D)(r:Rs D):Rs D:=match d with
 | .bl true=>r
 | .bl false=>.ok (.bl false)
 |_=>.st
@[simp] theorem aBs:aKA (.bl b) r=if b=true then r else .ok (.bl false):=by cases b<;>rfl
@[simp] theorem yI:uR f g ρ=(f ρ).bd λ d=>aKA d (g ρ):=aM rfl
@[simp] theorem notD_bl:aI3 (.bl b)= .ok (.bl (!b)):=aM rfl
def chR(d:D)(r:Rs D):Rs D:=match d with
 | .bl true=>r
 | .bl false=>.ok (.bl false)
 |_=>.st
@[simp] theorem chR_bl:chR (.bl b) r=if b=true then r else .ok (.bl false):=by cases b<;>rfl
@[simp] theorem chD_ap:chD fd fd' f g h ρ=(f ρ).bd λ x=>(g ρ).bd λ y=>(okD (fd x y)).bd λ z=>chR z ((h ρ).bd λ w=>okD (fd' y w)):=aM rfl
@[simp] theorem truD_bl:aH4 (.bl b)= .ok b:=aM rfl
@[simp] theorem blD_bl:blD (.bl b)= .ok b:=aM rfl
@[simp] theorem aH1:tst f ρ=(f ρ).bd aH4:=aM rfl
@[simp] theorem aH2:tsb f ρ=(f ρ).bd blD:=aM rfl
@[simp] theorem aIM:orT fb gb ρ=(fb ρ).bd λ k=>if k=true then .ok true else gb ρ:=aM rfl
@[simp] theorem aFw:pM fb ρ=(fb ρ).bd λ k=>.ok (!k):=aM rfl
@[simp] theorem aW:aY u v ρ=(u ρ).sq v:=aM rfl
@[simp] theorem oE:retS f ρ=(f ρ).bo .rt:=aM rfl
@[simp] theorem dropS_ap:zY f ρ=(f ρ).bo λ _=>.nx ρ:=aM rfl
@[simp] theorem aAu:ifS fb u v ρ=(fb ρ).bo λ k=>if k=true then u ρ else v ρ:=aM rfl
@[simp] theorem aFO:cY i f ρ=(f ρ).bo λ d=>.nx (ρ.set i (.sh d)):=aM rfl
@[simp] theorem aFP:lF i f ρ=(f ρ).bo λ d=>.nx (ρ.set i (.nw d)):=aM rfl
@[simp] theorem aBW:gh i f ρ=(f ρ).bo λ d=>.nx (ρ.set i (.ow d)):=aM rfl
@[simp] theorem aE7:gnm i d ρ= .ok (ρ.set i (.sh d)):=aM rfl
@[simp] theorem gnil_nil:iw [] ρ= .ok ρ:=aM rfl
@[simp] theorem gcons_cons:bF a b (d::ds) ρ=(a d ρ).bd (b ds):=aM rfl
@[simp] theorem gtup_tup:iU n b (.tup ds) ρ=if ds.length=n then b ds ρ else .st:=aM rfl
def nxO(r:Rs En):Ou:=match r with
 | .ok ρ=>.nx ρ
 |_=>.st
@[simp] theorem nxO_ok:nxO (.ok ρ)= .nx ρ:=aM rfl
@[simp] theorem asgS_ap:aEs f a ρ=(f ρ).bo λ d=>nxO (a d ρ):=aM rfl
@[simp] theorem itD_tup:itD (.tup l)= .ok l:=aM rfl
@[simp] theorem itD_lst:itD (.lst l)= .ok l:=aM rfl
@[simp] theorem aGM:dh f ρ=(f ρ).bd itD:=aM rfl
@[simp] theorem gH:dO ga a u ρ=(ga ρ).bo λ ds=>forL a u ds ρ:=aM rfl
def Ou.tn(o:Ou)(k:En->Ou):Ou:=match o with
 | .nx ρ2=>k ρ2
 | .ct ρ2=>k ρ2
 | .bk ρ2=>.nx ρ2
 |o=>o
@[simp] theorem rQ:(Ou.nx ρ).tn k=k ρ:=aM rfl
@[simp] theorem tn_rt:(Ou.rt d).tn k= .rt d:=aM rfl
def okE(r:Rs En)(k:En->Ou):Ou:=match r with
 | .ok ρ=>k ρ
 |_=>.st
@[simp] theorem tG:okE (.ok ρ) k=k ρ:=aM rfl
theorem dm:forL a u (d::ds) ρ=okE (a d ρ) λ ρ1=>(u ρ1).tn (forL a u ds):=by
 unfold forL;cases a d ρ with
 |ok ρ1=>simp only[tG];cases u ρ1<;>rfl
 |ex c=>rfl
 |st=>rfl
@[simp] theorem aDr:vN ρ= .ok none:=aM rfl
@[simp] theorem aDq:vM f ρ=(f ρ).bd λ d=>match d with
 | .int i=>.ok (some i)
 |_=>.st:=aM rfl
@[simp] theorem aBz:o8 f a b ρ=(f ρ).bd λ d=>(a ρ).bd λ l=>(b ρ).bd λ h=>okD (slD d l h):=aM rfl
@[simp] theorem aFM:slD (.tup l) a b= .ok (.tup (cutD l a b)):=aM rfl
@[simp] theorem aG0:bA f ρ=(f ρ).bd uC:=aM rfl
@[simp] theorem aG8:aG9 i u ρ=u (frz i ρ):=aM rfl
@[simp] theorem rngA_ap:cZ r ga ρ=(ga ρ).bd r:=aM rfl
@[simp] theorem raiseS_ap:wZ x ga ρ=(ga ρ).bo λ ds=>if ds.length<=16777216 then .ex x else .st:=by unfold wZ;rw[szl]
@[simp] theorem yesT_ap:je ρ= .ok true:=aM rfl
end
section
variable{d e:D}{i j:Int}{l m:List D}
theorem aG7(h:imm d=true):uC d= .ok d:=by unfold uC;rw[if_pos h]
@[simp] theorem gImm_int:uC (.int i)= .ok (.int i):=aM rfl
@[simp] theorem aEv:bQ (.int i) (.int j)= .ok (.int (i+j)):=aM rfl
@[simp] theorem aEu:bQ (.tup l) (.tup m)=if l.length+m.length<=16777216 then .ok (.tup (l++m))else .st:=by unfold bQ;rw[szl]
@[simp] theorem subD_int:qj (.int i) (.int j)= .ok (.int (i-j)):=aM rfl
theorem mD(h0:0<j)(h1:j<1073741824):gf (.int i) (.int j)= .ok (.int (i / j)):=by unfold gf i2;dsimp only;rw[if_pos (by simp[h0,h1])]
theorem lO(h0:0<j):pN (.int i) (.int j)= .ok (.int (i%j)):=by unfold pN i2;dsimp only;rw[if_pos (by simp[h0])]
theorem xN(h0: -(2^64)<i)(h1:i<2^64):jZ (.int i) (.int j)= .ok (.int (i*j)):=by unfold jZ;dsimp only;rw[if_pos (by simp only[Bool.or_eq_true,Bool.and_eq_true,decide_eq_true_eq];exact .inl ⟨h0,h1⟩)]
theorem aDx(h0: -(2^64)<j)(h1:j<2^64):jZ (.int i) (.int j)= .ok (.int (i*j)):=by unfold jZ;dsimp only;rw[if_pos (by simp only[Bool.or_eq_true,Bool.and_eq_true,decide_eq_true_eq];exact .inr ⟨h0,h1⟩)]
@[simp] theorem ltD_int:ltD (.int i) (.int j)= .ok (.bl (decide (i<j))):=aM rfl
@[simp] theorem leD_int:leD (.int i) (.int j)= .ok (.bl (decide (i<=j))):=aM rfl
@[simp] theorem gtD_int:gtD (.int i) (.int j)= .ok (.bl (decide (j<i))):=aM rfl
@[simp] theorem geD_int:geD (.int i) (.int j)= .ok (.bl (decide (j<=i))):=aM rfl
theorem aGE(ns ms:List Int):ltD (.tup (ns.map .int)) (.tup (ms.map .int))= .ok (.bl (HT.lexLt ns ms)):=by
 unfold ltD ltT i2;simp only[iT]
@[simp] theorem lenD_tup:gM [.tup l]= .ok (.int l.length):=aM rfl
@[simp] theorem lenD_lst:gM [.lst l]= .ok (.int l.length):=aM rfl
@[simp] theorem lenD_scr:gM [.scr x]= .ok (.int x.length):=aM rfl
@[simp] theorem tupleD_lst:cj [.lst l]= .ok (.tup l):=aM rfl
@[simp] theorem mmD_int:mmD f [.int i,.int j]= .ok (.int (f i j)):=aM rfl
@[simp] theorem ixD_tup:ixD (.tup l) (.int i)=atD l i:=aM rfl
@[simp] theorem ixD_lst:ixD (.lst l) (.int i)=atD l i:=aM rfl
@[simp] theorem ixD_scr:ixD (.scr x) (.int i)=atD (x.map .int) i:=aM rfl
theorem fJ{k:Nat}(h:l[k]? =some d):atD l (k:Int)= .ok d:=by
 have hk:=(List.getElem?_eq_some_iff.mp h).1;unfold atD atI ixN;rw[if_pos (by omega),if_pos (by omega)];simp[h]
theorem aEq(h0:0<=i)(h1:i<l.length):∃d,atD l i= .ok d/\d∈l/\l[i.toNat]? =some d:=by
 have hk:i.toNat<l.length:=by omega
 have e:=List.getElem?_eq_getElem hk;refine⟨_,?_,List.getElem_mem hk,e⟩
 have:=fJ e
 rwa [Int.toNat_of_nonneg h0]at this
@[simp] theorem atD_0{r:List D}:atD (d::r) 0= .ok d:=fJ (k:=0) rfl
@[simp] theorem atD_1{r:List D}:atD (d::e::r) 1= .ok e:=fJ (k:=1) rfl
@[simp] theorem eqR_int:eqR n (.int i) (.int j)= .ok (.bl (if n then !(i==j)else i==j)):=aM rfl
@[simp] theorem isD_bl:isD false (.bl a) (.bl b)= .ok (.bl (a==b)):=aM rfl
def knd:D->Bool
 | .set _=>false
 | .scr _=>false
 | .fn _=>false
 |_=>true
theorem xW(hT:T∈["bool","int","str","list","tuple","dict"])(h:knd d=true):lQ T d= .ok (.bl (aGP (tyD d) T)):=by
 have ht:tyD d∈["NoneType","bool","int","str","list","tuple","dict"]:=by cases d<;>simp_all [tyD,knd]
 unfold lQ mW;cases e:aGP (tyD d) T<;>simp[ht,hT]
def aIi:D->Bool
 | .int _=>true
 | .bl _=>true
 |_=>false
def aJr:D->Bool
 | .bl _=>true
 |_=>false
def pU:D->Bool
 | .tup _=>true
 |_=>false
theorem aGO(h:knd d=true):lQ "int" d= .ok (.bl (aIi d)):=by
 rw[xW (by simp) h];cases d<;>first|rfl|(simp[knd]at h)
theorem aES(h:knd d=true):lQ "bool" d= .ok (.bl (aJr d)):=by
 rw[xW (by simp) h];cases d<;>first|rfl|(simp[knd]at h)
theorem pR(h:knd d=true):lQ "tuple" d= .ok (.bl (pU d)):=by
 rw[xW (by simp) h];cases d<;>first|rfl|(simp[knd]at h)
@[simp] theorem isi_tuple_tup:lQ "tuple" (.tup l)= .ok (.bl true):=pR rfl
end
@[simp] theorem cI:fL n u ds=match u (bG n ds)with
 | .nx _=>.ok .non
 | .rt d=>.ok d
 | .ex c=>.ex c
 |_=>.st:=aM rfl
theorem jC(h0: -(2^62)<=j)(h1:j<2^62):dZ [.int j]= .ok (bB 0 j):=by unfold dZ;dsimp only;rw[if_pos ⟨h0,h1⟩]
theorem wV(h0: -(2^62)<=i)(h1:i<2^62)(h2: -(2^62)<=j)(h3:j<2^62):ud [.int i,.int j]= .ok (bB i j):=by unfold ud;dsimp only;rw[if_pos ⟨⟨h0,h1⟩,h2,h3⟩]
theorem yw{lo hi:Int}:d∈bB lo hi↔∃k:Int,d= .int k/\lo<=k/\k<hi:=by
 unfold bB;rw[List.mem_map];constructor
 ·rintro⟨n,hn,rfl⟩
  have:=List.mem_range.mp hn
  exact⟨lo+n,rfl,by omega,by omega⟩
 ·rintro⟨k,rfl,h1,h2⟩
  exact⟨(k-lo).toNat,List.mem_range.mpr (by omega),by congr 1;omega⟩
theorem j6(I:Nat->En->Prop)(hs:∀(i:Nat) d ρ,ds[i]? =some d->I i ρ->∃ρ2,okE (a d ρ) (λ ρ1=>u ρ1)= .nx ρ2/\I (i+1) ρ2)(h0:I 0 ρ):∃ρ',forL a u ds ρ= .nx ρ'/\I ds.length ρ':=by
 have go:∀(n:Nat) (ρ:En),n<=ds.length->I (ds.length-n) ρ->∃ρ',forL a u (ds.drop (ds.length-n)) ρ= .nx ρ'/\I ds.length ρ':=by
  intro n;induction n with
  |zero=>intro ρ _ h;exact⟨ρ,by rw[Nat.sub_zero,List.drop_length];rfl,h⟩
  |succ n ih=>
   intro ρ hn h;have hlt:ds.length-(n+1)<ds.length:=by omega
   rw[List.drop_eq_getElem_cons hlt,dm];obtain⟨ρ2,e,h2⟩:=hs _ _ ρ (List.getElem?_eq_getElem hlt) h;rw[show ds.length-(n+1)+1=ds.length-n by omega]at h2 ⊢;cases ea:a ds[ds.length-(n+1)] ρ with
   |ok ρ1=>
    rw[ea]at e;simp only[tG]at e ⊢;rw[e,rQ];exact ih ρ2 (by omega) h2
   |ex c=>rw[ea]at e;cases e
   |st=>rw[ea]at e;cases e
 have:=go ds.length ρ (Nat.le_refl _) (by rw[Nat.sub_self];exact h0)
 rwa [Nat.sub_self,List.drop_zero]at this
end VL
namespace VL.My
open PySem L2
def wdN:Str->Option Str:=λ c=>((["NoWeb","NoPlace","NoWay","NoParting","TooMany","NoForest","NoPlan","NoOneWay","NoOrder","NoText","NoDeed","NoRow"]:List Str).zip (["web","place","way","parting","many","forest","plan","one way","order","text","deed","row"]:List Str)).lookup c
def fX:En->Ou:=
  (retS (uR (op1 (lQ "int") (aD 0)) (op1 aI3 (op1 (lQ "bool") (aD 0)))))
def iu:List D->Rs D:=fL 1 fX
def dB:En->Ou:=
  (aY (dO (cZ ud (aA (cD (.int 1)) (aA (opA gM (aA (aD 0) aF)) aF))) (gnm 1)
   (ifS (pM (tsb (op2 ltD (op2 ixD (aD 0) (op2 qj (aD 1) (cD (.int 1)))) (op2 ixD (aD 0) (aD 1)))))
    (retS (cD (.bl false)))
    Ou.nx))
  (retS (cD (.bl true))))
def eU:List D->Rs D:=fL 2 dB
def fj:En->Ou:=
  (aY (aEs (aD 0) (iU 2 (bF (gnm 1) (bF (gnm 2) iw))))
  (aY (llS 3 (cZ dZ (aA (aD 1) aF)) [none] (gnm 0))
  (aY (dO (dh (aD 2)) (iU 2 (bF (gnm 4) (bF (gnm 5) iw)))
   (aY (mq 3 (aD 4) (bA (aD 5)))
   (mq 3 (aD 5) (bA (aD 4)))))
  (retS (rN 3)))))
def gD:List D->Rs D:=fL 6 fj
def du:En->Ou:=
  (aY (gh 2 (fM (aA (bA (aD 1)) aF)))
  (aY (cY 3 (cD (.int 0)))
  (aY (vp (tsb (op2 ltD (aD 3) (opA gM (aA (cP 2) aF))))
   (aY (lF 4 (bA (op2 ixD (cP 2) (aD 3))))
   (aY (dO (dh (op2 ixD (aD 0) (iG 4))) (gnm 5)
    (ifS (tsb (op2 (inR true) (aD 5) (cP 2)))
     (kh 2 (bA (aD 5)))
     Ou.nx))
   (aGk (i2 (λ _ _=>true) λ a b=>.int (a+b)) 3 (cD (.int 1))))))
  (retS (opA cj (aA (opA iH (aA (cP 2) aF)) aF))))))
def eQ:List D->Rs D:=fL 6 du
def cG:En->Ou:=
  (aY (ifS (tsb (op2 ltD (aD 1) (opA gM (aA (aD 0) aF))))
   (retS (bA (op2 ixD (aD 0) (aD 1))))
   Ou.nx)
  (retS (cD (.int 0))))
def cH:List D->Rs D:=fL 2 cG
def cz:En->Ou:=
  (aY (ifS (tsb (op2 geD (aD 0) (op2 aHu (cD (.int 10)) (cD (.int 18)))))
   (aY (cY 3 (aD 0))
   (aY (dO (cZ dZ (aA (aD 1) aF)) (gnm 4)
    (aY (ifS (tsb (op2 (eqR false) (aD 3) (cD (.int 0))))
     (retS (cD (.int 0)))
     Ou.nx)
    (cY 3 (op2 gf (aD 3) (aD 2)))))
   (retS (op2 pN (aD 3) (aD 2)))))
   Ou.nx)
  (aY (cY 5 (op2 pN (op2 jZ (op2 bQ (op2 bQ (op2 pN (aD 0) (cD (.int 1000000007))) (op2 jZ (cD (.int 1009)) (aD 1))) (cD (.int 17))) (cD (.int 69621))) (cD (.int 2147483647))))
  (aY (cY 5 (op2 pN (op2 bQ (op2 bQ (op2 jZ (aD 5) (aD 5)) (op2 jZ (cD (.int 40503)) (aD 1))) (cD (.int 5))) (cD (.int 2147483629))))
  (retS (op2 pN (op2 gf (op2 pN (op2 jZ (aD 5) (cD (.int 48271))) (cD (.int 2147483647))) (cD (.int 32))) (aD 2))))))
def aL:List D->Rs D:=fL 6 cz
def dw:En->Ou:=
  (aY (gh 1 (lrD (op2 ixD (aD 0) (cD (.int 0)))))
  (aY (dO (cZ dZ (aA (op2 ixD (aD 0) (cD (.int 0))) aF)) (gnm 2)
   (dO (dh (op2 ixD (aD 0) (cD (.int 1)))) (iU 2 (bF (gnm 3) (bF (gnm 4) iw)))
    (aY (aAW 1 (aD 3) (opA (mmD λ i j=>if j<i then j else i) (aA (op2 ixD (cP 1) (aD 3)) (aA (op2 ixD (cP 1) (aD 4)) aF))))
    (aAW 1 (aD 4) (bA (op2 ixD (cP 1) (aD 3)))))))
  (retS (lcD (dh (opA jU (aA (aD 1) aF))) [none,some 0,some 1] (gnm 0) je (opA cj (aA (lcD (cZ dZ (aA (op2 ixD (aD 1) (cD (.int 0))) aF)) [none,some 2,some 0] (gnm 0) (tsb (op2 (eqR false) (op2 ixD (aD 1) (aD 0)) (aD 2))) (bA (aD 0))) aF))))))
def gQ:List D->Rs D:=fL 5 dw
def iB:En->Ou:=
  (retS (uR (aR iu (aA (aD 0) aF)) (chD leD leD (cD (.int 0)) (aD 0) (cD (.int 60)))))
def mJ:List D->Rs D:=fL 1 iB
def fY:En->Ou:=
  (retS (uR (aR iu (aA (aD 1) aF)) (chD leD ltD (cD (.int 0)) (aD 1) (aD 0))))
def cO:List D->Rs D:=fL 2 fY
def cR:En->Ou:=
  (aY (gh 2 (fM aF))
  (aY (gh 3 (cD (.set [])))
  (aY (dO (dh (aD 1)) (gnm 4)
   (ifS (tsb (op2 (inX true) (aD 4) (cP 3)))
    (aY (cY 5 (aR eQ (aA (aD 0) (aA (aD 4) aF))))
    (aY (kh 2 (bA (aD 5)))
    (dO (dh (aD 5)) (gnm 6)
     (aGm 3 (bA (aD 6))))))
    Ou.nx))
  (retS (rN 2)))))
def cT:List D->Rs D:=fL 7 cR
def gq:En->Ou:=
  (aY (cY 2 (aR aL (aA (aD 0) (aA (cD (.int 0)) (aA (op2 bQ (aD 1) (cD (.int 1))) aF)))))
  (aY (cY 3 (op2 bQ (cD (.int 1)) (aR aL (aA (aD 0) (aA (cD (.int 1)) (aA (cD (.int 6)) aF))))))
  (aY (gh 4 (fM aF))
  (aY (dO (cZ dZ (aA (aD 2) aF)) (gnm 5)
   (dO (cZ ud (aA (op2 bQ (aD 5) (cD (.int 1))) (aA (aD 2) aF))) (gnm 6)
    (ifS (tsb (op2 ltD (aR aL (aA (aD 0) (aA (op2 bQ (op2 bQ (cD (.int 3)) (op2 jZ (cD (.int 61)) (aD 5))) (aD 6)) (aA (cD (.int 8)) aF)))) (aD 3)))
     (kh 4 (cA (aA (bA (aD 5)) (aA (bA (aD 6)) aF))))
     Ou.nx)))
  (retS (cA (aA (bA (aD 2)) (aA (opA cj (aA (rN 4) aF)) aF))))))))
def iC:List D->Rs D:=fL 7 gq
def dF:En->Ou:=
  (aY (cY 2 (aR aL (aA (aD 0) (aA (cD (.int 0)) (aA (op2 bQ (aD 1) (cD (.int 1))) aF)))))
  (aY (cY 3 (aR aL (aA (aD 0) (aA (cD (.int 1)) (aA (cD (.int 4)) aF)))))
  (aY (lF 4 (lcD (dh (opA iH (aA (lcD (cZ dZ (aA (aD 2) aF)) [none,some 0] (gnm 0) je (cA (aA (aR aL (aA (aD 1) (aA (op2 bQ (cD (.int 200)) (aD 0)) (aA (cD (.int 97)) aF)))) (aA (bA (aD 0)) aF)))) aF))) [none] (gnm 0) je (bA (op2 ixD (aD 0) (cD (.int 1))))))
  (aY (gh 5 (fM aF))
  (aY (dO (cZ ud (aA (cD (.int 1)) (aA (aD 2) aF))) (gnm 6)
   (aY (lF 7 (op2 ixD (fM (aA (op2 qj (aD 6) (cD (.int 1))) (aA (op2 gf (aD 6) (cD (.int 2))) (aA (op2 gf (aD 6) (cD (.int 4))) (aA (aR aL (aA (aD 0) (aA (op2 bQ (cD (.int 300)) (aD 6)) (aA (aD 6) aF)))) aF))))) (aD 3)))
   (aY (ifS (tsb (op2 (eqR false) (aR aL (aA (aD 0) (aA (op2 bQ (cD (.int 400)) (aD 6)) (aA (cD (.int 3)) aF)))) (cD (.int 0))))
    (lF 7 (aR aL (aA (aD 0) (aA (op2 bQ (cD (.int 500)) (aD 6)) (aA (aD 6) aF)))))
    Ou.nx)
   (ifS (tsb (op2 gtD (aR aL (aA (aD 0) (aA (op2 bQ (cD (.int 600)) (aD 6)) (aA (cD (.int 9)) aF)))) (cD (.int 0))))
    (kh 5 (cA (aA (opA (mmD λ i j=>if j<i then j else i) (aA (op2 ixD (iG 4) (iG 7)) (aA (op2 ixD (iG 4) (aD 6)) aF))) (aA (opA (mmD λ i j=>if j>i then j else i) (aA (op2 ixD (iG 4) (iG 7)) (aA (op2 ixD (iG 4) (aD 6)) aF))) aF))))
    Ou.nx))))
  (retS (cA (aA (bA (aD 2)) (aA (opA cj (aA (opA iH (aA (cP 5) aF)) aF)) aF)))))))))
def cN:List D->Rs D:=fL 8 dF
def gr:En->Ou:=
  (aY (ifS (orT (pM (tst (op1 (lQ "tuple") (aD 1)))) (tsb (op2 (eqR true) (opA gM (aA (aD 1) aF)) (cD (.int 2)))))
   (retS (cD (.bl false)))
   Ou.nx)
  (retS (uR (aR cO (aA (aD 0) (aA (op2 ixD (aD 1) (cD (.int 0))) aF))) (uR (aR cO (aA (aD 0) (aA (op2 ixD (aD 1) (cD (.int 1))) aF))) (op2 (eqR true) (op2 ixD (aD 1) (cD (.int 0))) (op2 ixD (aD 1) (cD (.int 1))))))))
def jd:List D->Rs D:=fL 2 gr
def az:En->Ou:=
  (aY (ifS (pM (tst (op1 (lQ "tuple") (aD 1))))
   (retS (cD (.bl false)))
   Ou.nx)
  (aY (dO (dh (aD 1)) (gnm 2)
   (ifS (pM (tst (aR jd (aA (aD 0) (aA (aD 2) aF)))))
    (retS (cD (.bl false)))
    Ou.nx))
  (retS (aR eU (aA (aD 1) aF)))))
def bH:List D->Rs D:=fL 3 az
def fZ:En->Ou:=
  (retS (uR (aR bH (aA (aD 0) (aA (aD 1) aF))) (opA (yJ λ bs=>bs.all id) (aA (lcD (dh (aD 1)) [none,none] (iU 2 (bF (gnm 0) (bF (gnm 1) iw))) je (op2 ltD (aD 0) (aD 1))) aF))))
def kI:List D->Rs D:=fL 2 fZ
def j8:En->Ou:=
  (aY (ifS (orT (pM (tst (op1 (lQ "tuple") (aD 0)))) (tsb (op2 (eqR true) (opA gM (aA (aD 0) aF)) (cD (.int 2)))))
   (retS (cD (.bl false)))
   Ou.nx)
  (retS (uR (aR mJ (aA (op2 ixD (aD 0) (cD (.int 0))) aF)) (aR kI (aA (op2 ixD (aD 0) (cD (.int 0))) (aA (op2 ixD (aD 0) (cD (.int 1))) aF))))))
def o6:List D->Rs D:=fL 1 j8
def eF:En->Ou:=
  (ifS (pM (tst (aR o6 (aA (aD 0) aF))))
   (wZ "NoWeb" (aA (cD (.str "this is no web")) aF))
   Ou.nx)
def eV:List D->Rs D:=fL 1 eF
def mG:En->Ou:=
  (aY (zY (aR eV (aA (aD 0) aF)))
  (retS (aR cT (aA (aR gD (aA (aD 0) aF)) (aA (lrD (op2 ixD (aD 0) (cD (.int 0)))) aF)))))
def rK:List D->Rs D:=fL 1 mG
def eE:En->Ou:=
  (retS (op2 (eqR false) (opA gM (aA (aR rK (aA (aD 0) aF)) aF)) (op2 qj (op2 ixD (aD 0) (cD (.int 0))) (opA gM (aA (op2 ixD (aD 0) (cD (.int 1))) aF)))))
def bC:List D->Rs D:=fL 1 eE
def v9:En->Ou:=
  (aY (dO (cZ dZ (aA (opA (mmD λ i j=>if j>i then j else i) (aA (cD (.int 1)) (aA (opA (mmD λ i j=>if j<i then j else i) (aA (opA gM (aA (aD 0) aF)) (aA (cD (.int 8)) aF))) aF))) aF)) (gnm 1)
   (aY (cY 2 (aR cH (aA (aD 0) (aA (aD 1) aF))))
   (aY (cY 3 (aR cN (aA (aD 2) (aA (cD (.int 20)) aF))))
   (aY (gh 4 (fM (aA (bA (aD 3)) (aA (aR iC (aA (op2 bQ (aD 2) (cD (.int 1))) (aA (cD (.int 8)) aF))) (aA (cA (aA (bA (op2 ixD (aD 3) (cD (.int 0)))) (aA (bA (o8 (op2 ixD (aD 3) (cD (.int 1))) (vM (cD (.int 1))) vN)) aF))) aF)))))
   (aY (gh 5 (fM aF))
   (aY (dO (cZ dZ (aA (op2 ixD (aD 3) (cD (.int 0))) aF)) (gnm 6)
    (aGb 5 (lcD (cZ dZ (aA (aD 6) aF)) [none,some 6,some 3] (gnm 0) (tsb (op2 (inR true) (cA (aA (aD 0) (aA (aD 1) aF))) (op2 ixD (aD 2) (cD (.int 1))))) (cA (aA (bA (aD 0)) (aA (bA (aD 1)) aF))))))
   (aY (ifS (tsb (op2 (eqR true) (cP 5) (fM aF)))
    (aY (lF 7 (bA (op2 ixD (cP 5) (aR aL (aA (aD 2) (aA (cD (.int 9000)) (aA (opA gM (aA (cP 5) aF)) aF)))))))
    (kh 4 (cA (aA (bA (op2 ixD (aD 3) (cD (.int 0)))) (aA (opA cj (aA (opA lE (aA (op2 bQ (op2 ixD (aD 3) (cD (.int 1))) (cA (aA (iG 7) aF))) aF)) aF)) aF)))))
    Ou.nx)
   (aG9 4 (aY (dO (dh (aD 4)) (gnm 8)
    (aY (cY 9 (aR bC (aA (aD 8) aF)))
    (ifS (orT (pM (tst (op1 (lQ "bool") (aD 9)))) (tsb (op2 (eqR true) (aD 9) (op2 (eqR false) (op2 bQ (opA gM (aA (op2 ixD (aD 8) (cD (.int 1))) aF)) (opA gM (aA (aR gQ (aA (aD 8) aF)) aF))) (op2 ixD (aD 8) (cD (.int 0)))))))
     (retS (cD (.bl false)))
     Ou.nx)))
   (aY (cY 10 (op2 bQ (cD (.int 3)) (aR aL (aA (aD 2) (aA (cD (.int 9001)) (aA (cD (.int 7)) aF))))))
   (aY (cY 11 (opA cj (aA (opA iH (aA (op2 bQ (lcD (cZ dZ (aA (op2 qj (aD 10) (cD (.int 1))) aF)) [none] (gnm 0) je (cA (aA (bA (aD 0)) (aA (op2 bQ (bA (aD 0)) (cD (.int 1))) aF)))) (fM (aA (cA (aA (cD (.int 0)) (aA (op2 qj (aD 10) (cD (.int 1))) aF))) aF))) aF)) aF)))
   (aY (ifS (orT (tsb (op2 zP (aR bC (aA (cA (aA (op2 bQ (aD 10) (cD (.int 2))) (aA (aD 11) aF))) aF)) (cD (.bl false)))) (tsb (op2 zP (aR bC (aA (cA (aA (op2 bQ (aD 10) (cD (.int 2))) (aA (o8 (aD 11) (vM (cD (.int 1))) vN) aF))) aF)) (cD (.bl true)))))
    (retS (cD (.bl false)))
    Ou.nx)
   (ifS (tsb (op2 (eqR true) (aFZ wdN "told" (aR bC (aA (cA (aA (aD 10) (aA (op1 aHo (aD 11)) aF))) aF))) (cD (.str "web"))))
    (retS (cD (.bl false)))
    Ou.nx)))))))))))))
  (retS (op2 (isD false) (aR bC (aA (cA (aA (cD (.int 0)) (aA (cA aF) aF))) aF)) (cD (.bl true)))))
def aEw:List D->Rs D:=fL 12 v9
theorem v6{b:Int}(hb:0<b)(hb2:b<1073741824){c:Int}{k:Int}:∀(ds:List D) (x:Int) (s:Slot),(∀d∈ds,∃n:Int,d= .int n)->
  (∃y s',forL (gnm 4) (aY (ifS (tsb (op2 (eqR false) (aD 3) (cD (.int 0)))) (retS (cD (.int 0))) Ou.nx) (cY 3 (op2 gf (aD 3) (aD 2)))) ds [.sh (.int c),.sh (.int k),.sh (.int b),.sh (.int x),s,.no]= .nx [.sh (.int c),.sh (.int k),.sh (.int b),.sh (.int y),s',.no])\/
  forL (gnm 4) (aY (ifS (tsb (op2 (eqR false) (aD 3) (cD (.int 0)))) (retS (cD (.int 0))) Ou.nx) (cY 3 (op2 gf (aD 3) (aD 2)))) ds [.sh (.int c),.sh (.int k),.sh (.int b),.sh (.int x),s,.no]= .rt (.int 0)
 |[],x,s,_=>.inl ⟨x,s,rfl⟩
 |d::ds,x,s,h=>by
  have ih:=v6 hb hb2 (c:=c) (k:=k) ds (x / b) (.sh d) λ e he=>h e (List.mem_cons_of_mem _ he)
  rw[dm];by_cases hx:x=0
  ·subst hx
   right;simp
  ·simp[hx,mD hb hb2]
   exact ih
theorem aGe{c k b:Int}(hk0:0<=k)(hk1:k<2^40)(hb:0<b)(hb2:b<1073741824):∃r:Int,aL [.int c,.int k,.int b]= .ok (.int r)/\0<=r/\r<b:=by
 have hp:aHu (.int 10) (.int 18)= .ok (.int 1000000000000000000):=rfl;by_cases hc:(1000000000000000000:Int)<=c
 ·have hr:=jC (j:=k) (by lia) (by lia)
  have hl:=v6 hb hb2 (c:=c) (k:=k) (bB 0 k) c .no λ d hd=>let⟨n,e,_⟩:=yw.mp hd;⟨n,e⟩
  rcases hl with ⟨y,s',e⟩|e
  ·refine⟨y%b,?_,Int.emod_nonneg _ (by lia),Int.emod_lt_of_pos _ hb⟩
   simp[aL,cz,bG,hp,hc,hr,e,lO hb]
  ·refine⟨0,?_,by lia,hb⟩
   simp[aL,cz,bG,hp,hc,hr,e]
 ·have s1:∀z:Int,0<=z%2147483647/\z%2147483647<2147483647:=λ z=>⟨Int.emod_nonneg _ (by decide),Int.emod_lt_of_pos _ (by decide)⟩
  have s2:∀z:Int,0<=z%2147483629/\z%2147483629<2147483629:=λ z=>⟨Int.emod_nonneg _ (by decide),Int.emod_lt_of_pos _ (by decide)⟩
  have m1:∀z,jZ (.int 1009) (.int z)= .ok (.int (1009*z)):=λ z=>xN (by decide) (by decide)
  have m2:∀z,jZ (.int z) (.int 69621)= .ok (.int (z*69621)):=λ z=>aDx (by decide) (by decide)
  have m3:∀z,jZ (.int 40503) (.int z)= .ok (.int (40503*z)):=λ z=>xN (by decide) (by decide)
  have m4:∀z,jZ (.int z) (.int 48271)= .ok (.int (z*48271)):=λ z=>aDx (by decide) (by decide)
  have m5:∀z:Int,jZ (.int (z%2147483647)) (.int (z%2147483647))= .ok (.int (z%2147483647*(z%2147483647))):=λ z=>xN (by have:=s1 z;lia) (by have:=s1 z;lia)
  have d1:∀z,pN (.int z) (.int 1000000007)= .ok (.int (z%1000000007)):=λ z=>lO (by decide)
  have d2:∀z,pN (.int z) (.int 2147483647)= .ok (.int (z%2147483647)):=λ z=>lO (by decide)
  have d3:∀z,pN (.int z) (.int 2147483629)= .ok (.int (z%2147483629)):=λ z=>lO (by decide)
  have d4:∀z,gf (.int z) (.int 32)= .ok (.int (z / 32)):=λ z=>mD (by decide) (by decide)
  have d5:∀z,pN (.int z) (.int b)= .ok (.int (z%b)):=λ z=>lO hb
  simp[aL,cz,bG,hp,hc,m1,m2,m3,m4,m5,d1,d2,d3,d4,d5,-Int.emod_emod_of_dvd];exact⟨Int.emod_nonneg _ (by lia),Int.emod_lt_of_pos _ hb⟩
theorem dW(hk0:0<=k)(hk1:k<2^40)(hb:0<b)(hb2:b<1073741824):∃r:Nat,aL [.int c,.int k,.int b]= .ok (.int r)/\(r:Int)<b:=by
 obtain⟨r,e,h0,h1⟩:=aGe (c:=c) hk0 hk1 hb hb2;exact⟨r.toNat,by rw[Int.toNat_of_nonneg h0];exact e,by lia⟩
theorem aGh(h:0<=k):∃c:Int,cH [.scr ns,.int k]= .ok (.int c):=by
 by_cases hk:k<ns.length
 ·obtain⟨d,e,hm,_⟩:=aEq (l:=ns.map .int) (i:=k) h (by simpa using hk)
  obtain⟨c,_,rfl⟩:=List.mem_map.mp hm;exact⟨c,by simp[cH,cG,bG,hk,e]⟩
 ·exact⟨0,by simp[cH,cG,bG,hk]⟩
mutual
def pln:D->Bool
 | .tup l=>sZ l
 | .lst l=>sZ l
 | .set _=>false
 | .scr _=>false
 | .fn _=>false
 |_=>true
def sZ:List D->Bool
 |[]=>true
 |d::r=>pln d&&sZ r
end
theorem rD(h:pln d=true):knd d=true:=by cases d<;>first|rfl|(simp[pln]at h)
theorem ym:∀{l:List D} {d:D},sZ l=true->d∈l->pln d=true
 |x::r,d,h,hm=>by
  simp only[sZ,Bool.and_eq_true]at h;rcases List.mem_cons.mp hm with rfl|hm
  ·exact h.1
  ·exact ym h.2 hm
theorem aB3:∀{l:List D},(∀d∈l,pln d=true)->sZ l=true
 |[],_=>rfl
 |x::r,h=>by
  simp only[sZ,Bool.and_eq_true];exact⟨h x (List.mem_cons_self ..),aB3 λ d hd=>h d (List.mem_cons_of_mem _ hd)⟩
def zz:D->Bool
 | .int _=>true
 |_=>false
def aB9:D->Bool
 | .int i=>decide (0<=i)&&decide (i<=60)
 |_=>false
def fV(m:Int):D->Bool
 | .int i=>decide (0<=i)&&decide (i<m)
 |_=>false
theorem qN(h:knd d=true):iu [d]= .ok (.bl (zz d)):=by
 simp[iu,fX,bG,aGO h,aES h];cases d<;>rfl
theorem aAr(h:knd d=true):mJ [d]= .ok (.bl (aB9 d)):=by
 simp[mJ,iB,bG,qN h];cases d<;>simp[zz,aB9]
 rename_i i;by_cases h0:0<=i<;>simp[h0]
theorem qO(h:knd d=true):cO [.int m,d]= .ok (.bl (fV m d)):=by
 simp[cO,fY,bG,qN h];cases d<;>simp[zz,fV]
 rename_i i;by_cases h0:0<=i<;>simp[h0]
def iM(m:Int):D->Bool
 | .tup [.int a,.int b]=>decide (0<=a)&&decide (a<m)&&decide (0<=b)&&decide (b<m)&& !(a==b)
 |_=>false
theorem vJ(h:fV m d=true):∃i:Int,d= .int i/\0<=i/\i<m:=by
 cases d with
 |int i=>simp[fV]at h;exact⟨i,rfl,h.1,h.2⟩
 |_=>simp[fV]at h
theorem aCr(h:pU d=true):∃l,d= .tup l:=by cases d<;>first|exact⟨_,rfl⟩|(cases h)
theorem aH0(h:l.length=2):∃x y,l=[x,y]:=by
 match l,h with
 |[x,y],_=>exact⟨x,y,rfl⟩
theorem aDj(h:pU d=false):iM m d=false:=by cases d<;>first|rfl|(cases h)
theorem aCL(h:l.length≠2):iM m (.tup l)=false:=by
 match l,h with
 |[],_=>rfl
 |[x],_=>cases x<;>rfl
 |[x,y],h=>exact absurd rfl h
 |x::y::z::r,_=>cases x<;>first|rfl|(cases y<;>rfl)
theorem aFj(h:fV m x=false):iM m (.tup [x,y])=false:=by
 cases x with
 |int i=>
  cases y with
  |int j=>
   show((((decide (0<=i)&&decide (i<m))&&decide (0<=j))&&decide (j<m))&& !(i==j))=false
   rw[show(decide (0<=i)&&decide (i<m))=false from h];rfl
  |_=>rfl
 |_=>rfl
theorem aFi(h:fV m y=false):iM m (.tup [.int i,y])=false:=by
 cases y with
 |int j=>
  show((((decide (0<=i)&&decide (i<m))&&decide (0<=j))&&decide (j<m))&& !(i==j))=false
  rw[Bool.and_assoc (decide (0<=i)&&decide (i<m)),show(decide (0<=j)&&decide (j<m))=false from h,Bool.and_false];rfl
 |_=>rfl
theorem aDi(h1:fV m (.int i)=true)(h2:fV m (.int j)=true):iM m (.tup [.int i,.int j])= !(i==j):=by
 show((((decide (0<=i)&&decide (i<m))&&decide (0<=j))&&decide (j<m))&& !(i==j))= !(i==j)
 rw[Bool.and_assoc (decide (0<=i)&&decide (i<m)),show(decide (0<=j)&&decide (j<m))=true from h2,show(decide (0<=i)&&decide (i<m))=true from h1];rfl
def ipE:En->Ou:=ifS (orT (pM (tst (op1 (lQ "tuple") (aD 1)))) (tsb (op2 (eqR true) (opA gM (aA (aD 1) aF)) (cD (.int 2))))) (retS (cD (.bl false))) Ou.nx
theorem zR:gr=aY ipE (retS (uR (aR cO (aA (aD 0) (aA (op2 ixD (aD 1) (cD (.int 0))) aF))) (uR (aR cO (aA (aD 0) (aA (op2 ixD (aD 1) (cD (.int 1))) aF))) (op2 (eqR true) (op2 ixD (aD 1) (cD (.int 0))) (op2 ixD (aD 1) (cD (.int 1))))))):=rfl
theorem aIk(hk:knd d=true)(h:pU d=false):ipE [s,.sh d]= .rt (.bl false):=by simp[ipE,pR hk,h]
theorem aGR(h:l.length≠2):ipE [s,.sh (.tup l)]= .rt (.bl false):=by
 have:¬((l.length:Int)=2):=by omega
 simp[ipE,this]
theorem aGQ:ipE [s,.sh (.tup [x,y])]= .nx [s,.sh (.tup [x,y])]:=by simp[ipE]
theorem aAq(h:pln d=true):jd [.int m,d]= .ok (.bl (iM m d)):=by
 have st:bG 2 [.int m,d]=[.sh (.int m),.sh d]:=rfl;simp only[jd,zR,cI,st];cases ht:pU d with
 |false=>rw[aW,aIk (rD h) ht,aDj ht];rfl
 |true=>
  obtain⟨l,rfl⟩:=aCr ht;by_cases hl:l.length=2
  ·obtain⟨x,y,rfl⟩:=aH0 hl
   simp only[pln,sZ,Bool.and_eq_true]at h;have hx:=qO (m:=m) (rD h.1);have hy:=qO (m:=m) (rD h.2.1);have ex:aR cO (aA (aD 0) (aA (op2 ixD (aD 1) (cD (.int 0))) aF)) [.sh (.int m),.sh (.tup [x,y])]= .ok (.bl (fV m x)):=by simp[hx]
   have ey:aR cO (aA (aD 0) (aA (op2 ixD (aD 1) (cD (.int 1))) aF)) [.sh (.int m),.sh (.tup [x,y])]= .ok (.bl (fV m y)):=by simp[hy]
   rw[aW,aGQ,bL,oE,yI,ex,jJ,aBs,yI,ey,jJ,aBs];cases c1:fV m x with
   |false=>rw[aFj c1];rfl
   |true=>
    obtain⟨i,rfl,_,_⟩:=vJ c1;cases c2:fV m y with
    |false=>rw[aFi c2];rfl
    |true=>
     obtain⟨j,rfl,_,_⟩:=vJ c2;rw[aDi c1 c2];rfl
  ·rw[aW,aGR hl,aCL hl];rfl
def pD(p:Int×Int):D:=.tup [.int p.1,.int p.2]
def ltP(p q:Int×Int):Bool:=HT.lexLt [p.1,p.2] [q.1,q.2]
def oA:List (Int×Int)->Bool
 |[]=>true
 |[_]=>true
 |p::q::r=>ltP p q&&oA (q::r)
theorem aI6(p q:Int×Int):ltD (pD p) (pD q)= .ok (.bl (ltP p q)):=aGE [p.1,p.2] [q.1,q.2]
theorem pY:∀(ds:List D) (ok:Nat->Bool) (I:En->Prop) (ρ:En),I ρ->(∀(i:Nat) d ρ,ds[i]? =some d->I ρ->okE (a d ρ) u= .rt r/\ok i=false\/∃ρ',okE (a d ρ) u= .nx ρ'/\I ρ'/\ok i=true)->
  (forL a u ds ρ= .rt r/\∃i,i<ds.length/\ok i=false)\/(∃ρ',forL a u ds ρ= .nx ρ'/\I ρ'/\∀i,i<ds.length->ok i=true)
 |[],ok,I,ρ,h,_=>.inr ⟨ρ,rfl,h,λ i hi=>absurd hi (Nat.not_lt_zero _)⟩
 |d::ds,ok,I,ρ,h,hs=>by
  rw[dm];rcases hs 0 d ρ rfl h with ⟨e,o⟩|⟨ρ',e,h',o⟩
  ·left
   refine⟨?_,0,by simp,o⟩;cases ea:a d ρ with
   |ok ρ1=>rw[ea]at e;simp at e ⊢;rw[e];rfl
   |ex c=>rw[ea]at e;cases e
   |st=>rw[ea]at e;cases e
  ·have ih:=pY ds (λ i=>ok (i+1)) I ρ' h' λ i d2 ρ2 e2 h2=>hs (i+1) d2 ρ2 (by simpa using e2) h2
   have e3:okE (a d ρ) (λ ρ1=>(u ρ1).tn (forL a u ds))=forL a u ds ρ':=by
    cases ea:a d ρ with
    |ok ρ1=>rw[ea]at e;simp at e ⊢;rw[e];rfl
    |ex c=>rw[ea]at e;cases e
    |st=>rw[ea]at e;cases e
   rw[e3];rcases ih with ⟨e4,i,hi,o4⟩|⟨ρ4,e4,h4,o4⟩
   ·exact .inl ⟨e4,i+1,by simpa using hi,o4⟩
   ·refine .inr ⟨ρ4,e4,h4,λ i hi=>?_⟩
    cases i with
    |zero=>exact o
    |succ i=>exact o4 i (by simpa using hi)
theorem iJ{i:Nat}(h:(bB lo hi)[i]? =some d):d= .int (lo+i)/\lo+i<hi:=by
 unfold bB at h;rw[List.getElem?_map]at h;by_cases hi2:i<(hi-lo).toNat
 ·rw[List.getElem?_range hi2]at h
  cases h;exact⟨rfl,by omega⟩
 ·rw[List.getElem?_eq_none (by simpa using hi2)]at h
  cases h
theorem fC:(bB lo hi).length=(hi-lo).toNat:=by unfold bB;simp
section
variable{α:Type}{f:α->D}{lt:α->α->Bool}
def sU(lt:α->α->Bool):List α->Bool
 |[]=>true
 |[_]=>true
 |p::q::r=>lt p q&&sU lt (q::r)
theorem nu:∀{ps:List α},sU lt ps=true↔∀(i:Nat) (p q:α),ps[i]? =some p->ps[i+1]? =some q->lt p q=true
 |[]=>by simp[sU]
 |[x]=>by
  simp only[sU,true_iff];intro i p q _ h2;simp at h2
 |x::y::r=>by
  have ih:=nu (ps:=y::r);unfold sU;rw[Bool.and_eq_true,ih];constructor
  ·rintro⟨h1,h2⟩ i p q e1 e2
   cases i with
   |zero=>simp at e1 e2;subst e1 e2;exact h1
   |succ i=>exact h2 i p q (by simpa using e1) (by simpa using e2)
  ·intro h
   exact⟨h 0 x y rfl rfl,λ i p q e1 e2=>h (i+1) p q (by simpa using e1) (by simpa using e2)⟩
theorem zQ(hlt:∀a b,ltD (f a) (f b)= .ok (.bl (lt a b)))(hl:ps.length<=100000):eU [.tup (ps.map f)]= .ok (.bl (sU lt ps)):=by
 have hr:=wV (i:=1) (j:=(ps.length:Int)) (by decide) (by decide) (by omega) (by omega);have hlen:(bB 1 (ps.length:Int)).length=ps.length-1:=by rw[fC];omega
 have L:=pY (a:=gnm 1) (u:=ifS (pM (tsb (op2 ltD (op2 ixD (aD 0) (op2 qj (aD 1) (cD (.int 1)))) (op2 ixD (aD 0) (aD 1))))) (retS (cD (.bl false))) Ou.nx) (r:=.bl false)
  (bB 1 (ps.length:Int)) (λ i=>match ps[i]?,ps[i+1]? with|some p,some q=>lt p q|_,_=>true) (λ ρ=>∃s,ρ=[.sh (.tup (ps.map f)),s]) [.sh (.tup (ps.map f)),.no] ⟨_,rfl⟩ (by
   rintro i d ρ hd ⟨s,rfl⟩;obtain⟨rfl,h2⟩:=iJ hd;have e1:ps[i]? =some ps[i]:=List.getElem?_eq_getElem (by omega);have e2:ps[i+1]? =some ps[i+1]:=List.getElem?_eq_getElem (by omega);have a1:atD (ps.map f) (1+(i:Int)-1)= .ok (f ps[i]):=by
    rw[show(1+(i:Int)-1)=(i:Int)by omega];exact fJ (by rw[List.getElem?_map,e1];rfl)
   have a2:atD (ps.map f) (1+(i:Int))= .ok (f ps[i+1]):=by
    rw[show(1+(i:Int))=((i+1:Nat):Int)by omega];exact fJ (by rw[List.getElem?_map,e2];rfl)
   simp only[e1,e2];cases c:lt ps[i] ps[i+1]with
   |true=>right;exact⟨_,by simp[a1,a2,hlt,c];rfl,⟨_,rfl⟩,rfl⟩
   |false=>left;exact⟨by simp[a1,a2,hlt,c],rfl⟩)
 have st:bG 2 [.tup (ps.map f)]=[.sh (.tup (ps.map f)),.no]:=rfl;rcases L with ⟨e,i,hi,o⟩|⟨ρ',e,⟨s,rfl⟩,o⟩
 ·have:sU lt ps=false:=by
   cases c:sU lt ps with
   |false=>rfl
   |true=>
    rw[hlen]at hi;have z:=nu.mp c i ps[i] ps[i+1] (List.getElem?_eq_getElem (by omega)) (List.getElem?_eq_getElem (by omega));rw[List.getElem?_eq_getElem (by omega),List.getElem?_eq_getElem (by omega)]at o;simp only at o;rw[z]at o;cases o
  rw[this];simp only[eU,dB,cI,st];simp[hr,e]
 ·have:sU lt ps=true:=nu.mpr λ i p q e1 e2=>by
   have h2:=(List.getElem?_eq_some_iff.mp e2).1
   have:=o i (by rw[hlen];omega)
   rw[e1,e2]at this;exact this
  rw[this];simp only[eU,dB,cI,st];simp[hr,e]
end
theorem aAM:∀ps:List (Int×Int),oA ps=sU ltP ps
 |[]=>rfl
 |[_]=>rfl
 |p::q::r=>by unfold oA sU;rw[aAM (q::r)]
theorem xX(hl:ps.length<=100000):eU [.tup (ps.map pD)]= .ok (.bl (oA ps)):=by
 rw[aAM];exact zQ aI6 hl
theorem rC:oA ps=true↔∀(i:Nat) (p q:Int×Int),ps[i]? =some p->ps[i+1]? =some q->ltP p q=true:=by rw[aAM];exact nu
def aF8:D->Int×Int
 | .tup [.int a,.int b]=>(a,b)
 |_=>(0,0)
theorem aA2(h:iM m d=true):∃a b:Int,d= .tup [.int a,.int b]/\0<=a/\a<m/\0<=b/\b<m/\a≠b:=by
 unfold iM at h;split at h
 ·rename_i a b
  simp at h;exact⟨a,b,rfl,h.1.1.1.1,h.1.1.1.2,h.1.1.2,h.1.2,h.2⟩
 ·cases h
theorem aHJ:∀{ts:List D},ts.all (iM m)=true->(ts.map aF8).map pD=ts
 |[],_=>rfl
 |t::ts,h=>by
  rw[List.all_cons,Bool.and_eq_true]at h;obtain⟨a,b,rfl,_⟩:=aA2 h.1;simp only[List.map_cons];rw[aHJ h.2];rfl
def rpB(m:Int):D->Bool
 | .tup ts=>ts.all (iM m)&&oA (ts.map aF8)
 |_=>false
def aHc:D->Bool
 | .tup l=>decide (l.length<=100000)
 |_=>true
theorem mQ(h:pln d=true)(hs:aHc d=true):bH [.int m,d]= .ok (.bl (rpB m d)):=by
 cases d with
 |tup ts=>
  have hp:sZ ts=true:=by simpa[pln]using h
  have hl:ts.length<=100000:=by simpa[aHc]using hs
  have L:=pY (a:=gnm 2) (u:=ifS (pM (tst (aR jd (aA (aD 0) (aA (aD 2) aF))))) (retS (cD (.bl false))) Ou.nx) (r:=.bl false)
   ts (λ i=>match ts[i]? with|some t=>iM m t|none=>true) (λ ρ=>∃s,ρ=[.sh (.int m),.sh (.tup ts),s]) [.sh (.int m),.sh (.tup ts),.no] ⟨_,rfl⟩ (by
    rintro i d ρ hd ⟨s,rfl⟩;have e:=aAq (m:=m) (ym hp (List.mem_of_getElem? hd));simp only[hd];cases c:iM m d with
    |true=>right;exact⟨_,by simp[e,c];rfl,⟨_,rfl⟩,rfl⟩
    |false=>left;exact⟨by simp[e,c],rfl⟩)
  have st:bG 3 [.int m,.tup ts]=[.sh (.int m),.sh (.tup ts),.no]:=rfl;rcases L with ⟨e,i,hi,o⟩|⟨ρ',e,⟨s,rfl⟩,o⟩
  ·have:ts.all (iM m)=false:=by
    rw[List.all_eq_false];rw[List.getElem?_eq_getElem hi]at o;exact⟨ts[i],List.getElem_mem hi,by simpa using o⟩
   simp only[bH,az,cI,st];simp[e,rpB,this]
  ·have:ts.all (iM m)=true:=by
    rw[List.all_eq_true];intro t ht;obtain⟨i,hi,rfl⟩:=List.getElem_of_mem ht
    have:=o i hi
    rw[List.getElem?_eq_getElem hi]at this;exact this
   have er:=xX (ps:=ts.map aF8) (by rw[List.length_map];exact hl);rw[aHJ this]at er;simp only[bH,az,cI,st];simp[e,rpB,this,er]
 |_=>simp[bH,az,bG,pR (rD h),pU,rpB]
structure Ow(n:Int)(ps:List (Int×Int)):Prop where
 n0:0<=n
 n1:n<=60
 len:ps.length<=3600
 pr:∀p∈ps,0<=p.1/\p.1<n/\0<=p.2/\p.2<n/\p.1≠p.2
 ris:oA ps=true
def owD(n:Int)(ps:List (Int×Int)):D:=.tup [.int n,.tup (ps.map pD)]
theorem Ow.rp(h:Ow n ps):rpB n (.tup (ps.map pD))=true:=by
 have e:(ps.map pD).map aF8=ps:=by rw[List.map_map];exact(List.map_congr_left λ p _=>rfl).trans (List.map_id ps)
 unfold rpB;dsimp only;rw[e,h.ris,Bool.and_true,List.all_eq_true];intro d hd;obtain⟨p,hp,rfl⟩:=List.mem_map.mp hd;obtain⟨a,b,c,d,e⟩:=h.pr p hp;simp[pD,iM,a,b,c,d,e]
theorem aB2:∀ps:List (Int×Int),sZ (ps.map pD)=true
 |[]=>rfl
 |p::ps=>by simp only[List.map_cons,sZ,aB2 ps,Bool.and_true];rfl
theorem zZ:∀ns:List Int,bW (ns.map .int)=0/\aj (ns.map .int)=true
 |[]=>⟨rfl,rfl⟩
 |n::ns=>by
  obtain⟨h1,h2⟩:=zZ ns;simp[bW,fP,aj,aQ,h1,h2]
theorem qC:∀ps:List (Int×Int),bW (ps.map pD)<=1/\aj (ps.map pD)=true
 |[]=>⟨by simp[bW],rfl⟩
 |p::ps=>by
  obtain⟨h1,h2⟩:=qC ps;simp[bW,fP,aj,aQ,h2,pD,h1]
theorem aGU(neg:Bool)(y:Int)(ns:List Int):inR neg (.int y) (.lst (ns.map .int))= .ok (.bl (if neg then !decide (y∈ns)else decide (y∈ns))):=by
 obtain⟨h1,h2⟩:=zZ ns;have e:inD (.int y) (ns.map .int)=decide (y∈ns):=by
  unfold inD;rw[Bool.eq_iff_iff];simp[List.any_eq_true,eqD]
 unfold inR;dsimp only;rw[h1,h2,e];rfl
theorem aEU(neg:Bool)(q:Int×Int)(ps:List (Int×Int)):inR neg (pD q) (.tup (ps.map pD))= .ok (.bl (if neg then !decide (q∈ps)else decide (q∈ps))):=by
 obtain⟨h1,h2⟩:=qC ps;have e:inD (pD q) (ps.map pD)=decide (q∈ps):=by
  unfold inD;rw[Bool.eq_iff_iff];simp only[List.any_map,List.any_eq_true,Function.comp,decide_eq_true_eq];constructor
  ·rintro⟨p,hp,h⟩
   simp[pD,eqD,fO]at h
   have:p=q:=Prod.ext h.1 h.2
   exact this▸hp
  ·intro h
   exact⟨q,h,by simp[pD,eqD,fO]⟩
 unfold inR;dsimp only;have h3:decide (bW (ps.map pD)<=60)=true:=by simp;lia
 have h4:aQ (pD q)=true:=rfl;rw[h2,e,h3,h4];rfl
theorem yF(f:α->Bool)(l:List α):boolsOf (l.map λ x=>D.bl (f x))=some (l.map f):=by
 have:=qg (l.map f)
 rwa [List.map_map]at this
theorem aEt(f:α->Bool)(l:List α):yJ (λ bs=>bs.all id) [.lst (l.map λ x=>D.bl (f x))]= .ok (.bl (l.all f)):=by
 unfold yJ;dsimp only;rw[yF];dsimp only;rw[List.all_map];rfl
theorem rF:∀(l:List α),(∀x∈l,∃ρ1,fg (f x) ρ= .ok ρ1/\ft ρ1= .ok (t x)/\fe ρ1= .ok (g x))->lcL ρ fg ft fe (l.map f)= .ok ((l.filter t).map g)
 |[],_=>rfl
 |x::l,h=>by
  obtain⟨ρ1,e1,e2,e3⟩:=h x List.mem_cons_self;have ih:=rF l λ y hy=>h y (List.mem_cons_of_mem _ hy)
  rw[List.map_cons];unfold lcL;rw[e1,jJ,e2,jJ,e3,jJ,ih,jJ,List.filter_cons];cases t x<;>rfl
theorem aHP{ρ:En}:∀(ps:List (Int×Int)),lcL [.no,.no] (iU 2 (bF (gnm 0) (bF (gnm 1) iw))) je (op2 ltD (aD 0) (aD 1)) (ps.map pD)= .ok (ps.map λ p=>.bl (decide (p.1<p.2)))
 |[]=>rfl
 |p::ps=>by
  unfold lcL;simp[pD,aHP (ρ:=ρ) ps]
theorem zj{n:Int}(h:Ow n ps)(low:∀p∈ps,p.1<p.2):kI [.int n,.tup (ps.map pD)]= .ok (.bl true):=by
 have hl:=h.len;have e:=mQ (m:=n) (d:=.tup (ps.map pD)) (by simpa[pln]using aB2 ps) (by simp[aHc];lia);rw[h.rp]at e;have el:=aHP (ρ:=[]) ps;have ei:lcD (dh (aD 1)) [none,none] (iU 2 (bF (gnm 0) (bF (gnm 1) iw))) je (op2 ltD (aD 0) (aD 1)) [.sh (.int n),.sh (.tup (ps.map pD))]= .ok (.lst (ps.map λ p=>.bl (decide (p.1<p.2)))):=by
  have hi:dh (aD 1) (shE [.sh (.int n),.sh (.tup (ps.map pD))])= .ok (ps.map pD):=by simp[shE,yM]
  unfold lcD;rw[hi,jJ,if_pos (by rw[szl,List.length_map];lia)]
  show(match lcL [.no,.no] _ je _ (ps.map pD)with| .ok l=>Rs.ok (D.lst l)|_=>Rs.st)=_
  rw[el]
 have ha:opA (yJ λ bs=>bs.all id) (aA (lcD (dh (aD 1)) [none,none] (iU 2 (bF (gnm 0) (bF (gnm 1) iw))) je (op2 ltD (aD 0) (aD 1))) aF) [.sh (.int n),.sh (.tup (ps.map pD))]= .ok (.bl true):=by
  rw[pL,dR,ei,jJ,xJ,jJ,jJ,aEt,aA7];rw[List.all_eq_true.mpr λ p hp=>decide_eq_true (low p hp)]
 have st:bG 2 [.int n,.tup (ps.map pD)]=[.sh (.int n),.sh (.tup (ps.map pD))]:=rfl;have ec:aR bH (aA (aD 0) (aA (aD 1) aF)) [.sh (.int n),.sh (.tup (ps.map pD))]= .ok (.bl true):=by rw[lU];exact e
 simp only[kI,fZ,cI,st];rw[oE,yI,ec,ha];rfl
theorem aC4(h:Ow n ps)(low:∀p∈ps,p.1<p.2):o6 [owD n ps]= .ok (.bl true):=by
 have e1:=aAr (d:=.int n) rfl;have e2:=zj h low;have e3:aB9 (.int n)=true:=by simp[aB9,h.n0,h.n1]
 rw[e3]at e1;simp[o6,j8,owD,bG,e1,e2]
def mn(a b:Int):Int:=if b<a then b else a
theorem tY(h1:fi (shE ρ)= .ok ds)(h2:ds.length<16777216)(h3:lcL (stE js (shE ρ)) fg ft fe ds= .ok out):lcD fi js fg ft fe ρ= .ok (.lst out):=by
 unfold lcD;rw[h1,jJ,if_pos (by rw[szl];exact h2),h3]
theorem aAi{α:Type}{f g:α->D}(l:List α)(h:∀x∈l,∃ρ1,fg (f x) ρ= .ok ρ1/\fe ρ1= .ok (g x)):lcL ρ fg je fe (l.map f)= .ok (l.map g):=by
 have:=rF (ρ:=ρ) (fg:=fg) (ft:=je) (fe:=fe) (f:=f) (g:=g) (t:=λ _=>true) l λ x hx=>by
  obtain⟨ρ1,h1,h2⟩:=h x hx;exact⟨ρ1,h1,rfl,h2⟩
 rwa [List.filter_eq_self.mpr λ _ _=>rfl]at this
def cB(ll:List (List D))(p:Int×Int):List (List D):=ll.set p.1.toNat (ll.getD p.1.toNat []++[.int p.2])
theorem pZ:∀(ps:List (Int×Int)) (ll:List (List D)),(ps.foldl cB ll).length=ll.length
 |[],_=>rfl
 |p::ps,ll=>by rw[List.foldl_cons,pZ ps];unfold cB;rw[List.length_set]
def tX(ps:List (Int×Int))(i:Int):List Int:=(ps.filter λ p=>p.1==i).map (·.2)
theorem vU:∀(ps:List (Int×Int)) (ll:List (List D)) (i:Nat),(∀p∈ps,0<=p.1/\p.1<ll.length)->i<ll.length->(ps.foldl cB ll).getD i []=ll.getD i []++(tX ps i).map .int
 |[],ll,i,_,_=>by simp[tX]
 |p::ps,ll,i,h,hi=>by
  obtain⟨h0,h1⟩:=h p List.mem_cons_self;rw[List.foldl_cons,vU ps (cB ll p) i (λ q hq=>by unfold cB;rw[List.length_set];exact h q (List.mem_cons_of_mem _ hq)) (by unfold cB;rw[List.length_set];exact hi)];unfold cB tX;by_cases c:p.1=i
  ·have hk:p.1.toNat=i:=by lia
   rw[hk,List.filter_cons_of_pos (by simpa using c)];simp[hi]
  ·have hk:p.1.toNat≠i:=by lia
   rw[List.filter_cons_of_neg (by simpa using c)];simp[List.getElem?_set_ne hk]
theorem aGA:b∈tX ps a↔(a,b)∈ps:=by
 unfold tX;simp only[List.mem_map,List.mem_filter];constructor
 ·rintro⟨p,⟨h1,h2⟩,rfl⟩
  have:p.1=a:=by simpa using h2
  rw[<-this];exact h1
 ·intro h
  exact⟨(a,b),⟨h,by simp⟩,rfl⟩
def dbl(ps:List (Int×Int)):List (Int×Int):=ps.flatMap λ p=>[p,(p.2,p.1)]
theorem jE:(a,b)∈dbl ps↔(a,b)∈ps\/(b,a)∈ps:=by
 unfold dbl;simp only[List.mem_flatMap,List.mem_cons,List.not_mem_nil,or_false];constructor
 ·rintro⟨p,hp,h|h⟩
  ·rw[h];exact .inl hp
  ·cases h;exact .inr hp
 ·rintro(h|h)
  ·exact⟨_,h,.inl rfl⟩
  ·exact⟨_,h,.inr rfl⟩
theorem aEi(p:Int×Int)(ps:List (Int×Int)):dbl (p::ps)=p::(p.2,p.1)::dbl ps:=rfl
theorem aBr(hi:ρ[i]? =some (.o2 ll))(hf:f ρ= .ok (.int a))(hg:g ρ= .ok (.int b))(h0:0<=a)(h1:a<ll.length)(hz:(ll.getD a.toNat []).length<16777216):
  mq i f g ρ= .nx (ρ.set i (.o2 (cB ll (a,b)))):=by
 have hk:a.toNat<ll.length:=by lia
 have ha:at2 ll (.int a)=some (a.toNat,ll.getD a.toNat []):=by
  have hx:ixN ll.length a=some a.toNat:=by
   unfold ixN;rw[if_pos (by lia),if_pos (by lia)]
  simp only[at2,hx,Option.bind_some];rw[List.getElem?_eq_getElem hk];simp[hk]
 unfold mq;rw[hi];dsimp only;rw[hf,dH,ha];dsimp only;rw[hg,dH,if_pos (by rw[sizeLine_eq];exact hz)];rfl
theorem rW(ll:List (List D))(p:Int×Int):(cB ll p).length=ll.length:=by unfold cB;rw[List.length_set]
theorem aBN(h:∀l∈ll,l.length<=m):∀l∈cB ll p,l.length<=m+1:=by
 intro l hl;unfold cB at hl;rcases List.mem_or_eq_of_mem_set hl with z|z
 ·exact Nat.le_succ_of_le (h l z)
 ·subst z
  rw[List.length_append,List.length_singleton]
  have:(ll.getD p.1.toNat []).length<=m:=by
   by_cases hk:p.1.toNat<ll.length
   ·exact h _ (by simp[hk])
   ·simp[List.getElem?_eq_none (Nat.le_of_not_lt hk)]
  lia
theorem aBi{ll:List (List D)}(h:∀l∈ll,l.length<=m)(k:Nat):(ll.getD k []).length<=m:=by
 by_cases hk:k<ll.length
 ·exact h _ (by simp[hk])
 ·simp[List.getElem?_eq_none (Nat.le_of_not_lt hk)]
def atB:En->Ou:=aY (mq 3 (aD 4) (bA (aD 5))) (mq 3 (aD 5) (bA (aD 4)))
theorem vA{w s1 s2:Slot}:∀(ps:List (Int×Int)) (ll:List (List D)) (s4 s5:Slot),(∀p∈ps,0<=p.1/\p.1<ll.length/\0<=p.2/\p.2<ll.length)->(∀l∈ll,l.length+2*ps.length<=10000)->
  ∃s4' s5',forL (iU 2 (bF (gnm 4) (bF (gnm 5) iw))) atB (ps.map pD) [w,s1,s2,.o2 ll,s4,s5]= .nx [w,s1,s2,.o2 ((dbl ps).foldl cB ll),s4',s5']
 |[],ll,s4,s5,_,_=>⟨s4,s5,rfl⟩
 |p::ps,ll,s4,s5,h,hl=>by
  obtain⟨a0,a1,b0,b1⟩:=h p List.mem_cons_self;have hb0:∀l∈ll,l.length<=10000-2*(ps.length+1):=λ l hm=>by
   have:=hl l hm
   rw[List.length_cons]at this;lia
  have hb1:=aBN (p:=p) hb0;have hb2:=aBN (p:=(p.2,p.1)) hb1;by_cases hne:ll=[]
  ·subst hne
   simp at a1;lia
  have hbig:2*(ps.length+1)<=10000:=by
   obtain⟨l,hm⟩:=List.exists_mem_of_ne_nil ll hne
   have:=hl l hm
   rw[List.length_cons]at this;lia
  obtain⟨s4',s5',e⟩:=vA (w:=w) (s1:=s1) (s2:=s2) ps (cB (cB ll p) (p.2,p.1)) (.sh (.int p.1)) (.sh (.int p.2)) (λ q hq=>by rw[rW,rW];exact h q (List.mem_cons_of_mem _ hq)) (λ l hm=>by have:=hb2 l hm;lia);refine⟨s4',s5',?_⟩;rw[List.map_cons,dm,aEi,List.foldl_cons,List.foldl_cons];have hg:okE (iU 2 (bF (gnm 4) (bF (gnm 5) iw)) (pD p) [w,s1,s2,.o2 ll,s4,s5]) (λ ρ1=>(atB ρ1).tn (forL (iU 2 (bF (gnm 4) (bF (gnm 5) iw))) atB (ps.map pD)))=
    (atB [w,s1,s2,.o2 ll,.sh (.int p.1),.sh (.int p.2)]).tn (forL (iU 2 (bF (gnm 4) (bF (gnm 5) iw))) atB (ps.map pD)):=by
   simp[pD]
  have c1:mq 3 (aD 4) (bA (aD 5)) [w,s1,s2,.o2 ll,.sh (.int p.1),.sh (.int p.2)]= .nx [w,s1,s2,.o2 (cB ll p),.sh (.int p.1),.sh (.int p.2)]:=
   aBr (a:=p.1) (b:=p.2) rfl (by simp) (by simp) a0 a1 (by have:=aBi hb0 p.1.toNat;lia)
  have c2:mq 3 (aD 5) (bA (aD 4)) [w,s1,s2,.o2 (cB ll p),.sh (.int p.1),.sh (.int p.2)]= .nx [w,s1,s2,.o2 (cB (cB ll p) (p.2,p.1)),.sh (.int p.1),.sh (.int p.2)]:=
   aBr (a:=p.2) (b:=p.1) rfl (by simp) (by simp) b0 (by rw[rW];exact b1) (by have:=aBi hb1 p.2.toNat;lia)
  have hc:atB [w,s1,s2,.o2 ll,.sh (.int p.1),.sh (.int p.2)]= .nx [w,s1,s2,.o2 (cB (cB ll p) (p.2,p.1)),.sh (.int p.1),.sh (.int p.2)]:=by
   unfold atB;rw[aW,c1,bL,c2]
  rw[hg,hc,rQ];exact e
structure aJF(n:Int)(es:List (Int×Int))(ll:List (List D)):Prop where
 len:ll.length=n.toNat
 item:∀i:Int,0<=i->i<n->∃ws:List Int,atD (ll.map .lst) i= .ok (.lst (ws.map .int))/\∀b,b∈ws↔(i,b)∈es
theorem zm(h:Ow n ps):∃ll,gD [owD n ps]= .ok (.lst (ll.map .lst))/\aJF n (dbl ps) ll:=by
 have hn0:=h.n0;have hn1:=h.n1;have hr:=jC (j:=n) (by lia) (by lia);have hlen:(bB 0 n).length=n.toNat:=by rw[fC];lia
 have hps:=h.len;have hin:∀p∈ps,0<=p.1/\p.1<(List.replicate n.toNat ([]:List D)).length/\0<=p.2/\p.2<(List.replicate n.toNat ([]:List D)).length:=λ p hp=>by
  obtain⟨a,b,c,d,_⟩:=h.pr p hp;rw[List.length_replicate];lia
 have hin2:∀p∈dbl ps,0<=p.1/\p.1<(List.replicate n.toNat ([]:List D)).length:=λ p hp=>by
  rcases jE.mp (show(p.1,p.2)∈dbl ps from hp)with z|z
  ·have:=hin _ z;exact⟨this.1,this.2.1⟩
  ·have:=hin _ z;exact⟨this.2.2.1,this.2.2.2⟩
 obtain⟨s4,s5,e⟩:=vA (w:=.sh (owD n ps)) (s1:=.sh (.int n)) (s2:=.sh (.tup (ps.map pD))) ps (List.replicate n.toNat []) .no .no hin (λ l hl=>by
  rw[(List.mem_replicate.mp hl).2];simp;lia)
 refine⟨(dbl ps).foldl cB (List.replicate n.toNat []),?_,by rw[pZ,List.length_replicate],λ i h0 h1=>⟨tX (dbl ps) i,?_,λ b=>aGA⟩⟩
 ·have hz:n.toNat<16777216:=by lia
  have a0:aEs (aD 0) (iU 2 (bF (gnm 1) (bF (gnm 2) iw))) [.sh (owD n ps),.no,.no,.no,.no,.no]= .nx [.sh (owD n ps),.sh (.int n),.sh (.tup (ps.map pD)),.no,.no,.no]:=by
   simp[owD]
  have a1:llS 3 (cZ dZ (aA (aD 1) aF)) [none] (gnm 0) [.sh (owD n ps),.sh (.int n),.sh (.tup (ps.map pD)),.no,.no,.no]= .nx [.sh (owD n ps),.sh (.int n),.sh (.tup (ps.map pD)),.o2 (List.replicate n.toNat []),.no,.no]:=by
   unfold llS;simp[shE,yM,hr,hlen,hz]
  have a2:dO (dh (aD 2)) (iU 2 (bF (gnm 4) (bF (gnm 5) iw))) atB [.sh (owD n ps),.sh (.int n),.sh (.tup (ps.map pD)),.o2 (List.replicate n.toNat []),.no,.no]= .nx [.sh (owD n ps),.sh (.int n),.sh (.tup (ps.map pD)),.o2 ((dbl ps).foldl cB (List.replicate n.toNat [])),s4,s5]:=by
   have hi:dh (aD 2) [.sh (owD n ps),.sh (.int n),.sh (.tup (ps.map pD)),.o2 (List.replicate n.toNat []),.no,.no]= .ok (ps.map pD):=by simp
   rw[gH,hi,dH];exact e
  have a3:retS (rN 3) [.sh (owD n ps),.sh (.int n),.sh (.tup (ps.map pD)),.o2 ((dbl ps).foldl cB (List.replicate n.toNat [])),s4,s5]= .rt (.lst (((dbl ps).foldl cB (List.replicate n.toNat [])).map .lst)):=by simp
  have st:bG 6 [owD n ps]=[.sh (owD n ps),.no,.no,.no,.no,.no]:=rfl;have df:fj=aY (aEs (aD 0) (iU 2 (bF (gnm 1) (bF (gnm 2) iw)))) (aY (llS 3 (cZ dZ (aA (aD 1) aF)) [none] (gnm 0)) (aY (dO (dh (aD 2)) (iU 2 (bF (gnm 4) (bF (gnm 5) iw))) atB) (retS (rN 3)))):=rfl;simp only[gD,df,cI,st];rw[aW,a0,bL,aW,a1,bL,aW,a2,bL,a3]
 ·have hk:i.toNat<(List.replicate n.toNat ([]:List D)).length:=by rw[List.length_replicate];lia
  have hg:=vU (dbl ps) (List.replicate n.toNat []) i.toNat hin2 hk;have hk2:i.toNat<((dbl ps).foldl cB (List.replicate n.toNat [])).length:=by rw[pZ];exact hk
  have hi:((i.toNat:Nat):Int)=i:=Int.toNat_of_nonneg h0;rw[hi]at hg;rw[<-hi];refine fJ ?_;rw[hi,List.getElem?_map,List.getElem?_eq_getElem hk2]
  have:((dbl ps).foldl cB (List.replicate n.toNat []))[i.toNat]=(tX (dbl ps) i).map .int:=by
   have e1:((dbl ps).foldl cB (List.replicate n.toNat [])).getD i.toNat []=((dbl ps).foldl cB (List.replicate n.toNat []))[i.toNat]:=by simp[hk2]
   rw[<-e1,hg];have e2:(List.replicate n.toNat ([]:List D)).getD i.toNat []=[]:=by
    rw[List.getD_eq_getElem?_getD,List.getElem?_replicate];split<;>rfl
   rw[e2,List.nil_append]
  rw[this];rfl
def dM(ps:List (Int×Int)):List Int->Bool
 |a::b::r=>decide ((a,b)∈ps)&&dM ps (b::r)
 |_=>true
def aKT:D->Bool
 | .tup l=>decide (l.length<4000)
 |_=>true
theorem aCb{l:List D}{k:Nat}(h:k<=l.length):cutD l (some (k:Int)) none=l.drop k:=by
 have e1:HT.sIx l.length 0 (some (k:Int))=k:=by simp[HT.sIx];lia
 have e2:HT.sIx l.length l.length none=l.length:=rfl;unfold cutD;rw[e1,e2,List.take_of_length_le (by rw[List.length_drop];exact Nat.le_refl _)]
theorem xf{a:D->En->Rs En}{u:En->Ou}{I:En->Prop}:∀(ds:List D) (ρ:En),I ρ->(∀d∈ds,∀ρ,I ρ->∃ρ',okE (a d ρ) u= .nx ρ'/\I ρ')->∃ρ',forL a u ds ρ= .nx ρ'/\I ρ'
 |[],ρ,h,_=>⟨ρ,rfl,h⟩
 |d::ds,ρ,h,H=>by
  rw[dm];have tnE:∀(r':Rs En) (k:En->Ou),okE r' (λ ρ1=>(u ρ1).tn k)=(okE r' u).tn k:=λ r' k=>by cases r'<;>rfl
  rw[tnE];obtain⟨ρ',e,hI⟩:=H d List.mem_cons_self ρ h;rw[e,rQ];exact xf ds ρ' hI λ y hy=>H y (List.mem_cons_of_mem _ hy)
theorem xQ{p q:Int×Int}:ltP p q=true↔p.1<q.1\/p.1=q.1/\p.2<q.2:=by
 unfold ltP;have e:HT.lexLt [p.1,p.2] [q.1,q.2]=true↔p.1<q.1\/p.1=q.1/\p.2<q.2:=by
  by_cases h1:p.1=q.1
  ·by_cases h2:p.2=q.2
   ·simp[HT.lexLt,h1,h2]
   ·simp[HT.lexLt,h1,h2]
  ·simp[HT.lexLt,h1]
 exact e
theorem aDQ{ps:List (Int×Int)}{q:Int×Int}(h:oA ps=true)(l:∀p∈ps,ltP p q=true):oA (ps++[q])=true:=by
 rw[rC]at h ⊢;intro i a b e1 e2;by_cases hi:i+1<ps.length
 ·rw[List.getElem?_append_left (by lia)]at e1
  rw[List.getElem?_append_left hi]at e2;exact h i a b e1 e2
 ·have hj:=(List.getElem?_eq_some_iff.mp e2).1
  rw[List.length_append,List.length_singleton]at hj;have hk:i+1=ps.length:=by lia
  rw[List.getElem?_append_left (by lia)]at e1;rw[hk,List.getElem?_append_right (Nat.le_refl _),Nat.sub_self]at e2;cases e2;exact l a (List.mem_of_getElem? e1)
structure Wi(n a b:Int)(ps:List (Int×Int)):Prop where
 ris:oA ps=true
 pr:∀p∈ps,0<=p.1/\p.1<p.2/\p.2<n/\(p.1<a\/p.1=a/\p.2<b)
theorem Wi.put(W:Wi n a b ps)(h0:0<=a)(h1:a<b)(h2:b<n):Wi n a (b+1) (ps++[(a,b)]):=by
 refine⟨aDQ W.ris λ p hp=>?_,λ p hp=>?_⟩
 ·obtain⟨_,_,_,h⟩:=W.pr p hp
  rw[xQ];exact h
 ·rcases List.mem_append.mp hp with hp|hp
  ·obtain⟨q1,q2,q3,q4⟩:=W.pr p hp
   exact⟨q1,q2,q3,by lia⟩
  ·rw[List.mem_singleton.mp hp]
   exact⟨h0,h1,h2,.inr ⟨rfl,by show b<b+1;lia⟩⟩
theorem Wi.on{a' b':Int}(W:Wi n a b ps)(h:a<a'\/a=a'/\b<=b'):Wi n a' b' ps:=⟨W.ris,λ p hp=>by
 obtain⟨q1,q2,q3,q4⟩:=W.pr p hp;exact⟨q1,q2,q3,by lia⟩⟩
def wbI:En->Ou:=ifS (tsb (op2 ltD (aR aL (aA (aD 0) (aA (op2 bQ (op2 bQ (cD (.int 3)) (op2 jZ (cD (.int 61)) (aD 5))) (aD 6)) (aA (cD (.int 8)) aF)))) (aD 3))) (kh 4 (cA (aA (bA (aD 5)) (aA (bA (aD 6)) aF)))) Ou.nx
def wbO:En->Ou:=dO (cZ ud (aA (op2 bQ (aD 5) (cD (.int 1))) (aA (aD 2) aF))) (gnm 6) wbI
theorem aAj{most:Nat}(h1:most<=60):∃n ps,iC [.int c,.int most]= .ok (owD n ps)/\Ow n ps/\(∀p∈ps,p.1<p.2)/\n<=most:=by
 obtain⟨n,en,hn⟩:=dW (c:=c) (k:=0) (b:=(most:Int)+1) (by decide) (by decide) (by lia) (by lia);obtain⟨th,et,_⟩:=dW (c:=c) (k:=1) (b:=6) (by decide) (by decide) (by decide) (by decide);have hr1:=jC (j:=(n:Int)) (by lia) (by lia);have inner:∀(a:Int) (K0:Nat) (ps:List (Int×Int)) (s2:Slot),0<=a->a<n->K0<=3600->ps.length<=K0->Wi n a (a+1) ps->
   ∃ps' s2',forL (gnm 6) wbI (bB (a+1) n) [.sh (.int c),.sh (.int most),.sh (.int n),.sh (.int (1+th)),.ow (.lst (ps.map pD)),.sh (.int a),s2]= .nx [.sh (.int c),.sh (.int most),.sh (.int n),.sh (.int (1+th)),.ow (.lst (ps'.map pD)),.sh (.int a),s2']/\ps'.length<=K0+60/\Wi n a n ps':=by
  intro a K0 ps s2 ha0 ha1 hK hl W;obtain⟨ρ',e,ps',s',rfl,hl',W'⟩:=j6 (a:=gnm 6) (u:=wbI) (ds:=bB (a+1) n)
   (λ k ρ=>∃(ps:List (Int×Int)) (s2:Slot),ρ=[.sh (.int c),.sh (.int most),.sh (.int n),.sh (.int (1+th)),.ow (.lst (ps.map pD)),.sh (.int a),s2]/\ps.length<=K0+k/\Wi n a (a+1+k) ps)
   (by
    rintro i d ρ hd ⟨ps,s2,rfl,hps,W⟩;obtain⟨rfl,hlt⟩:=iJ hd;have hm:jZ (.int 61) (.int a)= .ok (.int (61*a)):=xN (by decide) (by decide);obtain⟨r,er,_⟩:=dW (c:=c) (k:=3+61*a+(a+1+i)) (b:=8) (by lia) (by lia) (by decide) (by decide);have hz:ps.length<16777216:=by lia
    by_cases hlt2:(r:Int)<1+th
    ·exact⟨_,by simp[wbI,hm,er,hlt2,kh,hz];rfl,ps++[(a,a+1+i)],_,by simp[pD];rfl,by simp;lia,by rw[show a+1+((i+1:Nat):Int)=a+1+(i:Int)+1 by lia];exact W.put ha0 (by lia) (by lia)⟩
    ·exact⟨_,by simp[wbI,hm,er,hlt2];rfl,ps,_,rfl,by lia,W.on (by lia)⟩)
   (ρ:=[.sh (.int c),.sh (.int most),.sh (.int n),.sh (.int (1+th)),.ow (.lst (ps.map pD)),.sh (.int a),s2]) ⟨ps,s2,rfl,by lia,W.on (by lia)⟩
  rw[fC]at hl' W';exact⟨ps',s',e,by lia,W'.on (by lia)⟩
 obtain⟨ρ',e,ps,s1,s2,rfl,hl,W⟩:=j6 (a:=gnm 5) (u:=wbO) (ds:=bB 0 n)
  (λ k ρ=>∃(ps:List (Int×Int)) (s1 s2:Slot),ρ=[.sh (.int c),.sh (.int most),.sh (.int n),.sh (.int (1+th)),.ow (.lst (ps.map pD)),s1,s2]/\ps.length<=60*k/\Wi n k 0 ps)
  (by
   rintro i d ρ hd ⟨ps,s1,s2,rfl,hps,W⟩;obtain⟨rfl,hlt⟩:=iJ hd;have hr2:=wV (i:=0+(i:Int)+1) (j:=(n:Int)) (by lia) (by lia) (by lia) (by lia);obtain⟨ps',s2',e,hl',W'⟩:=inner (0+(i:Int)) (60*i) ps s2 (by lia) (by lia) (by lia) hps ⟨W.ris,λ p hp=>by obtain⟨q1,q2,q3,q4⟩:=W.pr p hp;exact⟨q1,q2,q3,by lia⟩⟩;refine⟨_,?_,ps',.sh (.int (0+(i:Int))),s2',rfl,by lia,W'.on (by lia)⟩;simp only[Int.zero_add]at hr2 e ⊢;simp[wbO,hr2,e])
  (ρ:=[.sh (.int c),.sh (.int most),.sh (.int n),.sh (.int (1+th)),.ow (.lst []),.no,.no]) ⟨[],.no,.no,rfl,by simp,rfl,λ p hp=>by cases hp⟩
 rw[fC]at hl;refine⟨n,ps,?_,⟨by lia,by lia,by lia,λ p hp=>by obtain⟨q1,q2,q3,q4⟩:=W.pr p hp;exact⟨q1,by lia,by lia,q3,by lia⟩,W.ris⟩,λ p hp=>(W.pr p hp).2.1,by lia⟩;have st:bG 7 [.int c,.int most]=[.sh (.int c),.sh (.int most),.no,.no,.no,.no,.no]:=rfl;have df:gq=aY (cY 2 (aR aL (aA (aD 0) (aA (cD (.int 0)) (aA (op2 bQ (aD 1) (cD (.int 1))) aF)))))
  (aY (cY 3 (op2 bQ (cD (.int 1)) (aR aL (aA (aD 0) (aA (cD (.int 1)) (aA (cD (.int 6)) aF))))))
  (aY (gh 4 (fM aF)) (aY (dO (cZ dZ (aA (aD 2) aF)) (gnm 5) wbO)
  (retS (cA (aA (bA (aD 2)) (aA (opA cj (aA (rN 4) aF)) aF))))))):=rfl
 simp only[iC,df,cI,st];simp[en,et,hr1,e,owD]
theorem aBe:∀{l:List D},(∀d∈l,imm d=true)->uo l=true
 |[],_=>rfl
 |x::r,h=>by
  simp only[uo,Bool.and_eq_true];exact⟨h x (List.mem_cons_self ..),aBe λ d hd=>h d (List.mem_cons_of_mem _ hd)⟩
theorem z6{k:Nat}:∀{l:List D},(∀d∈l,fP d<=k)->bW l<=k
 |[],_=>Nat.zero_le _
 |x::r,h=>by
  unfold bW;exact Nat.max_le.mpr ⟨h x List.mem_cons_self,z6 λ d hd=>h d (List.mem_cons_of_mem _ hd)⟩
theorem vO:∀{l:List D},(∀d∈l,aQ d=true)->aj l=true
 |[],_=>rfl
 |x::r,h=>by
  unfold aj;rw[h x List.mem_cons_self,vO λ d hd=>h d (List.mem_cons_of_mem _ hd)];rfl
structure El(k:Nat)(d:D):Prop where
 p:pln d=true
 e:fP d<=k
 n:aQ d=true
 i:imm d=true
theorem El.tup{k:Nat}{l:List D}(h:∀d∈l,El k d):El (k+1) (.tup l):=⟨by unfold pln;exact aB3 λ d hd=>(h d hd).p,by unfold fP;exact Nat.succ_le_succ (z6 λ d hd=>(h d hd).e),by unfold aQ;exact vO λ d hd=>(h d hd).n,by unfold imm;exact aBe λ d hd=>(h d hd).i⟩
theorem El.int{k:Nat}{i:Int}:El k (.int i):=⟨rfl,Nat.zero_le _,rfl,rfl⟩
theorem El.ints{k:Nat}{ws:List Int}:∀d∈ws.map D.int,El k d:=λ d hd=>by obtain⟨w,_,rfl⟩:=List.mem_map.mp hd;exact .int
theorem El.g{k:Nat}(h:El k d):uC d= .ok d:=aG7 h.i
theorem aK0{l m:List D}(h:l.length+m.length<=16777216):bQ (.tup l) (.tup m)= .ok (.tup (l++m)):=by rw[aEu,if_pos h]
structure Fn4(d:D):Prop where
 p:pln d=true
 s:aKT d=true
 e:fP d<=60
 n:aQ d=true
theorem aEQ{c:En->Rs Bool}{b:En->Ou}{I:Nat->En->Prop}(st:∀m ρ,I m ρ->c ρ= .ok false\/(c ρ= .ok true/\∃ρ' m',b ρ= .nx ρ'/\m'<m/\I m' ρ')):
  ∀(n m:Nat) (ρ:En),m<n->I m ρ->∃ρ' m',itW c b n ρ= .nx ρ'/\I m' ρ'/\c ρ'= .ok false
 |0,_,_,h,_=>absurd h (Nat.not_lt_zero _)
 |n+1,m,ρ,h,hI=>by
  rcases st m ρ hI with e|⟨e,ρ',m',e2,hm,hI'⟩
  ·exact⟨ρ,m,by unfold itW;rw[e];rfl,hI,e⟩
  ·obtain⟨ρ2,m2,e3,r⟩:=aEQ st n m' ρ' (by lia) hI'
   refine⟨ρ2,m2,?_,r⟩;unfold itW;rw[e,dH,if_pos rfl,e2];exact e3
theorem aCp{c:En->Rs Bool}{b:En->Ou}(I:Nat->En->Prop)(st:∀m ρ,I m ρ->c ρ= .ok false\/(c ρ= .ok true/\∃ρ' m',b ρ= .nx ρ'/\m'<m/\I m' ρ')){m:Nat}{ρ:En}(hm:m<1000000)(h:I m ρ):
  ∃ρ' m',vp c b ρ= .nx ρ'/\I m' ρ'/\c ρ'= .ok false:=aEQ st fuel m ρ hm h
def upI(n:Int):List Int:=(List.range n.toNat).map λ(k:Nat)=>(k:Int)
theorem wU(n:Int):bB 0 n=(upI n).map .int:=by
 unfold bB upI;rw[List.map_map,show(n-0).toNat=n.toNat by lia];exact List.map_congr_left λ k _=>by simp
theorem iQ{x n:Int}:x∈upI n↔0<=x/\x<n:=by
 unfold upI;rw[List.mem_map];constructor
 ·rintro⟨k,hk,rfl⟩
  have:=List.mem_range.mp hk
  lia
 ·rintro⟨h0,h1⟩
  exact⟨x.toNat,List.mem_range.mpr (by lia),by lia⟩
theorem eY(n:Int):(upI n).length=n.toNat:=by unfold upI;simp
theorem uT{es:List (Int×Int)}{v:Int}:∀{ws:List Int} (h:ws≠[]),dM es ws=true->(ws.getLast h,v)∈es->dM es (ws++[v])=true
 |[a],_,_,h2=>by simpa[dM]using h2
 |a::b::r,_,h1,h2=>by
  simp only[dM,Bool.and_eq_true,decide_eq_true_eq]at h1
  have:=uT (ws:=b::r) (by simp) h1.2 (by simpa using h2)
  rw[List.cons_append,List.cons_append,dM,Bool.and_eq_true,decide_eq_true_eq];exact⟨h1.1,by simpa using this⟩
theorem aBy(h:l.length<64):iH [.lst (l.map .int)]= .ok (.lst ((sortI l).map .int)):=by
 cases l with
 |nil=>rfl
 |cons i r=>
  have e:jh ((i::r).map D.int)=none:=rfl;unfold iH;dsimp only;rw[e];dsimp only;rw[iT];dsimp only;rw[if_pos h]
theorem aHO(hf:f ρ= .ok (.int n))(h0:0<=n)(h1:n<=60):lrD f ρ= .ok (.lst (bB 0 n)):=by
 unfold lrD;rw[hf,jJ];unfold lrR;simp;lia
theorem xu(h:Ow n ps)(low:∀p∈ps,p.1<p.2):eV [owD n ps]= .ok .non:=by
 have st:bG 1 [owD n ps]=[.sh (owD n ps)]:=rfl;simp only[eV,eF,cI,st];simp[aC4 h low]
inductive Cn(es:List (Int×Int))(a:Int):Int->Prop where
 |refl:Cn es a a
 |step {b c:Int} (h:Cn es a b) (e:(b,c)∈es):Cn es a c
theorem Cn.trans{es:List (Int×Int)}{a b c:Int}(h:Cn es a b)(k:Cn es b c):Cn es a c:=by
 induction k with
 |refl=>exact h
 |step _ e ih=>exact ih.step e
def Sym(es:List (Int×Int)):Prop:=∀a b,(a,b)∈es->(b,a)∈es
theorem xm(ps:List (Int×Int)):Sym (dbl ps):=λ a b h=>jE.mpr (jE.mp h).symm
theorem Cn.symm{es:List (Int×Int)}(S:Sym es){a b:Int}(h:Cn es a b):Cn es b a:=by
 induction h with
 |refl=>exact .refl
 |step _ e ih=>exact Cn.trans (.step .refl (S _ _ e)) ih
theorem Cn.inn{es:List (Int×Int)}{n a b:Int}(hin:∀x y,(x,y)∈es->0<=y/\y<n)(h:Cn es a b)(ha:0<=a/\a<n):0<=b/\b<n:=by
 induction h with
 |refl=>exact ha
 |step _ e _=>exact hin _ _ e
theorem vo{es:List (Int×Int)}:∀{l m:List Int},dM es (l++m)=true->dM es l=true
 |[],_,_=>rfl
 |[a],_,_=>rfl
 |a::b::r,m,h=>by
  rw[List.cons_append,List.cons_append,dM,Bool.and_eq_true]at h;rw[dM,Bool.and_eq_true];exact⟨h.1,vo (l:=b::r) (by simpa using h.2)⟩
structure aKD(es:List (Int×Int))(a b:Int)(l:List Int):Prop where
 hd:l.head?=some a
 lt:l.getLast?=some b
 al:dM es l=true
theorem Cn.path{es:List (Int×Int)}{a b:Int}(h:Cn es a b):∃l,aKD es a b l/\l.Nodup:=by
 induction h with
 |refl=>exact⟨[a],⟨rfl,rfl,rfl⟩,by simp⟩
 |step _ e ih=>
  rename_i b c _;obtain⟨l,P,nd⟩:=ih;have hne:l≠[]:=by intro z;have:=P.hd;rw[z]at this;cases this
  by_cases hc:c∈l
  ·obtain⟨l1,l2,rfl⟩:=List.append_of_mem hc
   refine⟨l1++[c],⟨?_,by simp,vo (m:=l2) (by rw[List.append_assoc];exact P.al)⟩,?_⟩
   ·have:=P.hd
    cases l1 with
    |nil=>simpa using this
    |cons x r=>simpa using this
   ·have e2:l1++c::l2=(l1++[c])++l2:=by simp
    rw[e2]at nd;exact(List.nodup_append.mp nd).1
  ·refine⟨l++[c],⟨?_,by simp,?_⟩,?_⟩
   ·have:=P.hd
    cases l with
    |nil=>exact absurd rfl hne
    |cons x r=>simpa using this
   ·refine uT hne P.al ?_
    have:=P.lt
    rw[List.getLast?_eq_some_getLast hne]at this;rw[Option.some.inj this];exact e
   ·rw[List.nodup_append]
    exact⟨nd,by simp,λ x hx y hy z=>by rw[List.mem_singleton.mp hy]at z;subst z;exact hc hx⟩
theorem yo{es:List (Int×Int)}{a:Int}:∀{l:List Int},dM es (a::l)=true->∀x∈a::l,Cn es a x
 |[],_,x,hx=>by rw[List.mem_singleton.mp hx];exact .refl
 |b::r,h,x,hx=>by
  rw[dM,Bool.and_eq_true,decide_eq_true_eq]at h;rcases List.mem_cons.mp hx with rfl|hx
  ·exact .refl
  ·exact Cn.trans (.step .refl h.1) (yo h.2 x hx)
def prB(p:Prop):Bool:=@decide p (Classical.propDecidable p)
theorem wg{p:Prop}:prB p=true↔p:=@decide_eq_true_iff p (Classical.propDecidable p)
def bD(n:Int)(es:List (Int×Int))(a:Int):List Int:=(upI n).filter λ b=>prB (Cn es a b)
theorem tO{n a b:Int}{es:List (Int×Int)}:b∈bD n es a↔(0<=b/\b<n)/\Cn es a b:=by
 unfold bD;rw[List.mem_filter,iQ,wg]
def bj(es:List (Int×Int))(a:Int):Bool:=prB (∀b,0<=b->Cn es a b->a<=b)
theorem pP{es:List (Int×Int)}{a:Int}:bj es a=true↔∀b,0<=b->Cn es a b->a<=b:=wg
def iK(n:Int)(es:List (Int×Int)):List (List Int):=((upI n).filter (bj es)).map (bD n es)
theorem vq(n:Int):(upI n).Pairwise (·< ·):=by
 unfold upI;rw[List.pairwise_map];exact List.pairwise_lt_range.imp λ h=>by lia
theorem aAL:∀{l m:List Int},l.Pairwise (·< ·)->m.Pairwise (·< ·)->(∀x,x∈l↔x∈m)->l=m
 |[],[],_,_,_=>rfl
 |[],b::m,_,_,h=>by have:=(h b).mpr List.mem_cons_self;cases this
 |a::l,[],_,_,h=>by have:=(h a).mp List.mem_cons_self;cases this
 |a::l,b::m,h1,h2,h=>by
  obtain⟨p1,p2⟩:=List.pairwise_cons.mp h1;obtain⟨q1,q2⟩:=List.pairwise_cons.mp h2;have e:a=b:=by
   rcases List.mem_cons.mp ((h a).mp List.mem_cons_self)with z|z
   ·exact z
   ·rcases List.mem_cons.mp ((h b).mpr List.mem_cons_self)with y|y
    ·exact y.symm
    ·have:=q1 a z;have:=p1 b y;lia
  subst e;rw[aAL p2 q2 λ x=>?_];constructor
  ·intro hx
   rcases List.mem_cons.mp ((h x).mp (List.mem_cons_of_mem _ hx))with z|z
   ·subst z;have:=p1 x hx;lia
   ·exact z
  ·intro hx
   rcases List.mem_cons.mp ((h x).mpr (List.mem_cons_of_mem _ hx))with z|z
   ·subst z;have:=q1 x hx;lia
   ·exact z
theorem nj{l:List Int}(nd:l.Nodup):(sortI l).Pairwise (·< ·):=by
 have h1:=gk l;have h2:(sortI l).Nodup:=(sortI_perm l).nodup_iff.mpr nd;rw[List.nodup_iff_pairwise_ne]at h2;exact(h1.and h2).imp λ⟨a,b⟩=>by lia
theorem aAE{n a:Int}{es:List (Int×Int)}{l:List Int}(nd:l.Nodup)(h:∀x,x∈l↔(0<=x/\x<n)/\Cn es a x):sortI l=bD n es a:=
 aAL (nj nd) ((vq n).filter _) λ x=>by rw[(sortI_perm l).mem_iff,h,tO]
def pwI:En->Ou:=ifS (tsb (op2 (inR true) (aD 5) (cP 2))) (kh 2 (bA (aD 5))) Ou.nx
def pwW:En->Ou:=aY (lF 4 (bA (op2 ixD (cP 2) (aD 3)))) (aY (dO (dh (op2 ixD (aD 0) (iG 4))) (gnm 5) pwI) (aGk (i2 (λ _ _=>true) λ a b=>.int (a+b)) 3 (cD (.int 1))))
def pwT:En->Rs Bool:=tsb (op2 ltD (aD 3) (opA gM (aA (cP 2) aF)))
theorem uf:du=aY (gh 2 (fM (aA (bA (aD 1)) aF))) (aY (cY 3 (cD (.int 0))) (aY (vp pwT pwW) (retS (opA cj (aA (opA iH (aA (cP 2) aF)) aF))))):=rfl
abbrev wE(ll:List (List D))(a:Int)(part:List Int)(k:Int)(s4 s5:Slot):En:=[.sh (.lst (ll.map .lst)),.sh (.int a),.ow (.lst (part.map .int)),.sh (.int k),s4,s5]
structure Pw(n:Int)(es:List (Int×Int))(a:Int)(part:List Int):Prop where
 nd:part.Nodup
 cn:∀x∈part,Cn es a x
 inn:∀x∈part,0<=x/\x<n
 st:a∈part
section
variable{n:Int}{es:List (Int×Int)}{ll:List (List D)}{a k:Int}{part:List Int}{s4 s5:Slot}
theorem Pw.len(P:Pw n es a part):part.length<=n.toNat:=by
 have:=sub_len (l':=upI n) P.nd λ x hx=>iQ.mpr (P.inn x hx)
 rwa [eY]at this
theorem sX(hn:n<=60)(hin:∀x y,(x,y)∈es->0<=y/\y<n){p:Int}:∀(us:List Int) (part:List Int) (s5:Slot),(∀u∈us,(p,u)∈es)->p∈part->Pw n es a part->
  ∃part' s5',forL (gnm 5) pwI (us.map .int) (wE ll a part k s4 s5)= .nx (wE ll a part' k s4 s5')/\Pw n es a part'/\(∃m,part'=part++m)/\∀u∈us,u∈part'
 |[],part,s5,_,_,P=>⟨part,s5,rfl,P,⟨[],by simp⟩,λ u hu=>by cases hu⟩
 |u::us,part,s5,h,hp,P=>by
  have hu:=h u List.mem_cons_self;have hl:=P.len;rw[List.map_cons,dm,aE7,tG]
  show∃part' s5',(pwI (wE ll a part k s4 (.sh (.int u)))).tn _=_/\_
  have hi:=aGU true u part;by_cases hm:u∈part
  ·have e:pwI (wE ll a part k s4 (.sh (.int u)))= .nx (wE ll a part k s4 (.sh (.int u))):=by simp[pwI,hi,hm]
   rw[e,rQ];obtain⟨part',s5',e2,P',⟨m,hm'⟩,h2⟩:=sX hn hin us part (.sh (.int u)) (λ v hv=>h v (List.mem_cons_of_mem _ hv)) hp P;refine⟨part',s5',e2,P',⟨m,hm'⟩,λ v hv=>?_⟩;rcases List.mem_cons.mp hv with rfl|hv
   ·rw[hm'];exact List.mem_append_left _ hm
   ·exact h2 v hv
  ·have hz:part.length<16777216:=by lia
   have e:pwI (wE ll a part k s4 (.sh (.int u)))= .nx (wE ll a (part++[u]) k s4 (.sh (.int u))):=by simp[pwI,hi,hm,kh,hz]
   rw[e,rQ];have P1:Pw n es a (part++[u]):=by
    refine⟨?_,λ x hx=>?_,λ x hx=>?_,List.mem_append_left _ P.st⟩
    ·rw[List.nodup_append]
     exact⟨P.nd,by simp,λ x hx y hy z=>by rw[List.mem_singleton.mp hy]at z;subst z;exact hm hx⟩
    ·rcases List.mem_append.mp hx with hx|hx
     ·exact P.cn x hx
     ·rw[List.mem_singleton.mp hx];exact(P.cn p hp).step hu
    ·rcases List.mem_append.mp hx with hx|hx
     ·exact P.inn x hx
     ·rw[List.mem_singleton.mp hx];exact hin _ _ hu
   obtain⟨part',s5',e2,P',⟨m,hm'⟩,h2⟩:=sX hn hin us (part++[u]) (.sh (.int u)) (λ v hv=>h v (List.mem_cons_of_mem _ hv)) (List.mem_append_left _ hp) P1;refine⟨part',s5',e2,P',⟨[u]++m,by rw[hm',List.append_assoc]⟩,λ v hv=>?_⟩;rcases List.mem_cons.mp hv with rfl|hv
   ·rw[hm'];exact List.mem_append_left _ (by simp)
   ·exact h2 v hv
theorem wj(hn:n<=60)(N:aJF n es ll)(hin:∀x y,(x,y)∈es->0<=y/\y<n)(h0:0<=a)(h1:a<n):eQ [.lst (ll.map .lst),.int a]= .ok (tupI (bD n es a)):=by
 have st:bG 6 [.lst (ll.map .lst),.int a]=[.sh (.lst (ll.map .lst)),.sh (.int a),.no,.no,.no,.no]:=rfl;obtain⟨ρ',m',e,⟨part,k,s4,s5,rfl,P,hk,hcl,_⟩,ht⟩:=aCp (c:=pwT) (b:=pwW)
  (λ m ρ=>∃(part:List Int) (k:Nat) (s4 s5:Slot),ρ=wE ll a part k s4 s5/\Pw n es a part/\k<=part.length/\(∀i x,i<k->part[i]? =some x->∀y,(x,y)∈es->y∈part)/\m=n.toNat-k)
  (by
   rintro m ρ ⟨part,k,s4,s5,rfl,P,hk,hcl,rfl⟩;have hl:=P.len;by_cases hlt:k<part.length
   ·right
    have hx:=List.getElem?_eq_getElem hlt;have ha:atD (part.map .int) (k:Int)= .ok (.int part[k]):=fJ (by rw[List.getElem?_map,hx];rfl);have hp:=P.inn _ (List.getElem_mem hlt);obtain⟨us,e1,e2⟩:=N.item _ hp.1 hp.2;obtain⟨part',s5',e3,P',⟨m,hm⟩,h2⟩:=sX (ll:=ll) (k:=(k:Int)) (s4:=.nw (.int part[k])) hn hin us part s5 (λ u hu=>(e2 u).mp hu) (List.getElem_mem hlt) P;have c0:pwT (wE ll a part k s4 s5)= .ok true:=by simp[pwT,hlt]
    have c1:lF 4 (bA (op2 ixD (cP 2) (aD 3))) (wE ll a part k s4 s5)= .nx (wE ll a part k (.nw (.int part[k])) s5):=by simp[ha]
    have c2:dO (dh (op2 ixD (aD 0) (iG 4))) (gnm 5) pwI (wE ll a part k (.nw (.int part[k])) s5)= .nx (wE ll a part' k (.nw (.int part[k])) s5'):=by
     have hi:dh (op2 ixD (aD 0) (iG 4)) (wE ll a part k (.nw (.int part[k])) s5)= .ok (us.map .int):=by simp[e1]
     rw[gH,hi,dH,e3]
    have c3:aGk (i2 (λ _ _=>true) λ a b=>.int (a+b)) 3 (cD (.int 1)) (wE ll a part' k (.nw (.int part[k])) s5')= .nx (wE ll a part' ((k:Int)+1) (.nw (.int part[k])) s5'):=rfl;refine⟨c0,wE ll a part' ((k+1:Nat):Int) (.nw (.int part[k])) s5',n.toNat-(k+1),?_,by lia,part',k+1,_,_,rfl,P',?_,λ i x hi hx' y hy=>?_,rfl⟩
    ·rw[pwW,aW,c1,bL,aW,c2,bL,c3]
     rfl
    ·rw[hm,List.length_append];lia
    ·by_cases hik:i=k
     ·subst hik
      rw[hm,List.getElem?_append_left hlt,hx]at hx';cases hx';exact h2 y ((e2 y).mpr hy)
     ·rw[hm,List.getElem?_append_left (by lia)]at hx'
      rw[hm];exact List.mem_append_left _ (hcl i x (by lia) hx' y hy)
   ·left
    simp[pwT,show¬k<part.length from hlt])
  (m:=n.toNat-0) (ρ:=wE ll a [a] (0:Nat) .no .no) (by lia) ⟨[a],0,.no,.no,rfl,⟨by simp,λ x hx=>by rw[List.mem_singleton.mp hx];exact .refl,λ x hx=>by rw[List.mem_singleton.mp hx];exact⟨h0,h1⟩,by simp⟩,by simp,λ i x hi=>absurd hi (Nat.not_lt_zero _),rfl⟩
 have hlt:¬k<part.length:=λ z=>by
  have:pwT (wE ll a part k s4 s5)= .ok true:=by simp[pwT,z]
  rw[this]at ht;cases ht
 have go:∀x,Cn es a x->x∈part:=λ x hc=>by
  induction hc with
  |refl=>exact P.st
  |step hb he ih=>
   obtain⟨i,hi,hx⟩:=List.getElem_of_mem ih;exact hcl i _ (by lia) (by rw[List.getElem?_eq_getElem hi,hx]) _ he
 have hall:∀x,x∈part↔(0<=x/\x<n)/\Cn es a x:=λ x=>⟨λ hx=>⟨P.inn x hx,P.cn x hx⟩,λ h=>go x h.2⟩
 have hs:=aBy (l:=part) (by have:=P.len;lia);rw[aAE P.nd hall]at hs;have c0:gh 2 (fM (aA (bA (aD 1)) aF)) [.sh (.lst (ll.map .lst)),.sh (.int a),.no,.no,.no,.no]= .nx [.sh (.lst (ll.map .lst)),.sh (.int a),.ow (.lst [.int a]),.no,.no,.no]:=by simp
 have c1:cY 3 (cD (.int 0)) [.sh (.lst (ll.map .lst)),.sh (.int a),.ow (.lst [.int a]),.no,.no,.no]= .nx (wE ll a [a] (0:Nat) .no .no):=rfl;simp only[eQ,uf,cI,st];rw[aW,c0,bL,aW,c1,bL,aW,e,bL];have hd:cP 2 (wE ll a part k s4 s5)= .ok (.lst (part.map .int)):=rfl;rw[oE,pL,dR,pL,dR,hd];simp[hs,tupI]
end
def paF:En->Ou:=aGm 3 (bA (aD 6))
def paB:En->Ou:=ifS (tsb (op2 (inX true) (aD 4) (cP 3))) (aY (cY 5 (aR eQ (aA (aD 0) (aA (aD 4) aF)))) (aY (kh 2 (bA (aD 5))) (dO (dh (aD 5)) (gnm 6) paF))) Ou.nx
theorem ql:cR=aY (gh 2 (fM aF)) (aY (gh 3 (cD (.set []))) (aY (dO (dh (aD 1)) (gnm 4) paB) (retS (rN 2)))):=rfl
abbrev qE(ll:List (List D))(w:D)(rws:List (List Int))(seen:List Int)(s4 s5 s6:Slot):En:=[.sh (.lst (ll.map .lst)),.sh w,.ow (.lst (rws.map tupI)),.ow (.set seen),s4,s5,s6]
section
variable{n:Int}{es:List (Int×Int)}{ll:List (List D)}{w:D}{rws:List (List Int)}{s4 s5 s6:Slot}
theorem yp:∀(us:List Int) (seen:List Int) (s6:Slot),(∀u∈us,0<=u/\u<n)->seen.Nodup->(∀u∈seen,0<=u/\u<n)->n<=60->
  ∃seen' s6',forL (gnm 6) paF (us.map .int) (qE ll w rws seen s4 s5 s6)= .nx (qE ll w rws seen' s4 s5 s6')/\seen'.Nodup/\(∀x,x∈seen'↔x∈seen\/x∈us)/\(∀u∈seen',0<=u/\u<n)
 |[],seen,s6,_,nd,hin,_=>⟨seen,s6,rfl,nd,λ x=>by simp,hin⟩
 |u::us,seen,s6,h,nd,hin,hn=>by
  have hl:seen.length<=n.toNat:=by
   have:=sub_len (l':=upI n) nd λ x hx=>iQ.mpr (hin x hx)
   rwa [eY]at this
  have nd':=z7 (z:=u) nd;have hm':∀x,x∈PyProof.Rows.step_dedup seen u↔x∈seen\/x=u:=λ x=>by
   have:=v7 seen u x
   rw[Bool.eq_iff_iff]at this;simpa using this.symm
  obtain⟨seen',s6',e,q1,q2,q3⟩:=yp us (PyProof.Rows.step_dedup seen u) (.sh (.int u)) (λ v hv=>h v (List.mem_cons_of_mem _ hv)) nd' (λ x hx=>by
   rcases(hm' x).mp hx with z|z
   ·exact hin x z
   ·rw[z];exact h u List.mem_cons_self) hn
  refine⟨seen',s6',?_,q1,λ x=>?_,q3⟩
  ·rw[List.map_cons,dm,aE7,tG]
   show(paF (qE ll w rws seen s4 s5 (.sh (.int u)))).tn _=_
   have e1:paF (qE ll w rws seen s4 s5 (.sh (.int u)))= .nx (qE ll w rws (PyProof.Rows.step_dedup seen u) s4 s5 (.sh (.int u))):=by
    have hv:bA (aD 6) (qE ll w rws seen s4 s5 (.sh (.int u)))= .ok (.int u):=by simp
    show((bA (aD 6) (qE ll w rws seen s4 s5 (.sh (.int u)))).bo λ d=>aCj (qE ll w rws seen s4 s5 (.sh (.int u))) 3 seen d)=_
    rw[hv,dH];unfold aCj;dsimp only;rw[if_pos (by lia)];rfl
   rw[e1,rQ,e]
  ·rw[q2,hm',List.mem_cons]
   constructor
   ·rintro((z|z)|z)
    ·exact .inl z
    ·exact .inr (.inl z)
    ·exact .inr (.inr z)
   ·rintro(z|z|z)
    ·exact .inl (.inl z)
    ·exact .inl (.inr z)
    ·exact .inr z
theorem aBJ(k:Nat):upI ((k+1:Nat):Int)=upI (k:Int)++[(k:Int)]:=by
 unfold upI;rw[Int.toNat_natCast,Int.toNat_natCast,List.range_succ,List.map_append];rfl
theorem su(hn0:0<=n)(hn:n<=60)(S:Sym es)(N:aJF n es ll)(hin:∀x y,(x,y)∈es->0<=y/\y<n):cT [.lst (ll.map .lst),.lst (bB 0 n)]= .ok (.lst ((iK n es).map tupI)):=by
 have st:bG 7 [.lst (ll.map .lst),.lst (bB 0 n)]=[.sh (.lst (ll.map .lst)),.sh (.lst (bB 0 n)),.no,.no,.no,.no,.no]:=rfl;obtain⟨ρ',e,seen,s4,s5,s6,rfl,_⟩:=j6 (a:=gnm 4) (u:=paB) (ds:=bB 0 n)
  (λ k ρ=>∃(seen:List Int) (s4 s5 s6:Slot),ρ=qE ll (.lst (bB 0 n)) (((upI (k:Int)).filter (bj es)).map (bD n es)) seen s4 s5 s6/\seen.Nodup/\(∀x,x∈seen↔(0<=x/\x<n)/\∃j,(0<=j/\j<(k:Int))/\Cn es j x))
  (by
   rintro i d ρ hd ⟨seen,s4,s5,s6,rfl,nd,hs⟩;obtain⟨rfl,hlt⟩:=iJ hd;rw[Int.zero_add]at hlt ⊢;have hk:0<=(i:Int)/\(i:Int)<n:=⟨by lia,hlt⟩;have hg:okE (gnm 4 (.int (i:Int)) (qE ll (.lst (bB 0 n)) (((upI (i:Int)).filter (bj es)).map (bD n es)) seen s4 s5 s6)) (λ ρ1=>paB ρ1)=paB (qE ll (.lst (bB 0 n)) (((upI (i:Int)).filter (bj es)).map (bD n es)) seen (.sh (.int (i:Int))) s5 s6):=rfl;rw[hg];have hlb:bj es (i:Int)= !decide ((i:Int)∈seen):=by
    rw[Bool.eq_iff_iff,pP];constructor
    ·intro h
     simp only[Bool.not_eq_true',decide_eq_false_iff_not];intro hm;obtain⟨_,j,hj,hc⟩:=(hs _).mp hm
     have:=h j hj.1 (hc.symm S)
     lia
    ·intro h b hb hc
     simp only[Bool.not_eq_true',decide_eq_false_iff_not]at h
     have:=λ z:b<(i:Int)=>h ((hs _).mpr ⟨hk,b,⟨hb,z⟩,hc.symm S⟩)
     lia
   have hx:inX true (.int (i:Int)) (.set seen)= .ok (.bl (!decide ((i:Int)∈seen))):=rfl;have hrl:(((upI (i:Int)).filter (bj es)).map (bD n es)).length<16777216:=by
    rw[List.length_map]
    have:=List.length_filter_le (bj es) (upI (i:Int))
    rw[eY]at this;lia
   by_cases hm:(i:Int)∈seen
   ·have hb:paB (qE ll (.lst (bB 0 n)) (((upI (i:Int)).filter (bj es)).map (bD n es)) seen (.sh (.int (i:Int))) s5 s6)= .nx (qE ll (.lst (bB 0 n)) (((upI (i:Int)).filter (bj es)).map (bD n es)) seen (.sh (.int (i:Int))) s5 s6):=by
     simp[paB,hx,hm]
    refine⟨_,hb,seen,.sh (.int (i:Int)),s5,s6,?_,nd,λ x=>?_⟩
    ·rw[aBJ,List.filter_append,List.filter_cons,hlb]
     simp[hm]
    ·rw[hs]
     constructor
     ·rintro⟨h1,j,h2,h3⟩
      exact⟨h1,j,⟨h2.1,by lia⟩,h3⟩
     ·rintro⟨h1,j,h2,h3⟩
      by_cases hj:j<(i:Int)
      ·exact⟨h1,j,⟨h2.1,hj⟩,h3⟩
      ·have hj':j=(i:Int):=by lia
       subst hj';obtain⟨_,j',h4,h5⟩:=(hs _).mp hm;exact⟨h1,j',h4,h5.trans h3⟩
   ·have hp:=wj hn N hin hk.1 hk.2
    have hsin:∀u∈seen,0<=u/\u<n:=λ u hu=>((hs u).mp hu).1
    obtain⟨seen',s6',e,q1,q2,q3⟩:=yp (ll:=ll) (w:=.lst (bB 0 n)) (rws:=((upI (i:Int)).filter (bj es)).map (bD n es)++[bD n es (i:Int)]) (s4:=.sh (.int (i:Int))) (s5:=.sh (tupI (bD n es (i:Int)))) (bD n es (i:Int)) seen s6 (λ u hu=>(tO.mp hu).1) nd hsin hn;have gi:uC (tupI (bD n es (i:Int)))= .ok (tupI (bD n es (i:Int))):=(El.tup (k:=0) El.ints).g;have hb:paB (qE ll (.lst (bB 0 n)) (((upI (i:Int)).filter (bj es)).map (bD n es)) seen (.sh (.int (i:Int))) s5 s6)= .nx (qE ll (.lst (bB 0 n)) (((upI (i:Int)).filter (bj es)).map (bD n es)++[bD n es (i:Int)]) seen' (.sh (.int (i:Int))) (.sh (tupI (bD n es (i:Int)))) s6'):=by
     have t1:tsb (op2 (inX true) (aD 4) (cP 3)) (qE ll (.lst (bB 0 n)) (((upI (i:Int)).filter (bj es)).map (bD n es)) seen (.sh (.int (i:Int))) s5 s6)= .ok true:=by simp[hx,hm]
     have t2:cY 5 (aR eQ (aA (aD 0) (aA (aD 4) aF))) (qE ll (.lst (bB 0 n)) (((upI (i:Int)).filter (bj es)).map (bD n es)) seen (.sh (.int (i:Int))) s5 s6)= .nx (qE ll (.lst (bB 0 n)) (((upI (i:Int)).filter (bj es)).map (bD n es)) seen (.sh (.int (i:Int))) (.sh (tupI (bD n es (i:Int)))) s6):=by simp[hp]
     have t3:kh 2 (bA (aD 5)) (qE ll (.lst (bB 0 n)) (((upI (i:Int)).filter (bj es)).map (bD n es)) seen (.sh (.int (i:Int))) (.sh (tupI (bD n es (i:Int)))) s6)= .nx (qE ll (.lst (bB 0 n)) (((upI (i:Int)).filter (bj es)).map (bD n es)++[bD n es (i:Int)]) seen (.sh (.int (i:Int))) (.sh (tupI (bD n es (i:Int)))) s6):=by
      generalize ((upI (i:Int)).filter (bj es)).map (bD n es)=R at hrl ⊢;have hv:bA (aD 5) (qE ll (.lst (bB 0 n)) R seen (.sh (.int (i:Int))) (.sh (tupI (bD n es (i:Int)))) s6)= .ok (tupI (bD n es (i:Int))):=by simp[gi]
      show((bA (aD 5) (qE ll (.lst (bB 0 n)) R seen (.sh (.int (i:Int))) (.sh (tupI (bD n es (i:Int)))) s6)).bo λ d=>if (R.map tupI).length<sizeLine then .nx [.sh (.lst (ll.map .lst)),.sh (.lst (bB 0 n)),.ow (.lst (R.map tupI++[d])),.ow (.set seen),.sh (.int (i:Int)),.sh (tupI (bD n es (i:Int))),s6]else .st)=_
      rw[hv,dH,if_pos (by rw[szl,List.length_map];exact hrl)];simp[List.map_append]
     have t4:dh (aD 5) (qE ll (.lst (bB 0 n)) (((upI (i:Int)).filter (bj es)).map (bD n es)++[bD n es (i:Int)]) seen (.sh (.int (i:Int))) (.sh (tupI (bD n es (i:Int)))) s6)= .ok ((bD n es (i:Int)).map .int):=by simp[tupI]
     rw[paB,aAu,t1,dH,if_pos rfl,aW,t2,bL,aW,t3,bL,gH,t4,dH,e]
    refine⟨_,hb,seen',.sh (.int (i:Int)),.sh (tupI (bD n es (i:Int))),s6',?_,q1,λ x=>?_⟩
    ·rw[aBJ,List.filter_append,List.filter_cons,hlb]
     simp[hm]
    ·rw[q2,hs,tO]
     constructor
     ·rintro(⟨h1,j,h2,h3⟩|⟨h1,h2⟩)
      ·exact⟨h1,j,⟨h2.1,by lia⟩,h3⟩
      ·exact⟨h1,(i:Int),⟨by lia,by lia⟩,h2⟩
     ·rintro⟨h1,j,h2,h3⟩
      by_cases hj:j<(i:Int)
      ·exact .inl ⟨h1,j,⟨h2.1,hj⟩,h3⟩
      ·have hj':j=(i:Int):=by lia
       subst hj';exact .inr ⟨h1,h3⟩)
  (ρ:=qE ll (.lst (bB 0 n)) [] [] .no .no .no) ⟨[],.no,.no,.no,rfl,List.nodup_nil,λ x=>⟨λ h=>(nomatch h),λ⟨_,j,h,_⟩=>absurd h.2 (by have:=h.1;lia)⟩⟩
 have c0:gh 2 (fM aF) [.sh (.lst (ll.map .lst)),.sh (.lst (bB 0 n)),.no,.no,.no,.no,.no]= .nx [.sh (.lst (ll.map .lst)),.sh (.lst (bB 0 n)),.ow (.lst []),.no,.no,.no,.no]:=by simp
 have c1:gh 3 (cD (.set [])) [.sh (.lst (ll.map .lst)),.sh (.lst (bB 0 n)),.ow (.lst []),.no,.no,.no,.no]= .nx (qE ll (.lst (bB 0 n)) [] [] .no .no .no):=rfl;have hi:dh (aD 1) (qE ll (.lst (bB 0 n)) [] [] .no .no .no)= .ok (bB 0 n):=by simp
 have hln:(((bB 0 n).length:Nat):Int)=n:=by rw[fC];lia
 rw[hln]at e;simp only[cT,ql,cI,st];rw[aW,c0,bL,aW,c1,bL,aW,gH,hi,dH,e,bL];simp[iK]
theorem aDh{ps:List (Int×Int)}(h:Ow n ps)(low:∀p∈ps,p.1<p.2):rK [owD n ps]= .ok (.lst ((iK n (dbl ps)).map tupI)):=by
 obtain⟨ll,e,N⟩:=zm h;have st:bG 1 [owD n ps]=[.sh (owD n ps)]:=rfl;have hp:=su h.n0 h.n1 (xm ps) N (λ x y m=>by
  rcases jE.mp m with z|z
  ·have:=h.pr _ z;exact⟨this.2.2.1,this.2.2.2.1⟩
  ·have:=h.pr _ z;exact⟨this.1,this.2.1⟩)
 have hlr:=aHO (f:=op2 ixD (aD 0) (cD (.int 0))) (ρ:=[.sh (owD n ps)]) (n:=n) (by simp[owD]) h.n0 h.n1;have c0:zY (aR eV (aA (aD 0) aF)) [.sh (owD n ps)]= .nx [.sh (owD n ps)]:=by simp[xu h low]
 have c1:aR cT (aA (aR gD (aA (aD 0) aF)) (aA (lrD (op2 ixD (aD 0) (cD (.int 0)))) aF)) [.sh (owD n ps)]= .ok (.lst ((iK n (dbl ps)).map tupI)):=by
  rw[lU,dR,lU,dR,dR,hlr];simp[e,hp]
 have df:mG=aY (zY (aR eV (aA (aD 0) aF))) (retS (aR cT (aA (aR gD (aA (aD 0) aF)) (aA (lrD (op2 ixD (aD 0) (cD (.int 0)))) aF)))):=rfl;simp only[rK,df,cI,st];rw[aW,c0,bL,oE,c1];rfl
end
def lsB:En->Ou:=aY (aAW 1 (aD 3) (opA (mmD λ i j=>if j<i then j else i) (aA (op2 ixD (cP 1) (aD 3)) (aA (op2 ixD (cP 1) (aD 4)) aF)))) (aAW 1 (aD 4) (bA (op2 ixD (cP 1) (aD 3))))
def lsO:En->Ou:=dO (dh (op2 ixD (aD 0) (cD (.int 1)))) (iU 2 (bF (gnm 3) (bF (gnm 4) iw))) lsB
def lsI:En->Rs D:=opA cj (aA (lcD (cZ dZ (aA (op2 ixD (aD 1) (cD (.int 0))) aF)) [none,some 2,some 0] (gnm 0) (tsb (op2 (eqR false) (op2 ixD (aD 1) (aD 0)) (aD 2))) (bA (aD 0))) aF)
def lsR:En->Rs D:=lcD (dh (opA jU (aA (aD 1) aF))) [none,some 0,some 1] (gnm 0) je lsI
theorem ul:dw=aY (gh 1 (lrD (op2 ixD (aD 0) (cD (.int 0))))) (aY (dO (cZ dZ (aA (op2 ixD (aD 0) (cD (.int 0))) aF)) (gnm 2) lsO) (retS lsR)):=rfl
def gL(L:List Int)(i:Int):Int:=L.getD i.toNat 0
def mV(L:List Int)(p:Int×Int):List Int:=(L.set p.1.toNat (mn (gL L p.1) (gL L p.2))).set p.2.toNat (mn (gL L p.1) (gL L p.2))
theorem aEN(L:List Int)(p:Int×Int):(mV L p).length=L.length:=by unfold mV;rw[List.length_set,List.length_set]
theorem aJl(a b:Int):mn a b<=a/\mn a b<=b/\(mn a b=a\/mn a b=b):=by
 unfold mn;split<;>lia
theorem aAw{L:List Int}{i:Nat}{v:Int}(hi:i<L.length)(x:Int)(h0:0<=x):gL (L.set i v) x=if x.toNat=i then v else gL L x:=by
 unfold gL;rw[List.getD_eq_getElem?_getD,List.getD_eq_getElem?_getD];split
 ·rename_i e
  rw[e,List.getElem?_set_self hi];rfl
 ·rename_i e
  rw[List.getElem?_set_ne (λ z=>e z.symm)]
theorem aG6{L:List Int}{p:Int×Int}(h1:0<=p.1/\p.1.toNat<L.length)(h2:0<=p.2/\p.2.toNat<L.length)(x:Int)(h0:0<=x):gL (mV L p) x=if x=p.1\/x=p.2 then mn (gL L p.1) (gL L p.2)else gL L x:=by
 unfold mV;rw[aAw (by rw[List.length_set];exact h2.2) x h0,aAw h1.2 x h0];by_cases e2:x=p.2
 ·subst e2;simp
 ·have:x.toNat≠p.2.toNat:=by lia
  rw[if_neg this];by_cases e1:x=p.1
  ·subst e1;simp
  ·have:x.toNat≠p.1.toNat:=by lia
   rw[if_neg this,if_neg (by lia)]
structure Lb(n:Int)(es:List (Int×Int))(L:List Int):Prop where
 len:L.length=n.toNat
 cn:∀x,0<=x->x<n->Cn es x (gL L x)/\gL L x<=x/\0<=gL L x
section
variable{n:Int}{ps:List (Int×Int)}{L:List Int}{s2 s3 s4:Slot}
theorem Lb.join(B:Lb n (dbl ps) L){p:Int×Int}(hp:p∈ps)(h:0<=p.1/\p.1<n/\0<=p.2/\p.2<n):Lb n (dbl ps) (mV L p)/\(∀x,0<=x->x<n->gL (mV L p) x<=gL L x)/\gL (mV L p) p.1<=gL L p.2/\gL (mV L p) p.2<=gL L p.1:=by
 have hl:=B.len;have g:=λ x h0=>aG6 (L:=L) (p:=p) ⟨h.1,by lia⟩ ⟨h.2.2.1,by lia⟩ x h0
 obtain⟨m1,m2,m3⟩:=aJl (gL L p.1) (gL L p.2);have c1:=B.cn p.1 h.1 h.2.1;have c2:=B.cn p.2 h.2.2.1 h.2.2.2;have e12:(p.1,p.2)∈dbl ps:=jE.mpr (.inl hp);have e21:(p.2,p.1)∈dbl ps:=jE.mpr (.inr hp);have k1:Cn (dbl ps) p.1 (mn (gL L p.1) (gL L p.2)):=by
  rcases m3 with z|z
  ·rw[z];exact c1.1
  ·rw[z];exact Cn.trans (.step .refl e12) c2.1
 have k2:Cn (dbl ps) p.2 (mn (gL L p.1) (gL L p.2)):=Cn.trans (.step .refl e21) k1;refine⟨⟨by rw[aEN];exact hl,λ x h0 h1=>?_⟩,λ x h0 h1=>?_,?_,?_⟩
 ·rw[g x h0]
  split
  ·rename_i e
   rcases e with rfl|rfl
   ·exact⟨k1,by lia,by lia⟩
   ·exact⟨k2,by lia,by lia⟩
  ·exact B.cn x h0 h1
 ·rw[g x h0]
  split
  ·rename_i e
   rcases e with rfl|rfl
   ·exact m1
   ·exact m2
  ·exact Int.le_refl _
 ·rw[g p.1 h.1,if_pos (.inl rfl)];exact m2
 ·rw[g p.2 h.2.2.1,if_pos (.inr rfl)];exact m1
theorem aBq{x:Int}(h0:0<=x)(h1:x.toNat<L.length):atD (L.map .int) x= .ok (.int (gL L x)):=by
 have:=fJ (l:=L.map D.int) (k:=x.toNat) (d:=.int (gL L x)) (by rw[List.getElem?_map,List.getElem?_eq_getElem h1];unfold gL;rw[List.getD_eq_getElem?_getD,List.getElem?_eq_getElem h1];rfl)
 rwa [Int.toNat_of_nonneg h0]at this
theorem aB1{w s2 s3 s4:Slot}{fk fe:En->Rs D}{k v:Int}(hk:fk [w,.ow (.lst (L.map .int)),s2,s3,s4]= .ok (.int k))(he:fe [w,.ow (.lst (L.map .int)),s2,s3,s4]= .ok (.int v))(h0:0<=k)(h1:k.toNat<L.length):
  aAW 1 fk fe [w,.ow (.lst (L.map .int)),s2,s3,s4]= .nx [w,.ow (.lst ((L.set k.toNat v).map .int)),s2,s3,s4]:=by
 have e:putN (L.map .int) (.int k)=some k.toNat:=by
  show ixN (L.map D.int).length k=_;unfold ixN;rw[List.length_map,if_pos (by lia),if_pos (by lia)]
 show((fe [w,.ow (.lst (L.map .int)),s2,s3,s4]).bo λ d=>(fk [w,.ow (.lst (L.map .int)),s2,s3,s4]).bo λ k=>match putN (L.map .int) k with
  |some j=>.nx [w,.ow (.lst ((L.map .int).set j d)),s2,s3,s4]
  |none=>.st)=_
 rw[he,dH,hk,dH,e];simp[List.map_set]
theorem aI7{w:Slot}{p:Int×Int}(hl:L.length=n.toNat)(h:0<=p.1/\p.1<n/\0<=p.2/\p.2<n):
  lsB [w,.ow (.lst (L.map .int)),s2,.sh (.int p.1),.sh (.int p.2)]= .nx [w,.ow (.lst ((mV L p).map .int)),s2,.sh (.int p.1),.sh (.int p.2)]:=by
 have a1:=aBq (L:=L) h.1 (by lia);have a2:=aBq (L:=L) h.2.2.1 (by lia);have b1:=aB1 (L:=L) (w:=w) (s2:=s2) (s3:=.sh (.int p.1)) (s4:=.sh (.int p.2)) (fk:=aD 3) (fe:=opA (mmD λ i j=>if j<i then j else i) (aA (op2 ixD (cP 1) (aD 3)) (aA (op2 ixD (cP 1) (aD 4)) aF))) (k:=p.1) (v:=mn (gL L p.1) (gL L p.2)) (by simp) (by simp[a1,a2,mn]) h.1 (by lia);have hl2:(L.set p.1.toNat (mn (gL L p.1) (gL L p.2))).length=L.length:=List.length_set;have a3:=aBq (L:=L.set p.1.toNat (mn (gL L p.1) (gL L p.2))) h.1 (by lia);rw[aAw (by lia) p.1 h.1,if_pos rfl]at a3;have b2:=aB1 (L:=L.set p.1.toNat (mn (gL L p.1) (gL L p.2))) (w:=w) (s2:=s2) (s3:=.sh (.int p.1)) (s4:=.sh (.int p.2)) (fk:=aD 4) (fe:=bA (op2 ixD (cP 1) (aD 3))) (k:=p.2) (v:=mn (gL L p.1) (gL L p.2)) (by simp) (by rw[List.map_set]at a3;simp[a3]) h.2.2.1 (by lia);rw[lsB,aW,b1,bL,b2];rfl
theorem yz{w:Slot}(hpr:∀p∈ps,0<=p.1/\p.1<n/\0<=p.2/\p.2<n):∀(qs:List (Int×Int)) (L:List Int) (s3 s4:Slot),(∀q∈qs,q∈ps)->Lb n (dbl ps) L->
  ∃L' s3' s4',forL (iU 2 (bF (gnm 3) (bF (gnm 4) iw))) lsB (qs.map pD) [w,.ow (.lst (L.map .int)),s2,s3,s4]= .nx [w,.ow (.lst (L'.map .int)),s2,s3',s4']/\Lb n (dbl ps) L'/\(∀x,0<=x->x<n->gL L' x<=gL L x)/\∀q∈qs,gL L' q.1<=gL L q.2/\gL L' q.2<=gL L q.1
 |[],L,s3,s4,_,B=>⟨L,s3,s4,rfl,B,λ _ _ _=>Int.le_refl _,λ q hq=>by cases hq⟩
 |q::qs,L,s3,s4,h,B=>by
  have hq:=h q List.mem_cons_self;have hr:=hpr q hq;obtain⟨B1,m1,m2,m3⟩:=B.join hq hr;obtain⟨L',s3',s4',e,B',k1,k2⟩:=yz (w:=w) hpr qs (mV L q) (.sh (.int q.1)) (.sh (.int q.2)) (λ x hx=>h x (List.mem_cons_of_mem _ hx)) B1;refine⟨L',s3',s4',?_,B',λ x h0 h1=>Int.le_trans (k1 x h0 h1) (m1 x h0 h1),λ x hx=>?_⟩
  ·rw[List.map_cons,dm]
   have g:okE (iU 2 (bF (gnm 3) (bF (gnm 4) iw)) (pD q) [w,.ow (.lst (L.map .int)),s2,s3,s4]) (λ ρ1=>(lsB ρ1).tn (forL (iU 2 (bF (gnm 3) (bF (gnm 4) iw))) lsB (qs.map pD)))=(lsB [w,.ow (.lst (L.map .int)),s2,.sh (.int q.1),.sh (.int q.2)]).tn (forL (iU 2 (bF (gnm 3) (bF (gnm 4) iw))) lsB (qs.map pD)):=by simp[pD]
   rw[g,aI7 B.len hr,rQ,e]
  ·rcases List.mem_cons.mp hx with rfl|hx
   ·exact⟨Int.le_trans (k1 _ hr.1 hr.2.1) m2,Int.le_trans (k1 _ hr.2.2.1 hr.2.2.2) m3⟩
   ·have hx':=hpr x (h x (List.mem_cons_of_mem _ hx))
    exact⟨Int.le_trans (k2 x hx).1 (m1 _ hx'.2.2.1 hx'.2.2.2),Int.le_trans (k2 x hx).2 (m1 _ hx'.1 hx'.2.1)⟩
def Rd1(n:Int)(es:List (Int×Int))(t:Nat)(L:List Int):Prop:=∀(l:List Int) (a b:Int),0<=a->a<n->aKD es a b l->l.length<=t+1->gL L a<=b
theorem aFh{es:List (Int×Int)}(hin:∀x y,(x,y)∈es->0<=y/\y<n){a b:Int}{r:List Int}(h:dM es (a::b::r)=true):(a,b)∈es/\0<=b/\b<n:=by
 rw[dM,Bool.and_eq_true,decide_eq_true_eq]at h;exact⟨h.1,hin _ _ h.1⟩
theorem aAk(h:Ow n ps):∃L s2 s3 s4,forL (gnm 2) lsO (bB 0 n) [.sh (owD n ps),.ow (.lst ((upI n).map .int)),.no,.no,.no]= .nx [.sh (owD n ps),.ow (.lst (L.map .int)),s2,s3,s4]/\Lb n (dbl ps) L/\∀a,0<=a->a<n->∀b,Cn (dbl ps) a b->gL L a<=b:=by
 have hpr:∀p∈ps,0<=p.1/\p.1<n/\0<=p.2/\p.2<n:=λ p hp=>by have:=h.pr p hp;exact⟨this.1,this.2.1,this.2.2.1,this.2.2.2.1⟩
 have hin:∀x y,(x,y)∈dbl ps->0<=y/\y<n:=λ x y m=>by
  rcases jE.mp m with z|z
  ·have:=h.pr _ z;exact⟨this.2.2.1,this.2.2.2.1⟩
  ·have:=h.pr _ z;exact⟨this.1,this.2.1⟩
 have g0:∀x,0<=x->x<n->gL (upI n) x=x:=λ x h0 h1=>by
  unfold gL upI;rw[List.getD_eq_getElem?_getD,List.getElem?_map,List.getElem?_range (by lia)]
  show(((x.toNat:Nat):Int))=x
  lia
 obtain⟨ρ',e,L,s2,s3,s4,rfl,B,hR⟩:=j6 (a:=gnm 2) (u:=lsO) (ds:=bB 0 n)
  (λ t ρ=>∃(L:List Int) (s2 s3 s4:Slot),ρ=[.sh (owD n ps),.ow (.lst (L.map .int)),s2,s3,s4]/\Lb n (dbl ps) L/\Rd1 n (dbl ps) t L)
  (by
   rintro i d ρ hd ⟨L,s2,s3,s4,rfl,B,hR⟩;obtain⟨rfl,hlt⟩:=iJ hd;obtain⟨L',s3',s4',e,B',k1,k2⟩:=yz (w:=.sh (owD n ps)) (s2:=.sh (.int (0+(i:Int)))) hpr ps L s3 s4 (λ _ h=>h) B;refine⟨[.sh (owD n ps),.ow (.lst (L'.map .int)),.sh (.int (0+(i:Int))),s3',s4'],?_,L',_,_,_,rfl,B',λ l a b h0 h1 P hl=>?_⟩
   ·show lsO [.sh (owD n ps),.ow (.lst (L.map .int)),.sh (.int (0+(i:Int))),s3,s4]=_
    have hi:dh (op2 ixD (aD 0) (cD (.int 1))) [.sh (owD n ps),.ow (.lst (L.map .int)),.sh (.int (0+(i:Int))),s3,s4]= .ok (ps.map pD):=by simp[owD]
    rw[lsO,gH,hi,dH,e]
   ·match l,P,hl with
    |[],P,_=>cases P.hd
    |[x],P,_=>
     have e1:=P.hd;have e2:=P.lt;cases e1;cases e2;exact(B'.cn a h0 h1).2.1
    |x::y::r,P,hl=>
     have e1:=P.hd;cases e1;obtain⟨q1,q2⟩:=aFh hin P.al;have hy:=hR (y::r) y b q2.1 q2.2 ⟨rfl,by have:=P.lt;simpa using this,by have:=P.al;rw[dM,Bool.and_eq_true]at this;exact this.2⟩ (by simp at hl ⊢;lia)
     have:gL L' a<=gL L y:=by
      rcases jE.mp q1 with z|z
      ·exact(k2 _ z).1
      ·exact(k2 _ z).2
     lia)
  (ρ:=[.sh (owD n ps),.ow (.lst ((upI n).map .int)),.no,.no,.no]) ⟨upI n,.no,.no,.no,rfl,⟨eY n,λ x h0 h1=>by rw[g0 x h0 h1];exact⟨.refl,Int.le_refl _,h0⟩⟩,λ l a b h0 h1 P hl=>by
   rw[g0 a h0 h1]
   match l,P,hl with
   |[],P,_=>cases P.hd
   |[x],P,_=>
    have e1:=P.hd;have e2:=P.lt;cases e1;cases e2;exact Int.le_refl _
   |x::y::r,P,hl=>simp at hl⟩
 refine⟨L,s2,s3,s4,e,B,λ a h0 h1 b hc=>?_⟩;obtain⟨l,P,nd⟩:=hc.path;refine hR l a b h0 h1 P ?_;have hsub:∀x∈l,x∈upI n:=λ x hx=>by
  cases l with
  |nil=>cases hx
  |cons y r=>
   have e1:=P.hd;cases e1;exact iQ.mpr ((yo P.al x hx).inn hin ⟨h0,h1⟩)
 have:=sub_len nd hsub
 rw[eY]at this;rw[fC];lia
theorem xT(h:Ow n ps):gQ [owD n ps]= .ok (.lst ((iK n (dbl ps)).map tupI)):=by
 obtain⟨L,s2,s3,s4,e,B,hmin⟩:=aAk h;have hn0:=h.n0;have hn1:=h.n1;have hLl:=B.len;have st:bG 5 [owD n ps]=[.sh (owD n ps),.no,.no,.no,.no]:=rfl;have hlr:=aHO (f:=op2 ixD (aD 0) (cD (.int 0))) (ρ:=[.sh (owD n ps),.no,.no,.no,.no]) (n:=n) (by simp[owD]) h.n0 h.n1;have hr:=jC (j:=n) (by lia) (by lia);have hS:sortI (ddI L)=(upI n).filter (bj (dbl ps)):=by
  refine aAL (nj (v8 L)) ((vq n).filter _) λ x=>?_
  rw[(sortI_perm _).mem_iff,aB8,List.mem_filter,iQ,pP];constructor
  ·intro hx
   obtain⟨i,hi,rfl⟩:=List.getElem_of_mem hx;have hg:gL L (i:Int)=L[i]:=by unfold gL;rw[Int.toNat_natCast,List.getD_eq_getElem?_getD,List.getElem?_eq_getElem hi];rfl
   have c:=B.cn (i:Int) (by lia) (by lia);rw[hg]at c;refine⟨⟨c.2.2,by lia⟩,λ b hb hc=>?_⟩
   have:=hmin (i:Int) (by lia) (by lia) b (c.1.trans hc)
   rwa [hg]at this
  ·rintro⟨⟨h0,h1⟩,hl⟩
   have c:=B.cn x h0 h1;have e1:=hl _ c.2.2 c.1;have e2:gL L x=x:=by lia
   rw[<-e2];unfold gL;rw[List.getD_eq_getElem?_getD,List.getElem?_eq_getElem (show x.toNat<L.length by lia)];exact List.getElem_mem _
 have c0:gh 1 (lrD (op2 ixD (aD 0) (cD (.int 0)))) [.sh (owD n ps),.no,.no,.no,.no]= .nx [.sh (owD n ps),.ow (.lst ((upI n).map .int)),.no,.no,.no]:=by
  rw[aBW,hlr,dH,wU];rfl
 have c1:dO (cZ dZ (aA (op2 ixD (aD 0) (cD (.int 0))) aF)) (gnm 2) lsO [.sh (owD n ps),.ow (.lst ((upI n).map .int)),.no,.no,.no]= .nx [.sh (owD n ps),.ow (.lst (L.map .int)),s2,s3,s4]:=by
  have hi:cZ dZ (aA (op2 ixD (aD 0) (cD (.int 0))) aF) [.sh (owD n ps),.ow (.lst ((upI n).map .int)),.no,.no,.no]= .ok (bB 0 n):=by simp[owD,hr]
  rw[gH,hi,dH,e]
 have c2:lsR [.sh (owD n ps),.ow (.lst (L.map .int)),s2,s3,s4]= .ok (.lst ((iK n (dbl ps)).map tupI)):=by
  have hs:jU [.lst (L.map .int)]= .ok (.lst ((sortI (ddI L)).map .int)):=by
   unfold jU;dsimp only;rw[iT];dsimp only;rw[if_pos (by lia)]
  rw[hS]at hs;refine tY (ds:=((upI n).filter (bj (dbl ps))).map .int) (by simp[shE,yM,hs]) (by
   rw[List.length_map]
   have:=List.length_filter_le (bj (dbl ps)) (upI n)
   rw[eY]at this;lia) ?_
  unfold iK;rw[List.map_map];refine aAi _ λ a ha=>⟨[.sh (.int a),.sh (owD n ps),.sh (.lst (L.map .int))],rfl,?_⟩
  obtain⟨ha1,ha2⟩:=List.mem_filter.mp ha;have ha0:=iQ.mp ha1;rw[pP]at ha2;have hc:lcD (cZ dZ (aA (op2 ixD (aD 1) (cD (.int 0))) aF)) [none,some 2,some 0] (gnm 0) (tsb (op2 (eqR false) (op2 ixD (aD 1) (aD 0)) (aD 2))) (bA (aD 0)) [.sh (.int a),.sh (owD n ps),.sh (.lst (L.map .int))]= .ok (.lst ((bD n (dbl ps) a).map .int)):=by
   refine tY (ds:=(upI n).map .int) (by rw[<-wU];simp[shE,yM,owD,hr]) (by rw[List.length_map,eY];lia) ?_;have ef:bD n (dbl ps) a=(upI n).filter λ b=>gL L b==a:=by
    unfold bD;refine List.filter_congr λ b hb=>?_
    have hb0:=iQ.mp hb;have c:=B.cn b hb0.1 hb0.2;rw[Bool.eq_iff_iff,wg,beq_iff_eq];constructor
    ·intro hab
     have q1:=ha2 _ c.2.2 (hab.trans c.1);have q2:=hmin b hb0.1 hb0.2 a (hab.symm (xm ps));lia
    ·intro hg
     rw[hg]at c;exact c.1.symm (xm ps)
   rw[ef];refine rF (upI n) λ b hb=>⟨[.sh (.int b),.sh (.lst (L.map .int)),.sh (.int a)],rfl,?_,?_⟩
   ·have hb0:=iQ.mp hb
    have:=aBq (L:=L) hb0.1 (by lia)
    simp[this]
   ·simp
  rw[lsI,pL,dR,hc];simp[tupI]
 simp only[gQ,ul,cI,st];rw[aW,c0,bL,aW,c1,bL,oE,c2];rfl
end
def pl(p:Int×Int):List Int:=[p.1,p.2]
theorem aBL(p:Int×Int):tupI (pl p)=pD p:=rfl
theorem aHv{p q:Int×Int}(h:pl p=pl q):p=q:=by
 unfold pl at h;injection h with h1 h2
 injection h2 with h2 _
 exact Prod.ext h1 h2
theorem mU{ps:List (Int×Int)}(nd:ps.Nodup):∃qs:List (Int×Int),qJ (ps.map pl)=qs.map pl/\qs.Perm ps/\oA qs=true:=by
 obtain⟨qs,q1,q2⟩:=jr (f:=pl) (nA (ps.map pl)) rfl;refine⟨qs,q2,q1,rC.mpr λ i p q e1 e2=>?_⟩;have hr:=lD (ps.map pl);rw[q2]at hr;have hnd:qs.Nodup:=q1.nodup_iff.mpr nd;have h1:=(List.getElem?_eq_some_iff.mp e1).1;have h2:=(List.getElem?_eq_some_iff.mp e2).1;have f1:(qs.map pl)[i]'(by simpa using h1)=pl p:=by
  rw[List.getElem_map,(List.getElem?_eq_some_iff.mp e1).2]
 have f2:(qs.map pl)[i+1]'(by simpa using h2)=pl q:=by
  rw[List.getElem_map,(List.getElem?_eq_some_iff.mp e2).2]
 have z:=List.pairwise_iff_getElem.mp hr i (i+1) (by simpa using h1) (by simpa using h2) (by omega);rw[f1,f2]at z;have hne:p≠q:=λ e=>by
  subst e
  have:=(List.getElem?_inj h1 hnd).mp (e1.trans e2.symm)
  omega
 show HT.lexLt (pl p) (pl q)=true;cases c:HT.lexLt (pl p) (pl q)with
 |true=>rfl
 |false=>exact absurd (aHv (tR _ _ c z)) hne
theorem uz(ps:List (Int×Int)):jh (ps.map pD)=some (ps.map pl):=by
 have:=rP (nss:=ps.map pl) λ ns h=>by
  obtain⟨p,_,rfl⟩:=List.mem_map.mp h;simp[pl]
 rw[List.map_map]at this;exact this
theorem rm{ps:List (Int×Int)}(nd:ps.Nodup)(h:ps.length<64):∃qs:List (Int×Int),iH [.lst (ps.map pD)]= .ok (.lst (qs.map pD))/\qs.Perm ps/\oA qs=true:=by
 obtain⟨qs,q1,q2,q3⟩:=mU nd;refine⟨qs,?_,q2,q3⟩;unfold iH;dsimp only;rw[uz];dsimp only;rw[if_pos (by rw[List.length_map];exact h),q1,List.map_map];exact congrArg (λ l=>Rs.ok (D.lst l)) (List.map_congr_left λ p _=>aBL p)
theorem yR{ps:List (Int×Int)}(nd:ps.Nodup)(h:ps.length<64):∃qs:List (Int×Int),lE [.tup (ps.map pD)]= .ok (.lst (qs.map pD))/\qs.Perm ps/\oA qs=true:=by
 obtain⟨qs,q1,q2,q3⟩:=mU nd;refine⟨qs,?_,q2,q3⟩;unfold lE;dsimp only;rw[uz];dsimp only;rw[if_pos (by rw[List.length_map];exact h),q1,List.map_map];exact congrArg (λ l=>Rs.ok (D.lst l)) (List.map_congr_left λ p _=>aBL p)
def mnI(a b:Int):Int:=if b<a then b else a
def mxI(a b:Int):Int:=if b>a then b else a
theorem aKW{a b a' b':Int}(h:mnI a b=mnI a' b')(h':mxI a b=mxI a' b'):b=a'\/b=b':=by
 unfold mnI at h;unfold mxI at h';split at h<;>split at h<;>split at h'<;>split at h'<;>lia
theorem aJk{a b:Int}(h:a≠b):mnI a b<mxI a b:=by
 unfold mnI mxI;split<;>split<;>lia
theorem aI4{a b:Int}(P:Int->Prop)(ha:P a)(hb:P b):P (mnI a b)/\P (mxI a b):=by
 unfold mnI mxI;constructor<;>split<;>assumption
def foB:En->Ou:=aY (lF 7 (op2 ixD (fM (aA (op2 qj (aD 6) (cD (.int 1))) (aA (op2 gf (aD 6) (cD (.int 2))) (aA (op2 gf (aD 6) (cD (.int 4))) (aA (aR aL (aA (aD 0) (aA (op2 bQ (cD (.int 300)) (aD 6)) (aA (aD 6) aF)))) aF))))) (aD 3)))
   (aY (ifS (tsb (op2 (eqR false) (aR aL (aA (aD 0) (aA (op2 bQ (cD (.int 400)) (aD 6)) (aA (cD (.int 3)) aF)))) (cD (.int 0))))
    (lF 7 (aR aL (aA (aD 0) (aA (op2 bQ (cD (.int 500)) (aD 6)) (aA (aD 6) aF)))))
    Ou.nx)
   (ifS (tsb (op2 gtD (aR aL (aA (aD 0) (aA (op2 bQ (cD (.int 600)) (aD 6)) (aA (cD (.int 9)) aF)))) (cD (.int 0))))
    (kh 5 (cA (aA (opA (mmD λ i j=>if j<i then j else i) (aA (op2 ixD (iG 4) (iG 7)) (aA (op2 ixD (iG 4) (aD 6)) aF))) (aA (opA (mmD λ i j=>if j>i then j else i) (aA (op2 ixD (iG 4) (iG 7)) (aA (op2 ixD (iG 4) (aD 6)) aF))) aF))))
    Ou.nx))
def foO:En->Rs D:=lcD (dh (opA iH (aA (lcD (cZ dZ (aA (aD 2) aF)) [none,some 0] (gnm 0) je (cA (aA (aR aL (aA (aD 1) (aA (op2 bQ (cD (.int 200)) (aD 0)) (aA (cD (.int 97)) aF)))) (aA (bA (aD 0)) aF)))) aF))) [none] (gnm 0) je (bA (op2 ixD (aD 0) (cD (.int 1))))
theorem tZ:dF=aY (cY 2 (aR aL (aA (aD 0) (aA (cD (.int 0)) (aA (op2 bQ (aD 1) (cD (.int 1))) aF))))) (aY (cY 3 (aR aL (aA (aD 0) (aA (cD (.int 1)) (aA (cD (.int 4)) aF))))) (aY (lF 4 foO) (aY (gh 5 (fM aF)) (aY (dO (cZ ud (aA (cD (.int 1)) (aA (aD 2) aF))) (gnm 6) foB) (retS (cA (aA (bA (aD 2)) (aA (opA cj (aA (opA iH (aA (cP 5) aF)) aF)) aF)))))))):=rfl
abbrev foV(c most n kd:Int)(O:List Int)(ps:List (Int×Int))(s6 s7:Slot):En:=[.sh (.int c),.sh (.int most),.sh (.int n),.sh (.int kd),.nw (.lst (O.map .int)),.ow (.lst (ps.map pD)),s6,s7]
section
variable{c most n kd:Int}{O:List Int}
theorem aDm{s4 s5 s6 s7:Slot}(h0:0<=n)(h1:n<=60):∃O:List Int,foO [.sh (.int c),.sh (.int most),.sh (.int n),.sh (.int kd),s4,s5,s6,s7]= .ok (.lst (O.map .int))/\O.Perm (upI n):=by
 have hr:=jC (j:=n) (by lia) (by lia);have hd:∀i:Int,∃r:Int,0<=i->i<n->aL [.int c,.int (200+i),.int 97]= .ok (.int r):=λ i=>by
  by_cases q:0<=i/\i<n
  ·obtain⟨r,e,_⟩:=dW (c:=c) (k:=200+i) (b:=97) (by lia) (by lia) (by decide) (by decide)
   exact⟨r,λ _ _=>e⟩
  ·exact⟨0,λ a b=>absurd ⟨a,b⟩ q⟩
 obtain⟨f,hf⟩:=Classical.skolem.mp hd;have e1:∀ρ:En,ρ=shE [.sh (.int c),.sh (.int most),.sh (.int n),.sh (.int kd),s4,s5,s6,s7]->lcD (cZ dZ (aA (aD 2) aF)) [none,some 0] (gnm 0) je (cA (aA (aR aL (aA (aD 1) (aA (op2 bQ (cD (.int 200)) (aD 0)) (aA (cD (.int 97)) aF)))) (aA (bA (aD 0)) aF))) ρ= .ok (.lst (((upI n).map λ i=>(f i,i)).map pD)):=λ ρ e=>by
  subst e;refine tY (ds:=(upI n).map .int) (by rw[<-wU];simp[shE,yM,shS,hr]) (by rw[List.length_map,eY];lia) ?_;rw[List.map_map];refine aAi (f:=D.int) (g:=λ i=>pD (f i,i)) (upI n) λ i hi=>⟨[.sh (.int i),.sh (.int c)],rfl,?_⟩
  have hi':=iQ.mp hi;simp[hf i hi'.1 hi'.2,pD]
 have nd:((upI n).map λ i=>(f i,i)).Nodup:=by
  rw[List.nodup_iff_pairwise_ne,List.pairwise_map];exact(vq n).imp λ{a b} h e=>by
   have:=congrArg Prod.snd e
   dsimp only at this;lia
 obtain⟨qs,q1,q2,q3⟩:=rm nd (by rw[List.length_map,eY];lia);have hql:qs.length<=60:=by rw[q2.length_eq,List.length_map,eY];lia
 refine⟨qs.map (·.2),?_,?_⟩
 ·unfold foO
  refine tY (ds:=qs.map pD) ?_ (by rw[List.length_map];lia) ?_
  ·rw[aGM,pL,dR,e1 _ rfl]
   simp[q1,-List.map_map]
  ·rw[List.map_map]
   refine aAi (f:=pD) (g:=λ p=>.int p.2) qs λ p hp=>⟨[.sh (pD p)],rfl,?_⟩
   simp[pD]
 ·have:=q2.map (·.2)
  rw[List.map_map]at this;simpa[Function.comp_def]using this
structure Fo(O:List Int)(v:Nat)(ps:List (Int×Int)):Prop where
 nd:ps.Nodup
 at_:∀p∈ps,∃(i j:Nat) (a b:Int),i<j/\j<v/\O[i]? =some a/\O[j]? =some b/\p=(mnI a b,mxI a b)
theorem Fo.up{ps:List (Int×Int)}{v:Nat}(F:Fo O v ps):Fo O (v+1) ps:=⟨F.nd,λ p hp=>by
 obtain⟨i,j,a,b,h1,h2,h3⟩:=F.at_ p hp;exact⟨i,j,a,b,h1,by lia,h3⟩⟩
theorem Fo.snoc{ps:List (Int×Int)}{v i:Nat}{a b:Int}(hO:O.Nodup)(F:Fo O v ps)(hi:i<v)(ha:O[i]? =some a)(hb:O[v]? =some b):Fo O (v+1) (ps++[(mnI a b,mxI a b)]):=by
 refine⟨?_,λ p hp=>?_⟩
 ·rw[List.nodup_append]
  refine⟨F.nd,by simp,λ p hp q hq e=>?_⟩;rw[List.mem_singleton]at hq;subst hq;obtain⟨i',j',a',b',h1,h2,h3,h4,rfl⟩:=F.at_ p hp;have hv:=(List.getElem?_eq_some_iff.mp hb).1;rcases aKW (congrArg Prod.fst e).symm (congrArg Prod.snd e).symm with z|z
  ·subst z
   have:=(List.getElem?_inj hv hO).mp (hb.trans h3.symm)
   lia
  ·subst z
   have:=(List.getElem?_inj hv hO).mp (hb.trans h4.symm)
   lia
 ·rcases List.mem_append.mp hp with z|z
  ·exact F.up.at_ p z
  ·rw[List.mem_singleton]at z
   exact⟨i,v,a,b,hi,by lia,ha,hb,z⟩
theorem aIr{ps:List (Int×Int)}{v:Nat}{s7:Slot}(hO:O.Nodup)(hv:v<O.length)(hv0:0<v)(hv2:v<60)(hk0:0<=kd)(hk:kd<4)(hl:ps.length<=v)(F:Fo O v ps):
  ∃ps' s7',foB (foV c most n kd O ps (.sh (.int (v:Int))) s7)= .nx (foV c most n kd O ps' (.sh (.int (v:Int))) s7')/\ps'.length<=v+1/\Fo O (v+1) ps':=by
 obtain⟨r3,e3,h3⟩:=dW (c:=c) (k:=300+(v:Int)) (b:=(v:Int)) (by lia) (by lia) (by lia) (by lia);obtain⟨r4,e4,h4⟩:=dW (c:=c) (k:=400+(v:Int)) (b:=3) (by lia) (by lia) (by decide) (by decide);obtain⟨r5,e5,h5⟩:=dW (c:=c) (k:=500+(v:Int)) (b:=(v:Int)) (by lia) (by lia) (by lia) (by lia);obtain⟨r6,e6,h6⟩:=dW (c:=c) (k:=600+(v:Int)) (b:=9) (by lia) (by lia) (by decide) (by decide);have f2:gf (.int (v:Int)) (.int 2)= .ok (.int ((v:Int) / 2)):=mD (by decide) (by decide);have f4:gf (.int (v:Int)) (.int 4)= .ok (.int ((v:Int) / 4)):=mD (by decide) (by decide);obtain⟨d,ed,hd,_⟩:=aEq (l:=[.int ((v:Int)-1),.int ((v:Int) / 2),.int ((v:Int) / 4),.int (r3:Int)]) (i:=kd) hk0 (by simpa using hk);obtain⟨u,rfl,hu⟩:∃u:Nat,d= .int (u:Int)/\u<v:=by
  simp only[List.mem_cons,List.not_mem_nil,or_false]at hd;rcases hd with rfl|rfl|rfl|rfl
  ·exact⟨v-1,by congr 1;lia,by lia⟩
  ·exact⟨v / 2,by congr 1,by lia⟩
  ·exact⟨v / 4,by congr 1,by lia⟩
  ·exact⟨r3,rfl,by lia⟩
 have g1:lF 7 (op2 ixD (fM (aA (op2 qj (aD 6) (cD (.int 1))) (aA (op2 gf (aD 6) (cD (.int 2))) (aA (op2 gf (aD 6) (cD (.int 4))) (aA (aR aL (aA (aD 0) (aA (op2 bQ (cD (.int 300)) (aD 6)) (aA (aD 6) aF)))) aF))))) (aD 3)) (foV c most n kd O ps (.sh (.int (v:Int))) s7)= .nx (foV c most n kd O ps (.sh (.int (v:Int))) (.nw (.int (u:Int)))):=by simp[e3,f2,f4,ed]
 obtain⟨t,ht,g2⟩:∃t:Nat,t<v/\ifS (tsb (op2 (eqR false) (aR aL (aA (aD 0) (aA (op2 bQ (cD (.int 400)) (aD 6)) (aA (cD (.int 3)) aF)))) (cD (.int 0)))) (lF 7 (aR aL (aA (aD 0) (aA (op2 bQ (cD (.int 500)) (aD 6)) (aA (aD 6) aF))))) Ou.nx (foV c most n kd O ps (.sh (.int (v:Int))) (.nw (.int (u:Int))))= .nx (foV c most n kd O ps (.sh (.int (v:Int))) (.nw (.int (t:Int)))):=by
  by_cases q:r4=0
  ·exact⟨r5,by lia,by simp[e4,e5,q]⟩
  ·exact⟨u,hu,by simp[e4,q]⟩
 have htl:t<O.length:=by lia
 obtain⟨a,ha⟩:∃a,O[t]? =some a:=⟨_,List.getElem?_eq_getElem htl⟩
 obtain⟨b,hb⟩:∃b,O[v]? =some b:=⟨_,List.getElem?_eq_getElem hv⟩
 have xa:atD (O.map .int) (t:Int)= .ok (.int a):=fJ (by rw[List.getElem?_map,ha];rfl);have xb:atD (O.map .int) (v:Int)= .ok (.int b):=fJ (by rw[List.getElem?_map,hb];rfl);have hz:ps.length<16777216:=by lia
 by_cases q:0<r6
 ·refine⟨ps++[(mnI a b,mxI a b)],.nw (.int (t:Int)),?_,by simp;lia,F.snoc hO ht ha hb⟩
  rw[foB,aW,g1,bL,aW,g2,bL];simp[e6,q,xa,xb,kh,hz,pD,mnI,mxI]
 ·refine⟨ps,.nw (.int (t:Int)),?_,by lia,F.up⟩
  rw[foB,aW,g1,bL,aW,g2,bL];simp[e6,q]
theorem um{most:Nat}(h1:most<=60):∃n ps,cN [.int c,.int most]= .ok (owD n ps)/\Ow n ps/\(∀p∈ps,p.1<p.2)/\n<=most/\ps.length<=most:=by
 obtain⟨n,en,hn⟩:=dW (c:=c) (k:=0) (b:=(most:Int)+1) (by decide) (by decide) (by lia) (by lia);obtain⟨kd,ek,hk⟩:=dW (c:=c) (k:=1) (b:=4) (by decide) (by decide) (by decide) (by decide);obtain⟨O,eO,hO⟩:=aDm (c:=c) (most:=most) (n:=n) (kd:=kd) (s4:=.no) (s5:=.no) (s6:=.no) (s7:=.no) (by lia) (by lia);have hnd:O.Nodup:=hO.nodup_iff.mpr (by
  rw[List.nodup_iff_pairwise_ne];exact(vq n).imp λ h=>by lia)
 have hlen:O.length=n:=by rw[hO.length_eq,eY];lia
 have hmem:∀a∈O,0<=a/\a<(n:Int):=λ a ha=>iQ.mp (hO.mem_iff.mp ha)
 have hr:=wV (i:=1) (j:=(n:Int)) (by decide) (by decide) (by lia) (by lia);have hrl:(bB 1 (n:Int)).length<=60:=by rw[fC];lia
 obtain⟨ρ',e,ps,s6,s7,rfl,hl,F⟩:=j6 (a:=gnm 6) (u:=foB) (ds:=bB 1 n)
  (λ i ρ=>∃(ps:List (Int×Int)) (s6 s7:Slot),ρ=foV c most n kd O ps s6 s7/\ps.length<=i+1/\Fo O (i+1) ps)
  (by
   rintro i d ρ hd ⟨ps,s6,s7,rfl,hps,F⟩;obtain⟨rfl,hlt⟩:=iJ hd;have hi:((1:Int)+(i:Int))=((i+1:Nat):Int):=by lia
   rw[hi];obtain⟨ps',s7',e,l',F'⟩:=aIr (c:=c) (most:=most) (n:=n) (kd:=kd) (v:=i+1) (s7:=s7) hnd (by lia) (by lia) (by lia) (by lia) hk hps F;exact⟨_,e,ps',_,s7',rfl,l',F'⟩)
  (ρ:=foV c most n kd O [] .no .no) ⟨[],.no,.no,rfl,by simp,⟨by simp,λ p hp=>(nomatch hp)⟩⟩
 have hps60:ps.length<=61:=by lia
 obtain⟨qs,q1,q2,q3⟩:=rm F.nd (by lia);have hq:∀p∈qs,(0<=p.1/\p.1<(n:Int))/\(0<=p.2/\p.2<(n:Int))/\p.1<p.2:=λ p hp=>by
  obtain⟨i,j,a,b,h1,h2,h3,h4,rfl⟩:=F.at_ p (q2.mem_iff.mp hp);have hne:a≠b:=λ e=>by
   subst e
   have:=(List.getElem?_inj (List.getElem?_eq_some_iff.mp h3).1 hnd).mp (h3.trans h4.symm)
   lia
  obtain⟨m1,m2⟩:=aI4 (λ x=>0<=x/\x<(n:Int)) (hmem a (List.mem_of_getElem? h3)) (hmem b (List.mem_of_getElem? h4));exact⟨m1,m2,aJk hne⟩
 have hpl:ps.length<=n:=by
  rcases Nat.eq_zero_or_pos n with z|z
  ·have:ps=[]:=by
    cases ps with
    |nil=>rfl
    |cons p ps=>
     obtain⟨m1,_⟩:=hq p (q2.mem_iff.mpr List.mem_cons_self);lia
   rw[this];exact Nat.zero_le _
  ·rw[fC]at hl
   lia
 refine⟨n,qs,?_,⟨by lia,by lia,by rw[q2.length_eq];lia,λ p hp=>?_,q3⟩,λ p hp=>(hq p hp).2.2,by lia,by rw[q2.length_eq];lia⟩
 ·have st:bG 8 [.int c,.int most]=[.sh (.int c),.sh (.int most),.no,.no,.no,.no,.no,.no]:=rfl
  have g1:cY 2 (aR aL (aA (aD 0) (aA (cD (.int 0)) (aA (op2 bQ (aD 1) (cD (.int 1))) aF)))) [.sh (.int c),.sh (.int most),.no,.no,.no,.no,.no,.no]= .nx [.sh (.int c),.sh (.int most),.sh (.int n),.no,.no,.no,.no,.no]:=by simp[en]
  have g2:cY 3 (aR aL (aA (aD 0) (aA (cD (.int 1)) (aA (cD (.int 4)) aF)))) [.sh (.int c),.sh (.int most),.sh (.int n),.no,.no,.no,.no,.no]= .nx [.sh (.int c),.sh (.int most),.sh (.int n),.sh (.int kd),.no,.no,.no,.no]:=by simp[ek]
  have g3:lF 4 foO [.sh (.int c),.sh (.int most),.sh (.int n),.sh (.int kd),.no,.no,.no,.no]= .nx [.sh (.int c),.sh (.int most),.sh (.int n),.sh (.int kd),.nw (.lst (O.map .int)),.no,.no,.no]:=by rw[aFP,eO];rfl
  have g4:gh 5 (fM aF) [.sh (.int c),.sh (.int most),.sh (.int n),.sh (.int kd),.nw (.lst (O.map .int)),.no,.no,.no]= .nx (foV c most n kd O [] .no .no):=rfl;have g5:cZ ud (aA (cD (.int 1)) (aA (aD 2) aF)) (foV c most n kd O [] .no .no)= .ok (bB 1 n):=by simp[hr]
  simp only[cN,tZ,cI,st];rw[aW,g1,bL,aW,g2,bL,aW,g3,bL,aW,g4,bL,aW,gH,g5,dH,e,bL];simp[q1,owD]
 ·obtain⟨⟨a1,a2⟩,⟨b1,b2⟩,lt⟩:=hq p hp
  exact⟨a1,a2,b1,b2,by lia⟩
end
theorem sS{ps:List (Int×Int)}:oA ps=true↔ps.Pairwise λ p q=>p.1<q.1\/p.1=q.1/\p.2<q.2:=by
 constructor
 ·intro h
  have h':=rC.mp h;clear h;induction ps with
  |nil=>exact .nil
  |cons p ps ih=>
   have hs:∀(i:Nat) (p q:Int×Int),ps[i]? =some p->ps[i+1]? =some q->ltP p q=true:=λ i a b e1 e2=>h' (i+1) a b e1 e2
   have hp:=ih hs;refine List.pairwise_cons.mpr ⟨λ q hq=>?_,hp⟩;cases ps with
   |nil=>cases hq
   |cons r rs=>
    have h1:=xQ.mp (h' 0 p r rfl rfl);rcases List.mem_cons.mp hq with rfl|hq
    ·exact h1
    ·have h2:=(List.pairwise_cons.mp hp).1 q hq
     lia
 ·intro h
  rw[rC];intro i p q e1 e2;rw[xQ];obtain⟨h1,rfl⟩:=List.getElem?_eq_some_iff.mp e1;obtain⟨h2,rfl⟩:=List.getElem?_eq_some_iff.mp e2;exact List.pairwise_iff_getElem.mp h i (i+1) h1 h2 (Nat.lt_succ_self i)
theorem El.ow{n:Int}{ps:List (Int×Int)}:El 3 (owD n ps):=.tup λ d hd=>by
 simp only[List.mem_cons,List.not_mem_nil,or_false]at hd;rcases hd with rfl|rfl
 ·exact .int
 ·refine .tup λ d hd=>?_
  obtain⟨p,_,rfl⟩:=List.mem_map.mp hd;exact .tup λ d hd=>by
   simp only[List.mem_cons,List.not_mem_nil,or_false]at hd;rcases hd with rfl|rfl<;>exact .int
theorem xY{n:Int}{ps:List (Int×Int)}(h:Ow n ps)(low:∀p∈ps,p.1<p.2):bC [owD n ps]= .ok (.bl (((iK n (dbl ps)).length:Int)==n-(ps.length:Int))):=by
 have e:=aDh h low;have st:bG 1 [owD n ps]=[.sh (owD n ps)]:=rfl;have h0:ixD (owD n ps) (.int 0)= .ok (.int n):=by simp[owD]
 have h1:ixD (owD n ps) (.int 1)= .ok (.tup (ps.map pD)):=by simp[owD]
 simp only[bC,eE,cI,st];simp[e,h0,h1]
def kF:En->Ou:=aY (cY 9 (aR bC (aA (aD 8) aF))) (ifS (orT (pM (tst (op1 (lQ "bool") (aD 9)))) (tsb (op2 (eqR true) (aD 9) (op2 (eqR false) (op2 bQ (opA gM (aA (op2 ixD (aD 8) (cD (.int 1))) aF)) (opA gM (aA (aR gQ (aA (aD 8) aF)) aF))) (op2 ixD (aD 8) (cD (.int 0))))))) (retS (cD (.bl false))) Ou.nx)
def kRg:En->Ou:=aY (cY 11 (opA cj (aA (opA iH (aA (op2 bQ (lcD (cZ dZ (aA (op2 qj (aD 10) (cD (.int 1))) aF)) [none] (gnm 0) je (cA (aA (bA (aD 0)) (aA (op2 bQ (bA (aD 0)) (cD (.int 1))) aF)))) (fM (aA (cA (aA (cD (.int 0)) (aA (op2 qj (aD 10) (cD (.int 1))) aF))) aF))) aF)) aF)))
   (aY (ifS (orT (tsb (op2 zP (aR bC (aA (cA (aA (op2 bQ (aD 10) (cD (.int 2))) (aA (aD 11) aF))) aF)) (cD (.bl false)))) (tsb (op2 zP (aR bC (aA (cA (aA (op2 bQ (aD 10) (cD (.int 2))) (aA (o8 (aD 11) (vM (cD (.int 1))) vN) aF))) aF)) (cD (.bl true)))))
    (retS (cD (.bl false)))
    Ou.nx)
   (ifS (tsb (op2 (eqR true) (aFZ wdN "told" (aR bC (aA (cA (aA (aD 10) (aA (op1 aHo (aD 11)) aF))) aF))) (cD (.str "web"))))
    (retS (cD (.bl false)))
    Ou.nx))
def kW:En->Ou:=cY 10 (op2 bQ (cD (.int 3)) (aR aL (aA (aD 2) (aA (cD (.int 9001)) (aA (cD (.int 7)) aF)))))
def kM:En->Ou:=ifS (tsb (op2 (eqR true) (cP 5) (fM aF)))
    (aY (lF 7 (bA (op2 ixD (cP 5) (aR aL (aA (aD 2) (aA (cD (.int 9000)) (aA (opA gM (aA (cP 5) aF)) aF)))))))
    (kh 4 (cA (aA (bA (op2 ixD (aD 3) (cD (.int 0)))) (aA (opA cj (aA (opA lE (aA (op2 bQ (op2 ixD (aD 3) (cD (.int 1))) (cA (aA (iG 7) aF))) aF)) aF)) aF)))))
    Ou.nx
def kX:En->Ou:=aGb 5 (lcD (cZ dZ (aA (aD 6) aF)) [none,some 6,some 3] (gnm 0) (tsb (op2 (inR true) (cA (aA (aD 0) (aA (aD 1) aF))) (op2 ixD (aD 2) (cD (.int 1))))) (cA (aA (bA (aD 0)) (aA (bA (aD 1)) aF))))
def kT:En->Ou:=gh 4 (fM (aA (bA (aD 3)) (aA (aR iC (aA (op2 bQ (aD 2) (cD (.int 1))) (aA (cD (.int 8)) aF))) (aA (cA (aA (bA (op2 ixD (aD 3) (cD (.int 0)))) (aA (bA (o8 (op2 ixD (aD 3) (cD (.int 1))) (vM (cD (.int 1))) vN)) aF))) aF))))
def kK:En->Ou:=aY (cY 2 (aR cH (aA (aD 0) (aA (aD 1) aF)))) (aY (cY 3 (aR cN (aA (aD 2) (aA (cD (.int 20)) aF)))) (aY kT (aY (gh 5 (fM aF)) (aY (dO (cZ dZ (aA (op2 ixD (aD 3) (cD (.int 0))) aF)) (gnm 6) kX) (aY kM (aG9 4 (aY (dO (dh (aD 4)) (gnm 8) kF) (aY kW kRg))))))))
def kR:En->Rs (List D):=cZ dZ (aA (opA (mmD λ i j=>if j>i then j else i) (aA (cD (.int 1)) (aA (opA (mmD λ i j=>if j<i then j else i) (aA (opA gM (aA (aD 0) aF)) (aA (cD (.int 8)) aF))) aF))) aF)
theorem aGI:v9=aY (dO kR (gnm 1) kK) (retS (op2 (isD false) (aR bC (aA (cA (aA (cD (.int 0)) (aA (cA aF) aF))) aF)) (cD (.bl true)))):=rfl
theorem aFx:bC [.tup [.int 0,.tup []]]= .ok (.bl true):=by kernel_rfl
def aGz(w:Nat):D:=.tup (.tup [.int 0,.int 1]:: .tup [.int 0,.int ((w:Int)+2)]::(List.range (w+1)).map λ(k:Nat)=>D.tup [.int ((k:Int)+1),.int ((k:Int)+2)])
theorem aFY(s0 s1 s2 s3 s4 s5 s6 s7 s8 s9 s11:Slot):∀r:Nat,r<7->kRg [s0,s1,s2,s3,s4,s5,s6,s7,s8,s9,.sh (.int (3+(r:Int))),s11]= .nx [s0,s1,s2,s3,s4,s5,s6,s7,s8,s9,.sh (.int (3+(r:Int))),.sh (aGz r)]
 |0,_=>by kernel_rfl
 |1,_=>by kernel_rfl
 |2,_=>by kernel_rfl
 |3,_=>by kernel_rfl
 |4,_=>by kernel_rfl
 |5,_=>by kernel_rfl
 |6,_=>by kernel_rfl
 |n+7,h=>absurd h (by lia)
theorem aEd(p:Int×Int)(l:List (Int×Int)):eqR true (.lst ((p::l).map pD)) (.lst [])= .ok (.bl true):=by
 obtain⟨h1,h2⟩:=qC (p::l);have e:eqD (.lst ((p::l).map pD)) (.lst [])=false:=by simp[eqD,fO]
 generalize (p::l).map pD=L at h1 h2 e;unfold eqR;rw[if_pos (by simp[fP,bW,aQ,aj];exact⟨by lia,h2⟩),e];rfl
def aJG(ts:List D):Prop:=ts.length<=60/\∀t∈ts,∃n ps,t=owD n ps/\Ow n ps/\∀p∈ps,p.1<p.2
abbrev kV(ns:List Int)(k c n:Int)(ps:List (Int×Int))(s4 s5 s6 s7 s8 s9 s10 s11:Slot):En:=[.sh (.scr ns),.sh (.int k),.sh (.int c),.sh (owD n ps),s4,s5,s6,s7,s8,s9,s10,s11]
section
variable{ns:List Int}{k c n:Int}{ps:List (Int×Int)}{s4 s5 s6 s7 s8 s9 s10 s11:Slot}
theorem aJq{m:Int}{qs:List (Int×Int)}(h:Ow m qs)(low:∀p∈qs,p.1<p.2):∃s9',kF (kV ns k c n ps s4 s5 s6 s7 (.sh (owD m qs)) s9 s10 s11)= .nx (kV ns k c n ps s4 s5 s6 s7 (.sh (owD m qs)) s9' s10 s11):=by
 have e:=xY h low;have e2:=xT h;have h0:ixD (owD m qs) (.int 0)= .ok (.int m):=by simp[owD]
 have h1:ixD (owD m qs) (.int 1)= .ok (.tup (qs.map pD)):=by simp[owD]
 have hb:∀b,lQ "bool" (.bl b)= .ok (.bl true):=λ b=>rfl
 refine⟨.sh (.bl (((iK m (dbl qs)).length:Int)==m-(qs.length:Int))),?_⟩;have q:(((qs.length:Int)+((iK m (dbl qs)).length:Int))==m)=(((iK m (dbl qs)).length:Int)==m-(qs.length:Int)):=by
  rw[Bool.eq_iff_iff,beq_iff_eq,beq_iff_eq];lia
 have eb:∀b:Bool,eqR true (.bl b) (.bl b)= .ok (.bl false):=λ b=>by cases b<;>rfl
 simp only[kF,aW,aFO,lU,dR,xJ,aBI,List.getElem?_cons_zero,List.getElem?_cons_succ,jJ,e,dH,bL,List.set_cons_succ,List.set_cons_zero,aAu,aIM,aFw,aH1,aI2,hb,aA7,aDo,pL,aHV,h0,h1,e2,aH2];simp[q,eb]
theorem aJn{ls:List (Int×Int)}{o:Int}(ho:0<=o)(h:Ow n ps)(hon:o<n)(hl:ls.length<=60*o)(hm:∀p∈ls,0<=p.1/\p.1<p.2/\p.2<o/\p∉ps):
  ∃ls':List (Int×Int),kX (kV ns k c n ps s4 (.ow (.lst (ls.map pD))) (.sh (.int o)) s7 s8 s9 s10 s11)= .nx (kV ns k c n ps s4 (.ow (.lst (ls'.map pD))) (.sh (.int o)) s7 s8 s9 s10 s11)/\(ls'.length:Int)<=60*(o+1)/\∀p∈ls',0<=p.1/\p.1<p.2/\p.2<o+1/\p∉ps:=by
 have hn1:=h.n1;have hr:=jC (j:=o) (by lia) (by lia);have h1:ixD (owD n ps) (.int 1)= .ok (.tup (ps.map pD)):=by simp[owD]
 have lc:lcD (cZ dZ (aA (aD 6) aF)) [none,some 6,some 3] (gnm 0) (tsb (op2 (inR true) (cA (aA (aD 0) (aA (aD 1) aF))) (op2 ixD (aD 2) (cD (.int 1))))) (cA (aA (bA (aD 0)) (aA (bA (aD 1)) aF))) (kV ns k c n ps s4 (.ow (.lst (ls.map pD))) (.sh (.int o)) s7 s8 s9 s10 s11)= .ok (.lst ((((upI o).filter λ x=>!decide ((x,o)∈ps)).map λ x=>(x,o)).map pD)):=by
  refine tY (ds:=(upI o).map .int) (by rw[<-wU];simp[shE,yM,hr]) (by rw[List.length_map,eY];lia) ?_;rw[List.map_map];refine rF (f:=D.int) (g:=λ x=>pD (x,o)) (t:=λ x=>!decide ((x,o)∈ps)) (upI o) λ x _=>⟨[.sh (.int x),.sh (.int o),.sh (owD n ps)],rfl,?_,by simp[pD]⟩
  have:=aEU true (x,o) ps
  simp only[pD]at this;simp[h1,pD,this]
 refine⟨ls++((upI o).filter λ x=>!decide ((x,o)∈ps)).map λ x=>(x,o),?_,?_,λ p hp=>?_⟩
 ·have hfl:=List.length_filter_le (λ x=>!decide ((x,o)∈ps)) (upI o)
  rw[eY]at hfl
  show((lcD (cZ dZ (aA (aD 6) aF)) [none,some 6,some 3] (gnm 0) (tsb (op2 (inR true) (cA (aA (aD 0) (aA (aD 1) aF))) (op2 ixD (aD 2) (cD (.int 1))))) (cA (aA (bA (aD 0)) (aA (bA (aD 1)) aF))) (kV ns k c n ps s4 (.ow (.lst (ls.map pD))) (.sh (.int o)) s7 s8 s9 s10 s11)).bo (aGc (ls.map pD) λ l=>.nx (kV ns k c n ps s4 (.ow (.lst l)) (.sh (.int o)) s7 s8 s9 s10 s11)))=_
  rw[lc,dH];unfold aGc;dsimp only;rw[if_pos (by rw[szl,List.length_map,List.length_map,List.length_map];lia),<-List.map_append]
 ·have hfl:=List.length_filter_le (λ x=>!decide ((x,o)∈ps)) (upI o)
  rw[eY]at hfl;rw[List.length_append,List.length_map];lia
 ·rcases List.mem_append.mp hp with z|z
  ·obtain⟨a,b,d,e⟩:=hm p z
   exact⟨a,b,by lia,e⟩
  ·obtain⟨x,hx,rfl⟩:=List.mem_map.mp z
   obtain⟨hx,hx2⟩:=List.mem_filter.mp hx
   have:=iQ.mp hx
   exact⟨this.1,this.2,by dsimp only;lia,by simpa using hx2⟩
theorem aJo{ls:List (Int×Int)}{ts:List D}(h:Ow n ps)(low:∀p∈ps,p.1<p.2)(hpl:ps.length<=20)(hl:ls.length<=3600)(hm:∀p∈ls,0<=p.1/\p.1<p.2/\p.2<n/\p∉ps)(ht:aJG ts)(htl:ts.length<=10):
  ∃ts' s7',kM (kV ns k c n ps (.ow (.lst ts)) (.ow (.lst (ls.map pD))) s6 s7 s8 s9 s10 s11)= .nx (kV ns k c n ps (.ow (.lst ts')) (.ow (.lst (ls.map pD))) s6 s7' s8 s9 s10 s11)/\aJG ts':=by
 have h0:ixD (owD n ps) (.int 0)= .ok (.int n):=by simp[owD]
 have h1:ixD (owD n ps) (.int 1)= .ok (.tup (ps.map pD)):=by simp[owD]
 cases ls with
 |nil=>
  refine⟨ts,s7,?_,ht⟩
  have:eqR true (.lst []) (.lst [])= .ok (.bl false):=rfl
  simp[kM,this]
 |cons p0 ls0=>
  generalize hls:p0::ls0=ls at hl hm;have hpos:0<ls.length:=by rw[<-hls];simp
  obtain⟨r,er,hr⟩:=dW (c:=c) (k:=9000) (b:=(ls.length:Int)) (by decide) (by decide) (by lia) (by lia);have hne:eqR true (.lst (ls.map pD)) (.lst [])= .ok (.bl true):=by
   rw[<-hls];exact aEd p0 ls0
  obtain⟨q,hq⟩:∃q,ls[r]? =some q:=⟨_,List.getElem?_eq_getElem (by lia)⟩
  have xq:atD (ls.map pD) (r:Int)= .ok (pD q):=fJ (by rw[List.getElem?_map,hq];rfl);obtain⟨q0,q1,q2,q3⟩:=hm q (List.mem_of_getElem? hq);have nd:(ps++[q]).Nodup:=by
   rw[List.nodup_append];refine⟨?_,by simp,λ x hx y hy e=>?_⟩
   ·have:=sS.mp h.ris
    rw[List.nodup_iff_pairwise_ne];exact this.imp λ h e=>by subst e;lia
   ·rw[List.mem_singleton]at hy
    subst hy;subst e;exact q3 hx
  obtain⟨us,u1,u2,u3⟩:=yR nd (by simp;lia);have hg:uC (pD q)= .ok (pD q):=rfl;have ha:bQ (.tup (ps.map pD)) (.tup [pD q])= .ok (.tup ((ps++[q]).map pD)):=by
   rw[aK0 (by simp;lia),List.map_append];rfl
  have hz:ts.length<16777216:=by lia
  refine⟨ts++[owD n us],.nw (pD q),?_,?_⟩
  ·have g1:lF 7 (bA (op2 ixD (cP 5) (aR aL (aA (aD 2) (aA (cD (.int 9000)) (aA (opA gM (aA (cP 5) aF)) aF)))))) (kV ns k c n ps (.ow (.lst ts)) (.ow (.lst (ls.map pD))) s6 s7 s8 s9 s10 s11)= .nx (kV ns k c n ps (.ow (.lst ts)) (.ow (.lst (ls.map pD))) s6 (.nw (pD q)) s8 s9 s10 s11):=by simp[er,xq,hg]
   have g2:kh 4 (cA (aA (bA (op2 ixD (aD 3) (cD (.int 0)))) (aA (opA cj (aA (opA lE (aA (op2 bQ (op2 ixD (aD 3) (cD (.int 1))) (cA (aA (iG 7) aF))) aF)) aF)) aF))) (kV ns k c n ps (.ow (.lst ts)) (.ow (.lst (ls.map pD))) s6 (.nw (pD q)) s8 s9 s10 s11)= .nx (kV ns k c n ps (.ow (.lst (ts++[owD n us]))) (.ow (.lst (ls.map pD))) s6 (.nw (pD q)) s8 s9 s10 s11):=by
    simp[kh,h0,h1,ha,hz,owD,-List.map_append,u1]
   have g0:tsb (op2 (eqR true) (cP 5) (fM aF)) (kV ns k c n ps (.ow (.lst ts)) (.ow (.lst (ls.map pD))) s6 s7 s8 s9 s10 s11)= .ok true:=by simp[hne]
   rw[kM,aAu,g0,dH,if_pos rfl,aW,g1,bL,g2]
  ·refine⟨by simp;lia,λ t hm'=>?_⟩
   rcases List.mem_append.mp hm' with z|z
   ·exact ht.2 t z
   ·rw[List.mem_singleton]at z
    have hmm:∀p∈us,p∈ps\/p=q:=λ p hp=>by
     rcases List.mem_append.mp (u2.mem_iff.mp hp)with z|z
     ·exact .inl z
     ·exact .inr (List.mem_singleton.mp z)
    refine⟨n,us,z,⟨h.n0,h.n1,by rw[u2.length_eq];simp;lia,λ p hp=>?_,u3⟩,λ p hp=>?_⟩
    ·rcases hmm p hp with z|rfl
     ·exact h.pr p z
     ·exact⟨q0,by lia,by lia,q2,by lia⟩
    ·rcases hmm p hp with z|rfl
     ·exact low p z
     ·exact q1
theorem aGd(h:Ow n ps):Ow n (ps.drop 1):=by
 refine⟨h.n0,h.n1,by have:=h.len;rw[List.length_drop];lia,λ p hp=>h.pr p (List.mem_of_mem_drop hp),?_⟩;exact sS.mpr ((sS.mp h.ris).sublist (List.drop_sublist 1 ps))
theorem aCa(ps:List (Int×Int)):cutD (ps.map pD) (some 1) none=(ps.drop 1).map pD:=by
 cases ps with
 |nil=>rfl
 |cons p ps=>
  have:cutD ((p::ps).map pD) (some 1) none=((p::ps).map pD).drop 1:=aCb (k:=1) (by simp)
  rw[this];rfl
theorem aJp{s2 s3:Slot}(hk:0<=k):∃s2' s3' s4' s5' s6' s7' s8' s9' s10' s11',kK [.sh (.scr ns),.sh (.int k),s2,s3,s4,s5,s6,s7,s8,s9,s10,s11]= .nx [.sh (.scr ns),.sh (.int k),s2',s3',s4',s5',s6',s7',s8',s9',s10',s11']:=by
 obtain⟨c,ec⟩:=aGh (ns:=ns) hk;obtain⟨n,ps,ef,h,low,hn,hpl⟩:=um (c:=c) (most:=20) (by decide);have ef':cN [.int c,.int 20]= .ok (owD n ps):=ef;obtain⟨m,qs,ew,h',low',_⟩:=aAj (c:=c+1) (most:=8) (by decide);have ew':iC [.int (c+1),.int 8]= .ok (owD m qs):=ew;have h0:ixD (owD n ps) (.int 0)= .ok (.int n):=by simp[owD]
 have h1:ixD (owD n ps) (.int 1)= .ok (.tup (ps.map pD)):=by simp[owD]
 have gw:uC (owD n ps)= .ok (owD n ps):=El.ow.g;have gp:uC (.tup ((ps.drop 1).map pD))= .ok (.tup ((ps.drop 1).map pD)):=El.g (k:=2) (.tup λ d hd=>by
  obtain⟨p,_,rfl⟩:=List.mem_map.mp hd;exact .tup λ d hd=>by
   simp only[List.mem_cons,List.not_mem_nil,or_false]at hd;rcases hd with rfl|rfl<;>exact .int)
 have c2:cY 2 (aR cH (aA (aD 0) (aA (aD 1) aF))) [.sh (.scr ns),.sh (.int k),s2,s3,s4,s5,s6,s7,s8,s9,s10,s11]= .nx [.sh (.scr ns),.sh (.int k),.sh (.int c),s3,s4,s5,s6,s7,s8,s9,s10,s11]:=by simp[ec]
 have c3:cY 3 (aR cN (aA (aD 2) (aA (cD (.int 20)) aF))) [.sh (.scr ns),.sh (.int k),.sh (.int c),s3,s4,s5,s6,s7,s8,s9,s10,s11]= .nx (kV ns k c n ps s4 s5 s6 s7 s8 s9 s10 s11):=by simp[ef']
 have c4:kT (kV ns k c n ps s4 s5 s6 s7 s8 s9 s10 s11)= .nx (kV ns k c n ps (.ow (.lst [owD n ps,owD m qs,owD n (ps.drop 1)])) s5 s6 s7 s8 s9 s10 s11):=by
  have:D.tup [.int n,.tup ((ps.drop 1).map pD)]=owD n (ps.drop 1):=rfl
  simp only[kT,aBW,aGF,dR,aG0,aBI,List.getElem?_cons_zero,List.getElem?_cons_succ,jJ,gw,lU,aDo,aHV,aEv,aA7,xJ,ew',aFE,h0,h1,aBz,aDq,aDr,aFM,aCa,gp];simp[owD]
 have c5:gh 5 (fM aF) (kV ns k c n ps (.ow (.lst [owD n ps,owD m qs,owD n (ps.drop 1)])) s5 s6 s7 s8 s9 s10 s11)= .nx (kV ns k c n ps (.ow (.lst [owD n ps,owD m qs,owD n (ps.drop 1)])) (.ow (.lst (([]:List (Int×Int)).map pD))) s6 s7 s8 s9 s10 s11):=rfl;have hn0:=h.n0;have hr:=jC (j:=n) (by lia) (by lia);obtain⟨ρ',e6,ls,s6',rfl,l1,l2⟩:=j6 (a:=gnm 6) (u:=kX) (ds:=bB 0 n)
  (λ i ρ=>∃(ls:List (Int×Int)) (s6:Slot),ρ=kV ns k c n ps (.ow (.lst [owD n ps,owD m qs,owD n (ps.drop 1)])) (.ow (.lst (ls.map pD))) s6 s7 s8 s9 s10 s11/\(ls.length:Int)<=60*(i:Int)/\∀p∈ls,0<=p.1/\p.1<p.2/\p.2<(i:Int)/\p∉ps)
  (by
   rintro i d ρ hd ⟨ls,s6,rfl,l1,l2⟩;obtain⟨rfl,hlt⟩:=iJ hd;rw[Int.zero_add]at hlt ⊢;obtain⟨ls',e,l1',l2'⟩:=aJn (ns:=ns) (k:=k) (c:=c) (s4:=.ow (.lst [owD n ps,owD m qs,owD n (ps.drop 1)])) (s7:=s7) (s8:=s8) (s9:=s9) (s10:=s10) (s11:=s11) (o:=(i:Int)) (by lia) h hlt l1 l2;refine⟨kV ns k c n ps (.ow (.lst [owD n ps,owD m qs,owD n (ps.drop 1)])) (.ow (.lst (ls'.map pD))) (.sh (.int (i:Int))) s7 s8 s9 s10 s11,?_,ls',.sh (.int (i:Int)),rfl,by lia,λ p hp=>?_⟩
   ·have g:gnm 6 (.int (i:Int)) (kV ns k c n ps (.ow (.lst [owD n ps,owD m qs,owD n (ps.drop 1)])) (.ow (.lst (ls.map pD))) s6 s7 s8 s9 s10 s11)= .ok (kV ns k c n ps (.ow (.lst [owD n ps,owD m qs,owD n (ps.drop 1)])) (.ow (.lst (ls.map pD))) (.sh (.int (i:Int))) s7 s8 s9 s10 s11):=rfl
    rw[g,tG];exact e
   obtain⟨a,b,d,f⟩:=l2' p hp;exact⟨a,b,by lia,f⟩)
  (ρ:=kV ns k c n ps (.ow (.lst [owD n ps,owD m qs,owD n (ps.drop 1)])) (.ow (.lst (([]:List (Int×Int)).map pD))) s6 s7 s8 s9 s10 s11) ⟨[],s6,rfl,by simp,λ p hp=>(nomatch hp)⟩
 have hrl:(((bB 0 n).length:Nat):Int)=n:=by rw[fC];lia
 rw[hrl]at l1 l2;have c6:cZ dZ (aA (op2 ixD (aD 3) (cD (.int 0))) aF) (kV ns k c n ps (.ow (.lst [owD n ps,owD m qs,owD n (ps.drop 1)])) (.ow (.lst (([]:List (Int×Int)).map pD))) s6 s7 s8 s9 s10 s11)= .ok (bB 0 n):=by simp[h0,hr]
 have hA:aJG [owD n ps,owD m qs,owD n (ps.drop 1)]:=⟨by simp,λ t ht=>by
  simp only[List.mem_cons,List.not_mem_nil,or_false]at ht;rcases ht with rfl|rfl|rfl
  ·exact⟨n,ps,rfl,h,low⟩
  ·exact⟨m,qs,rfl,h',low'⟩
  ·exact⟨n,ps.drop 1,rfl,aGd h,λ p hp=>low p (List.mem_of_mem_drop hp)⟩⟩
 obtain⟨ts,s7',e7,hT⟩:=aJo (ns:=ns) (k:=k) (c:=c) (s6:=s6') (s7:=s7) (s8:=s8) (s9:=s9) (s10:=s10) (s11:=s11) h low hpl (by lia) l2 hA (by simp);have c7:frz 4 (kV ns k c n ps (.ow (.lst ts)) (.ow (.lst (ls.map pD))) s6' s7' s8 s9 s10 s11)=kV ns k c n ps (.nw (.lst ts)) (.ow (.lst (ls.map pD))) s6' s7' s8 s9 s10 s11:=rfl;have c8:dh (aD 4) (kV ns k c n ps (.nw (.lst ts)) (.ow (.lst (ls.map pD))) s6' s7' s8 s9 s10 s11)= .ok ts:=by simp
 obtain⟨ρ',e8,s8',s9',rfl⟩:=xf (a:=gnm 8) (u:=kF) (I:=λ ρ=>∃s8 s9,ρ=kV ns k c n ps (.nw (.lst ts)) (.ow (.lst (ls.map pD))) s6' s7' s8 s9 s10 s11) ts (kV ns k c n ps (.nw (.lst ts)) (.ow (.lst (ls.map pD))) s6' s7' s8 s9 s10 s11) ⟨_,_,rfl⟩ (by
  rintro d hd ρ ⟨s8,s9,rfl⟩;obtain⟨m',qs',rfl,a,b⟩:=hT.2 d hd;obtain⟨s9',e⟩:=aJq (ns:=ns) (k:=k) (c:=c) (n:=n) (ps:=ps) (s4:=.nw (.lst ts)) (s5:=.ow (.lst (ls.map pD))) (s6:=s6') (s7:=s7') (s9:=s9) (s10:=s10) (s11:=s11) a b;exact⟨_,e,_,_,rfl⟩)
 obtain⟨r,er,hr7⟩:=dW (c:=c) (k:=9001) (b:=7) (by decide) (by decide) (by decide) (by decide);have c9:kW (kV ns k c n ps (.nw (.lst ts)) (.ow (.lst (ls.map pD))) s6' s7' s8' s9' s10 s11)= .nx (kV ns k c n ps (.nw (.lst ts)) (.ow (.lst (ls.map pD))) s6' s7' s8' s9' (.sh (.int (3+(r:Int)))) s11):=by simp[kW,er]
 refine⟨.sh (.int c),.sh (owD n ps),.nw (.lst ts),.ow (.lst (ls.map pD)),s6',s7',s8',s9',.sh (.int (3+(r:Int))),.sh (aGz r),?_⟩;rw[kK,aW,c2,bL,aW,c3,bL,aW,c4,bL,aW,c5,bL,aW,gH,c6,dH,e6,bL,aW,e7,bL,aG8,c7,aW,gH,c8,dH,e8,bL,aW,c9,bL];exact aFY _ _ _ _ _ _ _ _ _ _ _ r (by lia)
theorem aEE(ns:List Int)(hn:ns.length<=63):aEw [.scr ns]= .ok (.bl true):=by
 have st:bG 12 [.scr ns]=[.sh (.scr ns),.no,.no,.no,.no,.no,.no,.no,.no,.no,.no,.no]:=rfl;obtain⟨m,hm,hr⟩:∃m:Int,(0<=m/\m<=8)/\kR [.sh (.scr ns),.no,.no,.no,.no,.no,.no,.no,.no,.no,.no,.no]= .ok (bB 0 m):=by
  refine⟨if (if (8:Int)<(ns.length:Int)then 8 else(ns.length:Int))>1 then(if (8:Int)<(ns.length:Int)then 8 else(ns.length:Int))else 1,by split<;>split<;>lia,?_⟩;have e:=jC (j:=if (if (8:Int)<(ns.length:Int)then 8 else(ns.length:Int))>1 then(if (8:Int)<(ns.length:Int)then 8 else(ns.length:Int))else 1) (by split<;>split<;>lia) (by split<;>split<;>lia);simp only[gt_iff_lt]at e;simp[kR,e]
 obtain⟨ρ',e,s1,s2,s3,s4,s5,s6,s7,s8,s9,s10,s11,rfl⟩:=xf (a:=gnm 1) (u:=kK) (I:=λ ρ=>∃s1 s2 s3 s4 s5 s6 s7 s8 s9 s10 s11,ρ=[.sh (.scr ns),s1,s2,s3,s4,s5,s6,s7,s8,s9,s10,s11]) (bB 0 m) [.sh (.scr ns),.no,.no,.no,.no,.no,.no,.no,.no,.no,.no,.no] ⟨_,_,_,_,_,_,_,_,_,_,_,rfl⟩ (by
  rintro d hd ρ ⟨s1,s2,s3,s4,s5,s6,s7,s8,s9,s10,s11,rfl⟩;obtain⟨k,rfl,k0,k1⟩:=yw.mp hd;obtain⟨s2',s3',s4',s5',s6',s7',s8',s9',s10',s11',e⟩:=aJp (ns:=ns) (k:=k) (s2:=s2) (s3:=s3) (s4:=s4) (s5:=s5) (s6:=s6) (s7:=s7) (s8:=s8) (s9:=s9) (s10:=s10) (s11:=s11) k0;exact⟨_,e,_,_,_,_,_,_,_,_,_,_,_,rfl⟩)
 simp only[aEw,aGI,cI,st];rw[aW,gH,hr,dH,e,bL];simp[aFx]
end
local macro_rules|`(tactic|walk_at "sc")=>`(tactic|exact⟨rfl,rfl,rfl,by decide+kernel,rfl,by decide+kernel,by decide+kernel⟩)
def top(i:Nat):Stmt:=PySem.Challenge.pw_fewways_k31_forests_known.main.body.getD i (.Pass ⟨0,0,0,0⟩)
abbrev nF:Stmt:=top 16
abbrev pJ:Stmt:=top 17
abbrev nG:Stmt:=top 18
abbrev pI:Stmt:=top 19
abbrev lK:Stmt:=top 20
abbrev dY:Stmt:=top 21
abbrev nH:Stmt:=top 22
abbrev sO:Stmt:=top 23
abbrev lM:Stmt:=top 24
abbrev nJ:Stmt:=top 25
abbrev lG:Stmt:=top 26
abbrev jM:Stmt:=top 27
abbrev wR:Stmt:=top 28
abbrev lL:Stmt:=top 30
abbrev jO:Stmt:=top 32
abbrev nD:Stmt:=top 33
abbrev pH:Stmt:=top 34
abbrev lH:Stmt:=top 35
abbrev jm:Stmt:=top 36
abbrev lJ:Stmt:=top 37
abbrev jN:Stmt:=top 38
abbrev qK:Stmt:=top 39
theorem yX:ak ["thing"] ["thing"] (aG nF):=by walk_at "sc"
theorem aAK:ak ["thing"] ["thing"] (aG pJ):=by walk_at "sc"
theorem yZ:ak ["many","thing"] ["many","thing"] (aG nG):=by walk_at "sc"
theorem aAJ:ak ["many","thing"] ["many","thing"] (aG pI):=by walk_at "sc"
theorem wN:ak ["things","at"] ["things"] (aG lK):=by walk_at "sc"
theorem mK:ak ["many","thing","pair"] ["many","thing"] (aG dY):=by walk_at "sc"
theorem yc:ak ["many","thing"] ["many","thing"] (aG nH):=by walk_at "sc"
theorem aCE:ak ["thing"] ["thing"] (aG sO):=by walk_at "sc"
theorem wQ:ak ["thing"] ["thing"] (aG lM):=by walk_at "sc"
theorem yd:ak ["web","many","ties","near","low","high"] ["web"] (aG nJ):=by walk_at "sc"
theorem wK:ak ["near","start","part","at","place","other"] ["near","start"] (aG lG):=by walk_at "sc"
theorem sH:ak ["near","places","found","seen","place","part","other"] ["near","places"] (aG jM):=by walk_at "sc"
theorem aDM:ak ["web"] ["web"] (aG wR):=by walk_at "sc"
theorem wO:ak ["web"] ["web"] (aG lL):=by walk_at "sc"
theorem sJ:ak ["_law_script","_law_k"] ["_law_script","_law_k"] (aG jO):=by walk_at "sc"
theorem yW:ak ["_law_cell","_law_k","_law_bound","_law_left","_law_j","_law_stir"] ["_law_cell","_law_k","_law_bound"] (aG nD):=by walk_at "sc"
theorem aAI:ak ["_law_cell","_law_most","_law_many","_law_thick","_law_ties","_law_one","_law_other"] ["_law_cell","_law_most"] (aG pH):=by walk_at "sc"
theorem wL:ak ["_law_web_here","_law_least","_law_turn","_law_one","_law_other"] ["_law_web_here"] (aG lH):=by walk_at "sc"
theorem uc:ak ["_law_cell","_law_most","_law_many","_law_kind","_law_order","_law_ties","_law_place","_law_over"] ["_law_cell","_law_most"] (aG jm):=by walk_at "sc"
theorem wM:ak ["_law_error","_law_kinds","_law_words"] ["_law_error"] (aG lJ):=by walk_at "sc"
theorem sI:ak ["_law_call","_law_word","_law_error"] ["_law_call"] (aG jN):=by walk_at "sc"
theorem aHj:ak ["_law_script","_law_k","_law_cell","_law_forest_here","_law_things","_law_left","_law_other","_law_more","_law_web_here","_law_found","_law_wide","_law_ring"] ["_law_script"] (aG qK):=by walk_at "sc"
set_option genInjectivity false in
set_option genSizeOf false in
structure Adr where
 uF:Addr
 fX:FuncData
 vX:Addr
 iB:FuncData
 uG:Addr
 fY:FuncData
 vW:Addr
 gr:FuncData
 qT:Addr
 dB:FuncData
 iV:Addr
 az:FuncData
 uH:Addr
 fZ:FuncData
 zV:Addr
 j8:FuncData
 qW:Addr
 eF:FuncData
 uI:Addr
 fj:FuncData
 qP:Addr
 du:FuncData
 mZ:Addr
 cR:FuncData
 aBk:Addr
 mG:FuncData
 qU:Addr
 eE:FuncData
 m7:Addr
 cG:FuncData
 uE:Addr
 cz:FuncData
 vV:Addr
 gq:FuncData
 qQ:Addr
 dw:FuncData
 oN:Addr
 dF:FuncData
 qR:Addr
 qb:FuncData
 m6:Addr
 mj:FuncData
 aBl:Addr
 v9:FuncData
 mR:Value
 gC:Addr
 jy:Addr
 gA:Addr
 jz:Addr
 dC:Addr
 fu:Addr
 dj:Addr
 ig:Addr
 di:Addr
 gB:Addr
 ie:Addr
 ik:Addr
 kE:Addr
def wdA(t:Adr):Addr->Option Str:=λ C=>(([t.jy,t.gA,t.jz,t.dC,t.fu,t.dj,t.ig,t.di,t.gB,t.ie,t.ik,t.kE]:List Addr).zip (["web","place","way","parting","many","forest","plan","one way","order","text","deed","row"]:List Str)).lookup C
structure Txt(K:PySem.W.Frag)(mg:Str->Option Value)(t:Adr):Prop where
 nQ:Dnr K mg "is_whole" nF ["thing"] t.uF t.fX
 v5:Dnr K mg "is_many" pJ ["thing"] t.vX t.iB
 nR:Dnr K mg "is_place" nG ["many","thing"] t.uG t.fY
 v4:Dnr K mg "is_pair" pI ["many","thing"] t.vW t.gr
 qZ:Dnr K mg "is_rising" lK ["things"] t.qT t.dB
 iZ:Dnr K mg "are_rising_pairs" dY ["many","thing"] t.iV t.az
 uM:Dnr K mg "are_ties" nH ["many","thing"] t.uH t.fZ
 zX:Dnr K mg "is_web" sO ["thing"] t.zV t.j8
 q9:Dnr K mg "check_web" lM ["thing"] t.qW t.eF
 uN:Dnr K mg "all_tied" nJ ["web"] t.uI t.fj
 qX:Dnr K mg "part_with" lG ["near","start"] t.qP t.du
 m8:Dnr K mg "parts_among" jM ["near","places"] t.mZ t.cR
 aBm:Dnr K mg "parts" wR ["web"] t.aBk t.mG
 dq:Dnr K mg "is_forest" lL ["web"] t.qU t.eE
 m9:Dnr K mg "_law_cell_at" jO ["_law_script","_law_k"] t.m7 t.cG
 bR:Dnr K mg "_law_draw" nD ["_law_cell","_law_k","_law_bound"] t.uE t.cz
 vZ:Dnr K mg "_law_web" pH ["_law_cell","_law_most"] t.vV t.gq
 qY:Dnr K mg "_law_parts" lH ["_law_web_here"] t.qQ t.dw
 oO:Dnr K mg "_law_forest" jm ["_law_cell","_law_most"] t.oN t.dF
 jH:Dnr K mg "_law_class" lJ ["_law_error"] t.qR t.qb
 gJ:Dnr K mg "_law_refused" jN ["_law_call"] t.m6 t.mj
 aHT:Dnr K mg "law" qK ["_law_script"] t.aBl t.v9
 gG:mg "MOST_PLACES"=some t.mR
 ue:RelV (.int 60) t.mR
 tQ:mg "FewError"=some (.ref t.gC)
 l_FewError:aq mg "FewError"=t.gC
 iD:gR K t.gC
 aBa:mg "NoWeb"=some (.ref t.jy)
 aBb:aq mg "NoWeb"=t.jy
 nW:gR K t.jy
 aCU:mg "NoPlace"=some (.ref t.gA)
 aC1:aq mg "NoPlace"=t.gA
 lX:gR K t.gA
 aGB:mg "NoWay"=some (.ref t.jz)
 aGJ:aq mg "NoWay"=t.jz
 qx:gR K t.jz
 yx:mg "NoParting"=some (.ref t.dC)
 zM:aq mg "NoParting"=t.dC
 iy:gR K t.dC
 aCT:mg "TooMany"=some (.ref t.fu)
 aC0:aq mg "TooMany"=t.fu
 lW:gR K t.fu
 aAb:mg "NoForest"=some (.ref t.dj)
 aAm:aq mg "NoForest"=t.dj
 jg:gR K t.dj
 aDz:mg "NoPlan"=some (.ref t.ig)
 aEJ:aq mg "NoPlan"=t.ig
 nZ:gR K t.ig
 aAa:mg "NoOneWay"=some (.ref t.di)
 aAl:aq mg "NoOneWay"=t.di
 jf:gR K t.di
 aCV:mg "NoOrder"=some (.ref t.gB)
 aC2:aq mg "NoOrder"=t.gB
 lY:gR K t.gB
 aDy:mg "NoText"=some (.ref t.ie)
 aEI:aq mg "NoText"=t.ie
 nY:gR K t.ie
 aEA:mg "NoDeed"=some (.ref t.ik)
 aEK:aq mg "NoDeed"=t.ik
 n6:gR K t.ik
 aGC:mg "NoRow"=some (.ref t.kE)
 aGK:aq mg "NoRow"=t.kE
 qy:gR K t.kE
 xM:mg "ValueError"=none
 aJj:mg "all"=none
 aDw:mg "bool"=none
 aJi:mg "int"=none
 aX:mg "isinstance"=none
 lN:mg "len"=none
 aDv:mg "list"=none
 aHN:mg "max"=none
 aDu:mg "min"=none
 cL:mg "range"=none
 aHM:mg "set"=none
 jY:mg "sorted"=none
 gj:mg "tuple"=none
 cb:aBB K t.gC [t.jy,t.gA,t.jz,t.dC,t.fu,t.dj,t.ig,t.di,t.gB,t.ie,t.ik,t.kE]=true
open PySem.Spec PyProof.Rows
section
variable{P:Program}{w:World}{K:PySem.W.Frag}{mg:Str->Option Value}{base:Heap}{t:Adr}
theorem qL(T:Txt K mg t):cg P w K mg base (CX1 P w) 1 t.uF t.fX ["thing"] (spF K (aq mg) 1 iu):=
 bf (k:=0) (f:=fX) T.nQ yX λ n _ _ _ _ _ _ _=>
  (aN (bK (nC (pG (aB 0) T.aX T.aJi) (pB (aHg (pG (aB 0) T.aX T.aDw))))))
theorem xG(T:Txt K mg t):cg P w K mg base (CX1 P w) 1 t.qT t.dB ["things"] (spF K (aq mg) 1 eU):=
 bf (k:=0) (f:=dB) T.qZ wN λ n _ _ _ _ _ _ _=>
  (aK (dX (wF (aC aJ (aC (iI T.lN (aC (aB 0) aH)) aH)) T.cL) (bV (ks:=[1]))
   (aN (fQ (mz (aBO (aO (aB 0) (sE (aB 1) aJ)) (aO (aB 0) (aB 1))))
    (aN (bK kY))
    bw)))
  (aN (bK kY)))
theorem yr(T:Txt K mg t):cg P w K mg base (CX1 P w) 1 t.uI t.fj ["web"] (spF K (aq mg) 1 gD):=
 bf (k:=0) (f:=fj) T.uN yd λ n _ _ _ _ _ _ _=>
  (aK (aH9 (aB 0) (wG (n:=2) (gK (bV (ks:=[1,2])) (gK (bV (ks:=[1,2])) rA))))
  (aK (aJU (N:=["place"]) (js:=[none]) (ks:=[0]) (gF (aC (aB 1) aH) T.cL) fB)
  (aK (dX (jL (aB 2)) (wG (n:=2) (gK (bV (ks:=[4,5])) (gK (bV (ks:=[4,5])) rA)))
   (aK (rY 3 (aB 4) (bY (aB 5)))
   (aN (rY 3 (aB 5) (bY (aB 4))))))
  (aN (bK (wH 3))))))
theorem wy(T:Txt K mg t):cg P w K mg base (CX1 P w) 1 t.qP t.du ["near","start"] (spF K (aq mg) 2 eQ):=
 bf (k:=0) (f:=du) T.qX wK λ n _ _ _ _ _ _ _=>
  (aK (iz (i:=2) (qI (pA (aC (bY (aB 1)) aH))))
  (aK (cJ (i:=3) (ji aJ))
  (aK (aCz (aBO (aB 3) (iI T.lN (aC (gW 2) aH)))
   (aK (ni (i:=4) (ji (bY (aO (gW 2) (aB 3)))))
   (aK (dX (jL (aO (aB 0) (jB 4))) (bV (ks:=[5]))
    (aN (fQ (aCw (aB 5) (gW 2))
     (aN (jT 2 (bY (aB 5))))
     bw)))
   (aN (aH8 (i:=3) aJ (λ _=>aIj))))))
  (aN (bK (jW T.gj (aC (lZ T.jY (aC (gW 2) aH)) aH)))))))
theorem tE(T:Txt K mg t):cg P w K mg base (CX1 P w) 1 t.m7 t.cG ["_law_script","_law_k"] (spF K (aq mg) 2 cH):=
 bf (k:=0) (f:=cG) T.m9 sJ λ n _ _ _ _ _ _ _=>
  (aK (fQ (aBO (aB 1) (iI T.lN (aC (aB 0) aH)))
   (aN (bK (bY (aO (aB 0) (aB 1)))))
   bw)
  (aN (bK aJ)))
theorem bN(T:Txt K mg t):cg P w K mg base (CX1 P w) 1 t.uE t.cz ["_law_cell","_law_k","_law_bound"] (spF K (aq mg) 3 aL):=
 bf (k:=0) (f:=cz) T.bR yW λ n _ _ _ _ _ _ _=>
  (aK (fQ (aJT (aB 0) (aHf aJ aJ))
   (aK (cJ (i:=3) (ji (aB 0)))
   (aK (dX (gF (aC (aB 1) aH) T.cL) (bV (ks:=[4]))
    (aK (fQ (aCx (aB 3) aJ)
     (aN (bK aJ))
     bw)
    (aN (cJ (i:=3) (ji (rB (aB 3) (aB 2)))))))
   (aN (bK (pF (aB 3) (aB 2))))))
   bw)
  (aK (cJ (i:=5) (ji (pF (pC (bh (bh (pF (aB 0) aJ) (pC aJ (aB 1))) aJ) aJ) aJ)))
  (aK (cJ (i:=5) (ji (pF (bh (bh (pC (aB 5) (aB 5)) (pC aJ (aB 1))) aJ) aJ)))
  (aN (bK (pF (rB (pF (pC (aB 5) aJ) aJ) aJ) (aB 2)))))))
theorem wz(T:Txt K mg t):cg P w K mg base (CX1 P w) 1 t.qQ t.dw ["_law_web_here"] (spF K (aq mg) 1 gQ):=
 bf (k:=0) (f:=dw) T.qY wL λ n _ _ _ _ _ _ _=>
  (aK (iz (i:=1) (qI (aJW (sG T.aDv T.cL (aO (aB 0) aJ)))))
  (aK (dX (gF (aC (aO (aB 0) aJ) aH) T.cL) (bV (ks:=[2]))
   (aN (dX (jL (aO (aB 0) aJ)) (wG (n:=2) (gK (bV (ks:=[3,4])) (gK (bV (ks:=[3,4])) rA)))
    (aK (aBQ 1 (aB 3) (wI T.aDu (aC (aO (gW 1) (aB 3)) (aC (aO (gW 1) (aB 4)) aH))))
    (aN (aBQ 1 (aB 4) (bY (aO (gW 1) (aB 3)))))))))
  (aN (bK (vG (N:=["_law_low","_law_web_here","_law_least"]) (js:=[none,some 0,some 1]) (ks:=[0]) (jL (u9 T.jY T.aHM (aC (aB 1) aH))) fB ou (jW T.gj (aC (vG (N:=["_law_place","_law_least","_law_low"]) (js:=[none,some 2,some 0]) (ks:=[0]) (gF (aC (aO (aB 1) aJ) aH) T.cL) fB (aDH (aCx (aO (aB 1) (aB 0)) (aB 2))) (bY (aB 0))) aH)))))))
theorem xF(T:Txt K mg t):FnH P w K mg base 1 t.qR t.qb ["_law_error"] (spW (wdA t)):=
 aEk (c1:=.ref t.gC) (c2:=.ty "ValueError") (k1:=[.ref t.jy,.ref t.gA,.ref t.jz]) (k2:=[.ref t.dC,.ref t.fu,.ref t.dj]) (k3:=[.ref t.ig,.ref t.di,.ref t.gB]) (k4:=[.ref t.ie,.ref t.ik,.ref t.kE]) (l1:=["web","place","way","parting","many","forest","plan","one way"]) (l2:=["order","text","deed","row"]) T.jH.F wM rfl rfl rfl rfl (λ cdv A outer s H=>⟨(fG rfl rfl rfl T.aX (cW (v:=.ref t.gC) rfl T.tQ rfl)),(fG rfl rfl rfl T.aX (aB5 (v:=.ty "ValueError") (u:=.type "ValueError") rfl T.xM rfl rfl)),(aZ (fG rfl rfl rfl T.aX (cW (v:=.ref t.jy) rfl T.aBa rfl)) (aZ (fG rfl rfl rfl T.aX (cW (v:=.ref t.gA) rfl T.aCU rfl)) (aZ (fG rfl rfl rfl T.aX (cW (v:=.ref t.jz) rfl T.aGB rfl)) cF))),(aZ (fG rfl rfl rfl T.aX (cW (v:=.ref t.dC) rfl T.yx rfl)) (aZ (fG rfl rfl rfl T.aX (cW (v:=.ref t.fu) rfl T.aCT rfl)) (aZ (fG rfl rfl rfl T.aX (cW (v:=.ref t.dj) rfl T.aAb rfl)) cF))),(aZ (fG rfl rfl rfl T.aX (cW (v:=.ref t.ig) rfl T.aDz rfl)) (aZ (fG rfl rfl rfl T.aX (cW (v:=.ref t.di) rfl T.aAa rfl)) (aZ (fG rfl rfl rfl T.aX (cW (v:=.ref t.gB) rfl T.aCV rfl)) cF))),(aZ (fG rfl rfl rfl T.aX (cW (v:=.ref t.ie) rfl T.aDy rfl)) (aZ (fG rfl rfl rfl T.aX (cW (v:=.ref t.ik) rfl T.aEA rfl)) (aZ (fG rfl rfl rfl T.aX (cW (v:=.ref t.kE) rfl T.aGC rfl)) cF))),(aZ dI (aZ dI (aZ dI (aZ dI (aZ dI (aZ dI (aZ dI (aZ dI cF)))))))),(aZ dI (aZ dI (aZ dI (aZ dI cF))))⟩) rfl rfl (by decide) λ C w h=>(aGv T.cb h).1
theorem aA6(T:Txt K mg t):cg P w K mg base (CX1 P w) 2 t.vX t.iB ["thing"] (spF K (aq mg) 1 mJ):=
 bf (k:=1) (f:=iB) T.v5 aAK λ n _ _ _ _ _ _ _=>
  (aN (bK (nC (au (qL T) T.nQ (aC (aB 0) aH)) (pB (aFT aJ (aB 0) (aFU T.gG T.ue (λ _ _=>.int _)))))))
theorem qM(T:Txt K mg t):cg P w K mg base (CX1 P w) 2 t.uG t.fY ["many","thing"] (spF K (aq mg) 2 cO):=
 bf (k:=1) (f:=fY) T.nR yZ λ n _ _ _ _ _ _ _=>
  (aN (bK (nC (au (qL T) T.nQ (aC (aB 1) aH)) (pB (aFS aJ (aB 1) (aB 0))))))
theorem sy(T:Txt K mg t):cg P w K mg base (CX1 P w) 2 t.mZ t.cR ["near","places"] (spF K (aq mg) 2 cT):=
 bf (k:=1) (f:=cR) T.m8 sH λ n _ _ _ _ _ _ _=>
  (aK (iz (i:=2) (qI (pA aH)))
  (aK (iz (i:=3) (qI (aJW (aFR T.aHM))))
  (aK (dX (jL (aB 1)) (bV (ks:=[4]))
   (aN (fQ (aFG (aB 4) (gW 3))
    (aK (cJ (i:=5) (ji (au (wy T) T.qX (aC (aB 0) (aC (aB 4) aH)))))
    (aK (jT 2 (bY (aB 5)))
    (aN (dX (jL (aB 5)) (bV (ks:=[6]))
     (aN (aHa 3 (bY (aB 6))))))))
    bw)))
  (aN (bK (wH 2))))))
theorem aA4(T:Txt K mg t):cg P w K mg base (CX1 P w) 2 t.vV t.gq ["_law_cell","_law_most"] (spF K (aq mg) 2 iC):=
 bf (k:=1) (f:=gq) T.vZ aAI λ n _ _ _ _ _ _ _=>
  (aK (cJ (i:=2) (ji (au (bN T) T.bR (aC (aB 0) (aC aJ (aC (bh (aB 1) aJ) aH))))))
  (aK (cJ (i:=3) (ji (bh aJ (au (bN T) T.bR (aC (aB 0) (aC aJ (aC aJ aH)))))))
  (aK (iz (i:=4) (qI (pA aH)))
  (aK (dX (gF (aC (aB 2) aH) T.cL) (bV (ks:=[5]))
   (aN (dX (wF (aC (bh (aB 5) aJ) (aC (aB 2) aH)) T.cL) (bV (ks:=[6]))
    (aN (fQ (aBO (au (bN T) T.bR (aC (aB 0) (aC (bh (bh aJ (pC aJ (aB 5))) (aB 6)) (aC aJ aH)))) (aB 3))
     (aN (jT 4 (cu (aC (bY (aB 5)) (aC (bY (aB 6)) aH)))))
     bw)))))
  (aN (bK (cu (aC (bY (aB 2)) (aC (jW T.gj (aC (wH 4) aH)) aH)))))))))
theorem ug(T:Txt K mg t):cg P w K mg base (CX1 P w) 2 t.oN t.dF ["_law_cell","_law_most"] (spF K (aq mg) 2 cN):=
 bf (k:=1) (f:=dF) T.oO uc λ n _ _ _ _ _ _ _=>
  (aK (cJ (i:=2) (ji (au (bN T) T.bR (aC (aB 0) (aC aJ (aC (bh (aB 1) aJ) aH))))))
  (aK (cJ (i:=3) (ji (au (bN T) T.bR (aC (aB 0) (aC aJ (aC aJ aH))))))
  (aK (ni (i:=4) (aJR (N:=["_law_row"]) (js:=[none]) (ks:=[0]) (jL (lZ T.jY (aC (vG (N:=["_law_place","_law_cell"]) (js:=[none,some 0]) (ks:=[0]) (gF (aC (aB 2) aH) T.cL) fB ou (cu (aC (au (bN T) T.bR (aC (aB 1) (aC (bh aJ (aB 0)) (aC aJ aH)))) (aC (bY (aB 0)) aH)))) aH))) fB ou (bY (aO (aB 0) aJ))))
  (aK (iz (i:=5) (qI (pA aH)))
  (aK (dX (wF (aC aJ (aC (aB 2) aH)) T.cL) (bV (ks:=[6]))
   (aK (ni (i:=7) (ji (aO (aAH (aC (sE (aB 6) aJ) (aC (rB (aB 6) aJ) (aC (rB (aB 6) aJ) (aC (au (bN T) T.bR (aC (aB 0) (aC (bh aJ (aB 6)) (aC (aB 6) aH)))) aH))))) (aB 3))))
   (aK (fQ (aCx (au (bN T) T.bR (aC (aB 0) (aC (bh aJ (aB 6)) (aC aJ aH)))) aJ)
    (aN (ni (i:=7) (ji (au (bN T) T.bR (aC (aB 0) (aC (bh aJ (aB 6)) (aC (aB 6) aH)))))))
    bw)
   (aN (fQ (aJS (au (bN T) T.bR (aC (aB 0) (aC (bh aJ (aB 6)) (aC aJ aH)))) aJ)
    (aN (jT 5 (cu (aC (wI T.aDu (aC (aO (jB 4) (jB 7)) (aC (aO (jB 4) (aB 6)) aH))) (aC (aBX T.aHN (aC (aO (jB 4) (jB 7)) (aC (aO (jB 4) (aB 6)) aH))) aH)))))
    bw)))))
  (aN (bK (cu (aC (bY (aB 2)) (aC (jW T.gj (aC (lZ T.jY (aC (gW 5) aH)) aH)) aH))))))))))
theorem aA5(T:Txt K mg t):cg P w K mg base (CX1 P w) 3 t.vW t.gr ["many","thing"] (spF K (aq mg) 2 jd):=
 bf (k:=2) (f:=gr) T.v4 aAJ λ n _ _ _ _ _ _ _=>
  (aK (fQ (SW.st (aBM (mz (o7 (pG (aB 1) T.aX T.gj))) (vz (yP (iI T.lN (aC (aB 1) aH)) aJ))))
   (aN (bK kY))
   bw)
  (aN (bK (nC (au (qM T) T.nR (aC (aB 0) (aC (aO (aB 1) aJ) aH))) (nC (au (qM T) T.nR (aC (aB 0) (aC (aO (aB 1) aJ) aH))) (pB (aJX (aO (aB 1) aJ) (aO (aB 1) aJ))))))))
theorem mO(T:Txt K mg t):cg P w K mg base (CX1 P w) 4 t.iV t.az ["many","thing"] (spF K (aq mg) 2 bH):=
 bf (k:=3) (f:=az) T.iZ mK λ n _ _ _ _ _ _ _=>
  (aK (fQ (mz (o7 (pG (aB 1) T.aX T.gj)))
   (aN (bK kY))
   bw)
  (aK (dX (jL (aB 1)) (bV (ks:=[2]))
   (aN (fQ (mz (o7 (au (aA5 T) T.v4 (aC (aB 0) (aC (aB 2) aH)))))
    (aN (bK kY))
    bw)))
  (aN (bK (au (xG T) T.qZ (aC (aB 1) aH))))))
theorem yq(T:Txt K mg t):cg P w K mg base (CX1 P w) 5 t.uH t.fZ ["many","thing"] (spF K (aq mg) 2 kI):=
 bf (k:=4) (f:=fZ) T.uM yc λ n _ _ _ _ _ _ _=>
  (aN (bK (nC (au (mO T) T.iZ (aC (aB 0) (aC (aB 1) aH))) (pB (aHh T.aJj (aC (vG (N:=["low","high"]) (js:=[none,none]) (ks:=[0,1]) (jL (aB 1)) (wG (n:=2) (gK fB (gK fB rA))) ou (aJY (aB 0) (aB 1))) aH))))))
theorem aCO(T:Txt K mg t):cg P w K mg base (CX1 P w) 6 t.zV t.j8 ["thing"] (spF K (aq mg) 1 o6):=
 bf (k:=5) (f:=j8) T.zX aCE λ n _ _ _ _ _ _ _=>
  (aK (fQ (SW.st (aBM (mz (o7 (pG (aB 0) T.aX T.gj))) (vz (yP (iI T.lN (aC (aB 0) aH)) aJ))))
   (aN (bK kY))
   bw)
  (aN (bK (nC (au (aA6 T) T.v5 (aC (aO (aB 0) aJ) aH)) (pB (au (yq T) T.uM (aC (aO (aB 0) aJ) (aC (aO (aB 0) aJ) aH))))))))
theorem xH(T:Txt K mg t):cg P w K mg base (CX1 P w) 7 t.qW t.eF ["thing"] (spF K (aq mg) 1 eV):=
 bf (k:=6) (f:=eF) T.q9 wQ λ n _ _ _ _ _ _ _=>
  (aN (fQ (mz (o7 (au (aCO T) T.zX (aC (aB 0) aH))))
   (aN (aDA rfl T.aBa T.aBb T.nW (aC aDK aH)))
   bw))
theorem aDp(T:Txt K mg t):cg P w K mg base (CX1 P w) 8 t.aBk t.mG ["web"] (spF K (aq mg) 1 rK):=
 bf (k:=7) (f:=mG) T.aBm aDM λ n _ _ _ _ _ _ _=>
  (aK (aFI (au (xH T) T.q9 (aC (aB 0) aH)))
  (aN (bK (au (sy T) T.m8 (aC (au (yr T) T.uN (aC (aB 0) aH)) (aC (sG T.aDv T.cL (aO (aB 0) aJ)) aH))))))
theorem fH(T:Txt K mg t):cg P w K mg base (CX1 P w) 9 t.qU t.eE ["web"] (spF K (aq mg) 1 bC):=
 bf (k:=8) (f:=eE) T.dq wO λ n _ _ _ _ _ _ _=>
  (aN (bK (aGy (iI T.lN (aC (au (aDp T) T.aBm (aC (aB 0) aH)) aH)) (sE (aO (aB 0) aJ) (iI T.lN (aC (aO (aB 0) aJ) aH))))))
theorem tD(T:Txt K mg t):cg P w K mg base (CX1 P w) 11 t.m6 t.mj ["_law_call"] (spR P w K mg base 10 "told" (wdA t)):=
 aAP T.gJ.F sI rfl rfl rfl rfl rfl rfl T.tQ T.iD (xF T) T.jH.m T.jH.F.kp T.jH.b (by decide) λ C w h=>(aGv T.cb h).2
theorem aJH(T:Txt K mg t):∀c w,wdN c=some w->wdA t (aq mg c)=some w:=aJI (ns:=["NoWeb","NoPlace","NoWay","NoParting","TooMany","NoForest","NoPlan","NoOneWay","NoOrder","NoText","NoDeed","NoRow"]) T.cb (by simp only[List.map,T.aBb,T.aC1,T.aGJ,T.zM,T.aC0,T.aAm,T.aEJ,T.aAl,T.aC2,T.aEI,T.aEK,T.aGK])
theorem aJz(T:Txt K mg t){c Pt:Addr}{s:Shared}{H:Hp}(hr:dG 11 (callerA.deeper (envOfC "law" (aG qK) s.heap.objs.size t.aBl (.ref c))))(Lx:qi (cxW P w K mg base ["_law_script","_law_k","_law_cell","_law_forest_here","_law_things","_law_left","_law_other","_law_more","_law_web_here","_law_found","_law_wide","_law_ring"] "law" (aG qK) t.aBl (.ref c) callerA s H Pt) Pt)(n:List.Nodup (["_law_script","_law_k","_law_cell","_law_forest_here","_law_things","_law_left","_law_other","_law_more","_law_web_here","_law_found","_law_wide","_law_ring"]:List Str)):
  SSs (ctW P w K mg base ["_law_script","_law_k","_law_cell","_law_forest_here","_law_things","_law_left","_law_other","_law_more","_law_web_here","_law_found","_law_wide","_law_ring"] "law" (aG qK) t.aBl (.ref c) callerA s H Pt 11 hr) (cM qK) v9:=
  (aK (dX (gF (aC (aBX T.aHN (aC aJ (aC (wI T.aDu (aC (iI T.lN (aC (aB 0) aH)) (aC aJ aH))) aH))) aH) T.cL) (bV (ks:=[1]))
   (aK (cJ (i:=2) (ji (au (tE T) T.m9 (aC (aB 0) (aC (aB 1) aH)))))
   (aK (cJ (i:=3) (ji (au (ug T) T.oO (aC (aB 2) (aC aJ aH)))))
   (aK (iz (i:=4) (qI (pA (aC (bY (aB 3)) (aC (au (aA4 T) T.vZ (aC (bh (aB 2) aJ) (aC aJ aH))) (aC (cu (aC (bY (aO (aB 3) aJ)) (aC (bY (yU (aO (aB 3) aJ) (aBR aJ) aBS)) aH))) aH))))))
   (aK (iz (i:=5) (qI (pA aH)))
   (aK (dX (gF (aC (aO (aB 3) aJ) aH) T.cL) (bV (ks:=[6]))
    (aN (aBx 5 (vG (N:=["_law_one","_law_other","_law_forest_here"]) (js:=[none,some 6,some 3]) (ks:=[0]) (gF (aC (aB 6) aH) T.cL) fB (aDH (aCw (cu (aC (aB 0) (aC (aB 1) aH))) (aO (aB 2) aJ))) (cu (aC (bY (aB 0)) (aC (bY (aB 1)) aH)))))))
   (aK (fQ (yP (gW 5) (aAH aH))
    (aK (ni (i:=7) (ji (bY (aO (gW 5) (au (bN T) T.bR (aC (aB 2) (aC aJ (aC (iI T.lN (aC (gW 5) aH)) aH))))))))
    (aN (jT 4 (cu (aC (bY (aO (aB 3) aJ)) (aC (jW T.gj (aC (aAG T.jY (aC (bh (aO (aB 3) aJ) (cu (aC (jB 7) aH))) aH)) aH)) aH))))))
    bw)
   (aFH 4 (aK (dX (jL (aB 4)) (bV (ks:=[8]))
    (aK (cJ (i:=9) (ji (au (fH T) T.dq (aC (aB 8) aH))))
    (aN (fQ (SW.st (aBM (mz (o7 (pG (aB 9) T.aX T.aDw))) (vz (yP (aB 9) (aGy (bh (iI T.lN (aC (aO (aB 8) aJ) aH)) (iI T.lN (aC (au (wz T) T.qY (aC (aB 8) aH)) aH))) (aO (aB 8) aJ))))))
     (aN (bK kY))
     bw))))
   (aK (cJ (i:=10) (ji (bh aJ (au (bN T) T.bR (aC (aB 2) (aC aJ (aC aJ aH)))))))
   (aK (cJ (i:=11) (ji (jW T.gj (aC (lZ T.jY (aC (bh (vG (N:=["_law_place"]) (js:=[none]) (ks:=[0]) (gF (aC (sE (aB 10) aJ) aH) T.cL) fB ou (cu (aC (bY (aB 0)) (aC (bh (bY (aB 0)) aJ) aH)))) (aAH (aC (cu (aC aJ (aC (sE (aB 10) aJ) aH))) aH))) aH)) aH))))
   (aK (fQ (SW.st (aBM (aBP (au (fH T) T.dq (aC (cu (aC (bh (aB 10) aJ) (aC (aB 11) aH))) aH)) kY) (vz (aBP (au (fH T) T.dq (aC (cu (aC (bh (aB 10) aJ) (aC (yU (aB 11) (aBR aJ) aBS) aH))) aH)) kY))))
    (aN (bK kY))
    bw)
   (aN (fQ (yP (aHe (k:=11) (k0:=10) (kb:=9) (wn:=wdN) (wd:=wdA t) (λ _=>tD T) (Nat.le_of_ble_eq_true rfl) T.gJ.m T.gJ.F.kp T.gJ.b (λ _=>⟨⟨_,Lx⟩,rfl,rfl,rfl⟩) ⟨rfl,rfl,rfl,by decide+kernel,by decide+kernel⟩ rfl (aJH T) (by decide) (λ _ _ _ _ _ _ _ _ _ _=>(au (fH T) T.dq (aC (cu (aC (aB 10) (aC (aHd (aB 11)) aH))) aH))) (hfree:=λ _=>aEH (sc:=aG qK) (by decide+kernel))) aDK)
    (aN (bK kY))
    bw))))))))))))))
  (aN (bK (aJZ (au (fH T) T.dq (aC (cu (aC aJ (aC (cu aH) aH))) aH)) kY))))
end
theorem aHZ{K:PySem.W.Frag}{h:Heap}{mg:Str->Option Value}{tk_MOST_PLACES:Tok}{q_FewError:Addr}{q_NoWeb:Addr}{q_NoPlace:Addr}{q_NoWay:Addr}{q_NoParting:Addr}{q_TooMany:Addr}{q_NoForest:Addr}{q_NoPlan:Addr}{q_NoOneWay:Addr}{q_NoOrder:Addr}{q_NoText:Addr}{q_NoDeed:Addr}{q_NoRow:Addr}(X:K.In h)(G:h.Ns mainGlobals mg)
  (h0:∃f d,Enr K "is_whole" nF f d)
  (h1:∃f d,Enr K "is_many" pJ f d)
  (h2:∃f d,Enr K "is_place" nG f d)
  (h3:∃f d,Enr K "is_pair" pI f d)
  (h4:∃f d,Enr K "is_rising" lK f d)
  (h5:∃f d,Enr K "are_rising_pairs" dY f d)
  (h6:∃f d,Enr K "are_ties" nH f d)
  (h7:∃f d,Enr K "is_web" sO f d)
  (h8:∃f d,Enr K "check_web" lM f d)
  (h9:∃f d,Enr K "all_tied" nJ f d)
  (h10:∃f d,Enr K "part_with" lG f d)
  (h11:∃f d,Enr K "parts_among" jM f d)
  (h12:∃f d,Enr K "parts" wR f d)
  (h13:∃f d,Enr K "is_forest" lL f d)
  (h14:∃f d,Enr K "_law_cell_at" jO f d)
  (h15:∃f d,Enr K "_law_draw" nD f d)
  (h16:∃f d,Enr K "_law_web" pH f d)
  (h17:∃f d,Enr K "_law_parts" lH f d)
  (h18:∃f d,Enr K "_law_forest" jm f d)
  (h19:∃f d,Enr K "_law_class" lJ f d)
  (h20:∃f d,Enr K "_law_refused" jN f d)
  (h21:∃f d,Enr K "law" qK f d)
  (gG:PySem.W.nsIn K mainGlobals "MOST_PLACES"=some (some (.int 60 tk_MOST_PLACES)))
  (y_FewError:PySem.W.nsIn K mainGlobals "FewError"=some (some (.ref q_FewError)))
  (iD:PySem.W.excIn K q_FewError [.type "ValueError",.type "Exception",.type "BaseException",.type "object"] "ValueError.__new__"=true)
  (y_NoWeb:PySem.W.nsIn K mainGlobals "NoWeb"=some (some (.ref q_NoWeb)))
  (nW:PySem.W.excIn K q_NoWeb [.type "ValueError",.type "Exception",.type "BaseException",.type "object"] "ValueError.__new__"=true)
  (y_NoPlace:PySem.W.nsIn K mainGlobals "NoPlace"=some (some (.ref q_NoPlace)))
  (lX:PySem.W.excIn K q_NoPlace [.type "ValueError",.type "Exception",.type "BaseException",.type "object"] "ValueError.__new__"=true)
  (y_NoWay:PySem.W.nsIn K mainGlobals "NoWay"=some (some (.ref q_NoWay)))
  (qx:PySem.W.excIn K q_NoWay [.type "ValueError",.type "Exception",.type "BaseException",.type "object"] "ValueError.__new__"=true)
  (y_NoParting:PySem.W.nsIn K mainGlobals "NoParting"=some (some (.ref q_NoParting)))
  (iy:PySem.W.excIn K q_NoParting [.type "ValueError",.type "Exception",.type "BaseException",.type "object"] "ValueError.__new__"=true)
  (y_TooMany:PySem.W.nsIn K mainGlobals "TooMany"=some (some (.ref q_TooMany)))
  (lW:PySem.W.excIn K q_TooMany [.type "ValueError",.type "Exception",.type "BaseException",.type "object"] "ValueError.__new__"=true)
  (y_NoForest:PySem.W.nsIn K mainGlobals "NoForest"=some (some (.ref q_NoForest)))
  (jg:PySem.W.excIn K q_NoForest [.type "ValueError",.type "Exception",.type "BaseException",.type "object"] "ValueError.__new__"=true)
  (y_NoPlan:PySem.W.nsIn K mainGlobals "NoPlan"=some (some (.ref q_NoPlan)))
  (nZ:PySem.W.excIn K q_NoPlan [.type "ValueError",.type "Exception",.type "BaseException",.type "object"] "ValueError.__new__"=true)
  (y_NoOneWay:PySem.W.nsIn K mainGlobals "NoOneWay"=some (some (.ref q_NoOneWay)))
  (jf:PySem.W.excIn K q_NoOneWay [.type "ValueError",.type "Exception",.type "BaseException",.type "object"] "ValueError.__new__"=true)
  (y_NoOrder:PySem.W.nsIn K mainGlobals "NoOrder"=some (some (.ref q_NoOrder)))
  (lY:PySem.W.excIn K q_NoOrder [.type "ValueError",.type "Exception",.type "BaseException",.type "object"] "ValueError.__new__"=true)
  (y_NoText:PySem.W.nsIn K mainGlobals "NoText"=some (some (.ref q_NoText)))
  (nY:PySem.W.excIn K q_NoText [.type "ValueError",.type "Exception",.type "BaseException",.type "object"] "ValueError.__new__"=true)
  (y_NoDeed:PySem.W.nsIn K mainGlobals "NoDeed"=some (some (.ref q_NoDeed)))
  (n6:PySem.W.excIn K q_NoDeed [.type "ValueError",.type "Exception",.type "BaseException",.type "object"] "ValueError.__new__"=true)
  (y_NoRow:PySem.W.nsIn K mainGlobals "NoRow"=some (some (.ref q_NoRow)))
  (qy:PySem.W.excIn K q_NoRow [.type "ValueError",.type "Exception",.type "BaseException",.type "object"] "ValueError.__new__"=true)
  (cb:L2.aBB K q_FewError [q_NoWeb,q_NoPlace,q_NoWay,q_NoParting,q_TooMany,q_NoForest,q_NoPlan,q_NoOneWay,q_NoOrder,q_NoText,q_NoDeed,q_NoRow]=true)
  (z_ValueError:PySem.W.nsIn K mainGlobals "ValueError"=some none)
  (z_all:PySem.W.nsIn K mainGlobals "all"=some none)
  (z_bool:PySem.W.nsIn K mainGlobals "bool"=some none)
  (z_int:PySem.W.nsIn K mainGlobals "int"=some none)
  (z_isinstance:PySem.W.nsIn K mainGlobals "isinstance"=some none)
  (z_len:PySem.W.nsIn K mainGlobals "len"=some none)
  (z_list:PySem.W.nsIn K mainGlobals "list"=some none)
  (z_max:PySem.W.nsIn K mainGlobals "max"=some none)
  (z_min:PySem.W.nsIn K mainGlobals "min"=some none)
  (z_range:PySem.W.nsIn K mainGlobals "range"=some none)
  (z_set:PySem.W.nsIn K mainGlobals "set"=some none)
  (z_sorted:PySem.W.nsIn K mainGlobals "sorted"=some none)
  (z_tuple:PySem.W.nsIn K mainGlobals "tuple"=some none):
  ∃t,Txt K mg t:=by
 obtain⟨f0,d0,F0,a0⟩:=h0;have B0:=F0.binds (ps:=["thing"]) λ _ _ _ _ _ _ us hl=>by obtain⟨_,rfl⟩:=qp hl;rfl
 obtain⟨f1,d1,F1,a1⟩:=h1;have B1:=F1.binds (ps:=["thing"]) λ _ _ _ _ _ _ us hl=>by obtain⟨_,rfl⟩:=qp hl;rfl
 obtain⟨f2,d2,F2,a2⟩:=h2;have B2:=F2.binds (ps:=["many","thing"]) λ _ _ _ _ _ _ us hl=>by obtain⟨_,_,rfl⟩:=xR hl;rfl
 obtain⟨f3,d3,F3,a3⟩:=h3;have B3:=F3.binds (ps:=["many","thing"]) λ _ _ _ _ _ _ us hl=>by obtain⟨_,_,rfl⟩:=xR hl;rfl
 obtain⟨f4,d4,F4,a4⟩:=h4;have B4:=F4.binds (ps:=["things"]) λ _ _ _ _ _ _ us hl=>by obtain⟨_,rfl⟩:=qp hl;rfl
 obtain⟨f5,d5,F5,a5⟩:=h5;have B5:=F5.binds (ps:=["many","thing"]) λ _ _ _ _ _ _ us hl=>by obtain⟨_,_,rfl⟩:=xR hl;rfl
 obtain⟨f6,d6,F6,a6⟩:=h6;have B6:=F6.binds (ps:=["many","thing"]) λ _ _ _ _ _ _ us hl=>by obtain⟨_,_,rfl⟩:=xR hl;rfl
 obtain⟨f7,d7,F7,a7⟩:=h7;have B7:=F7.binds (ps:=["thing"]) λ _ _ _ _ _ _ us hl=>by obtain⟨_,rfl⟩:=qp hl;rfl
 obtain⟨f8,d8,F8,a8⟩:=h8;have B8:=F8.binds (ps:=["thing"]) λ _ _ _ _ _ _ us hl=>by obtain⟨_,rfl⟩:=qp hl;rfl
 obtain⟨f9,d9,F9,a9⟩:=h9;have B9:=F9.binds (ps:=["web"]) λ _ _ _ _ _ _ us hl=>by obtain⟨_,rfl⟩:=qp hl;rfl
 obtain⟨f10,d10,F10,a10⟩:=h10;have B10:=F10.binds (ps:=["near","start"]) λ _ _ _ _ _ _ us hl=>by obtain⟨_,_,rfl⟩:=xR hl;rfl
 obtain⟨f11,d11,F11,a11⟩:=h11;have B11:=F11.binds (ps:=["near","places"]) λ _ _ _ _ _ _ us hl=>by obtain⟨_,_,rfl⟩:=xR hl;rfl
 obtain⟨f12,d12,F12,a12⟩:=h12;have B12:=F12.binds (ps:=["web"]) λ _ _ _ _ _ _ us hl=>by obtain⟨_,rfl⟩:=qp hl;rfl
 obtain⟨f13,d13,F13,a13⟩:=h13;have B13:=F13.binds (ps:=["web"]) λ _ _ _ _ _ _ us hl=>by obtain⟨_,rfl⟩:=qp hl;rfl
 obtain⟨f14,d14,F14,a14⟩:=h14;have B14:=F14.binds (ps:=["_law_script","_law_k"]) λ _ _ _ _ _ _ us hl=>by obtain⟨_,_,rfl⟩:=xR hl;rfl
 obtain⟨f15,d15,F15,a15⟩:=h15;have B15:=F15.binds (ps:=["_law_cell","_law_k","_law_bound"]) λ _ _ _ _ _ _ us hl=>by obtain⟨_,_,_,rfl⟩:=aKX hl;rfl
 obtain⟨f16,d16,F16,a16⟩:=h16;have B16:=F16.binds (ps:=["_law_cell","_law_most"]) λ _ _ _ _ _ _ us hl=>by obtain⟨_,_,rfl⟩:=xR hl;rfl
 obtain⟨f17,d17,F17,a17⟩:=h17;have B17:=F17.binds (ps:=["_law_web_here"]) λ _ _ _ _ _ _ us hl=>by obtain⟨_,rfl⟩:=qp hl;rfl
 obtain⟨f18,d18,F18,a18⟩:=h18;have B18:=F18.binds (ps:=["_law_cell","_law_most"]) λ _ _ _ _ _ _ us hl=>by obtain⟨_,_,rfl⟩:=xR hl;rfl
 obtain⟨f19,d19,F19,a19⟩:=h19;have B19:=F19.binds (ps:=["_law_error"]) λ _ _ _ _ _ _ us hl=>by obtain⟨_,rfl⟩:=qp hl;rfl
 obtain⟨f20,d20,F20,a20⟩:=h20;have B20:=F20.binds (ps:=["_law_call"]) λ _ _ _ _ _ _ us hl=>by obtain⟨_,rfl⟩:=qp hl;rfl
 obtain⟨f21,d21,F21,a21⟩:=h21;have B21:=F21.binds (ps:=["_law_script"]) λ _ _ _ _ _ _ us hl=>by obtain⟨_,rfl⟩:=qp hl;rfl
 exact⟨⟨f0,_,f1,_,f2,_,f3,_,f4,_,f5,_,f6,_,f7,_,f8,_,f9,_,f10,_,f11,_,f12,_,f13,_,f14,_,f15,_,f16,_,f17,_,f18,_,f19,_,f20,_,f21,_,_,q_FewError,q_NoWeb,q_NoPlace,q_NoWay,q_NoParting,q_TooMany,q_NoForest,q_NoPlan,q_NoOneWay,q_NoOrder,q_NoText,q_NoDeed,q_NoRow⟩,⟨⟨F0,PySem.W.mg_of X G a0,B0⟩,⟨F1,PySem.W.mg_of X G a1,B1⟩,⟨F2,PySem.W.mg_of X G a2,B2⟩,⟨F3,PySem.W.mg_of X G a3,B3⟩,⟨F4,PySem.W.mg_of X G a4,B4⟩,⟨F5,PySem.W.mg_of X G a5,B5⟩,⟨F6,PySem.W.mg_of X G a6,B6⟩,⟨F7,PySem.W.mg_of X G a7,B7⟩,⟨F8,PySem.W.mg_of X G a8,B8⟩,⟨F9,PySem.W.mg_of X G a9,B9⟩,⟨F10,PySem.W.mg_of X G a10,B10⟩,⟨F11,PySem.W.mg_of X G a11,B11⟩,⟨F12,PySem.W.mg_of X G a12,B12⟩,⟨F13,PySem.W.mg_of X G a13,B13⟩,⟨F14,PySem.W.mg_of X G a14,B14⟩,⟨F15,PySem.W.mg_of X G a15,B15⟩,⟨F16,PySem.W.mg_of X G a16,B16⟩,⟨F17,PySem.W.mg_of X G a17,B17⟩,⟨F18,PySem.W.mg_of X G a18,B18⟩,⟨F19,PySem.W.mg_of X G a19,B19⟩,⟨F20,PySem.W.mg_of X G a20,B20⟩,⟨F21,PySem.W.mg_of X G a21,B21⟩,PySem.W.mg_of X G gG,⟨_,rfl⟩,PySem.W.mg_of X G y_FewError,(by unfold aq;rw[PySem.W.mg_of X G y_FewError]),iD,PySem.W.mg_of X G y_NoWeb,(by unfold aq;rw[PySem.W.mg_of X G y_NoWeb]),nW,PySem.W.mg_of X G y_NoPlace,(by unfold aq;rw[PySem.W.mg_of X G y_NoPlace]),lX,PySem.W.mg_of X G y_NoWay,(by unfold aq;rw[PySem.W.mg_of X G y_NoWay]),qx,PySem.W.mg_of X G y_NoParting,(by unfold aq;rw[PySem.W.mg_of X G y_NoParting]),iy,PySem.W.mg_of X G y_TooMany,(by unfold aq;rw[PySem.W.mg_of X G y_TooMany]),lW,PySem.W.mg_of X G y_NoForest,(by unfold aq;rw[PySem.W.mg_of X G y_NoForest]),jg,PySem.W.mg_of X G y_NoPlan,(by unfold aq;rw[PySem.W.mg_of X G y_NoPlan]),nZ,PySem.W.mg_of X G y_NoOneWay,(by unfold aq;rw[PySem.W.mg_of X G y_NoOneWay]),jf,PySem.W.mg_of X G y_NoOrder,(by unfold aq;rw[PySem.W.mg_of X G y_NoOrder]),lY,PySem.W.mg_of X G y_NoText,(by unfold aq;rw[PySem.W.mg_of X G y_NoText]),nY,PySem.W.mg_of X G y_NoDeed,(by unfold aq;rw[PySem.W.mg_of X G y_NoDeed]),n6,PySem.W.mg_of X G y_NoRow,(by unfold aq;rw[PySem.W.mg_of X G y_NoRow]),qy,PySem.W.mg_none_of X G z_ValueError,PySem.W.mg_none_of X G z_all,PySem.W.mg_none_of X G z_bool,PySem.W.mg_none_of X G z_int,PySem.W.mg_none_of X G z_isinstance,PySem.W.mg_none_of X G z_len,PySem.W.mg_none_of X G z_list,PySem.W.mg_none_of X G z_max,PySem.W.mg_none_of X G z_min,PySem.W.mg_none_of X G z_range,PySem.W.mg_none_of X G z_set,PySem.W.mg_none_of X G z_sorted,PySem.W.mg_none_of X G z_tuple,cb⟩⟩
theorem aIy{l:PySem.W.OpenLaw}{w:World}{K:PySem.W.Frag}{h:Heap}{mg:Str->Option Value}{fa Pt:Addr}(X:K.In h)(G:h.Ns mainGlobals mg)(hfa:mg "law"=some (.ref fa))(hB:xU K "law" Pt=true)(ht:∃t,Txt K mg t):L2.aBu l.prog w K mg fa Pt 11 63:=by
 obtain⟨t,T⟩:=ht;have e:=hfa.symm.trans T.aHT.m;cases e;exact aGH (f:=v9) (F:=aEw) X G hB T.aHT aHj (λ _ _ _ _ _ _ _ _=>.of_eq rfl) (λ base c s H hr Lx nd=>aJz T hr Lx nd) rfl aEE
theorem walk{l:PySem.W.OpenLaw}{q:Program}{loose:List Str}{XP:(Str->Option Value)->Heap->Prop}{YP:World->Heap->Prop}{d:DefRec}{K:Params->PySem.W.Frag}{Pt:Addr}(hn:l.most=some 63)(hdf:d.params.defaults=[])
  (hY:∀(w:World) (h:Heap),YP w h->(K w.params).In h/\h.get? Pt=some (PySem.W.tabObj #[]))
  (F:∀(w:World) (mg:Str->Option Value) (fa:Addr) (h:Heap),(K w.params).In h->h.Ns mainGlobals mg->mg d.name=some (.ref fa)->L2.aBu l.prog w (K w.params) mg fa Pt 11 63):
  PySem.W.WalkO q loose XP YP l.row.toRowW d [] (λ f vs=>PySem.call f vs):=
 L2.aCq hn (by decide) hdf ⟨rfl,by decide,by decide⟩ hY F
end VL.My
open PySem PySem.W PyProof.Rows
set_option maxRecDepth 100000 in
set_option maxHeartbeats 0 in
theorem PySem.Challenge.cw_fewways_k31_forests_known_holds : PySem.Challenge.rw_fewways_k31_forests_known.Holds := by
 w_on; o_law; k_head; (case hw=>w_witness2)
 k_fill
 refine VL.My.walk (l:=PySem.Challenge.rw_fewways_k31_forests_known) rfl rfl (fun w h Y=>⟨PySem.W.km_in_of Y,PySem.W.km_tabs_of Y _ List.mem_cons_self⟩) ?F
 case F =>
  intro w mg fa h KX G hmg
  refine VL.My.aIy KX G hmg ?B ?T
  (case B=>kernel_rfl)
  case T =>
   refine' VL.My.aHZ KX G (VL.enr ?a0 ?l0 ?c0 ?k0) (VL.enr ?a1 ?l1 ?c1 ?k1) (VL.enr ?a2 ?l2 ?c2 ?k2) (VL.enr ?a3 ?l3 ?c3 ?k3) (VL.enr ?a4 ?l4 ?c4 ?k4) (VL.enr ?a5 ?l5 ?c5 ?k5) (VL.enr ?a6 ?l6 ?c6 ?k6) (VL.enr ?a7 ?l7 ?c7 ?k7) (VL.enr ?a8 ?l8 ?c8 ?k8) (VL.enr ?a9 ?l9 ?c9 ?k9) (VL.enr ?a10 ?l10 ?c10 ?k10) (VL.enr ?a11 ?l11 ?c11 ?k11) (VL.enr ?a12 ?l12 ?c12 ?k12) (VL.enr ?a13 ?l13 ?c13 ?k13) (VL.enr ?a14 ?l14 ?c14 ?k14) (VL.enr ?a15 ?l15 ?c15 ?k15) (VL.enr ?a16 ?l16 ?c16 ?k16) (VL.enr ?a17 ?l17 ?c17 ?k17) (VL.enr ?a18 ?l18 ?c18 ?k18) (VL.enr ?a19 ?l19 ?c19 ?k19) (VL.enr ?a20 ?l20 ?c20 ?k20) (VL.enr ?a21 ?l21 ?c21 ?k21) ?gG ?y_FewError ?iD ?y_NoWeb ?nW ?y_NoPlace ?lX ?y_NoWay ?qx ?y_NoParting ?iy ?y_TooMany ?lW ?y_NoForest ?jg ?y_NoPlan ?nZ ?y_NoOneWay ?jf ?y_NoOrder ?lY ?y_NoText ?nY ?y_NoDeed ?n6 ?y_NoRow ?qy ?cb ?z_ValueError ?z_all ?z_bool ?z_int ?z_isinstance ?z_len ?z_list ?z_max ?z_min ?z_range ?z_set ?z_sorted ?z_tuple
   (case y_FewError=>k_is); (case iD=>k_exc)
   (case y_NoWeb=>k_is); (case nW=>k_exc)
   (case y_NoPlace=>k_is); (case lX=>k_exc)
   (case y_NoWay=>k_is); (case qx=>k_exc)
   (case y_NoParting=>k_is); (case iy=>k_exc)
   (case y_TooMany=>k_is); (case lW=>k_exc)
   (case y_NoForest=>k_is); (case jg=>k_exc)
   (case y_NoPlan=>k_is); (case nZ=>k_exc)
   (case y_NoOneWay=>k_is); (case jf=>k_exc)
   (case y_NoOrder=>k_is); (case lY=>k_exc)
   (case y_NoText=>k_is); (case nY=>k_exc)
   (case y_NoDeed=>k_is); (case n6=>k_exc)
   (case y_NoRow=>k_is); (case qy=>k_exc)
   (case cb=>kernel_rfl)
   any_goals k_is
