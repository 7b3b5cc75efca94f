import PyProof.Rows.All
import Wide.All
import OpenK.AllK
import Wide.FinOn
import Lean
import PyProof.EqAt
import PyProof.EqKinds
import PyProof.TupleCall
import KE.LcSums
import PySem.Challenge.RW_fewways_k05_partings
noncomputable section
namespace PySem.W.Fast
theorem tw7460041111444884641:True:=⟨⟩
theorem tw15211311205011798081:True:=⟨⟩
theorem tw4614615299522146305:True:=⟨⟩
theorem tw18219754030598246305:True:=⟨⟩
theorem tw14514656887521337185:True:=⟨⟩
theorem tw105432089184913153:True:=⟨⟩
theorem tw11784605351451454177:True:=⟨⟩
theorem tw1639828327272896129:True:=⟨⟩
theorem tw3317602440616484449:True:=⟨⟩
theorem tw5235106576348756577:True:=⟨⟩
theorem tw12871642857145596481:True:=⟨⟩
theorem tw3517936037461872001:True:=⟨⟩
theorem tw17918837450846710912:True:=⟨⟩
theorem tw11796317124447209600:True:=⟨⟩
theorem tw10840562032480462912:True:=⟨⟩
theorem tw1417251092958569536:True:=⟨⟩
theorem tw9159635032500356064:True:=⟨⟩
theorem tw13969991531964800640:True:=⟨⟩
theorem tw11023907728994225728:True:=⟨⟩
theorem tw16469301965537910272:True:=⟨⟩
theorem tw13557143879216191840:True:=⟨⟩
theorem tw13353054820695800691:True:=⟨⟩
theorem tw11518078410718048019:True:=⟨⟩
theorem tw4283422161137040051:True:=⟨⟩
theorem tw13190200927297251731:True:=⟨⟩
theorem tw39619445911147827:True:=⟨⟩
theorem tw5404885023793063219:True:=⟨⟩
theorem tw2041393378513234195:True:=⟨⟩
theorem tw19670045113556211:True:=⟨⟩
theorem tw7207320308017215475:True:=⟨⟩
theorem tw338461882386043794:True:=⟨⟩
theorem tw14816942547360218994:True:=⟨⟩
theorem tw15857179302383819506:True:=⟨⟩
theorem tw2465502859992433362:True:=⟨⟩
theorem tw17276244484947274354:True:=⟨⟩
theorem tw13141327586099562066:True:=⟨⟩
theorem tw8702174667425066546:True:=⟨⟩
theorem tw5673232609229807026:True:=⟨⟩
theorem tw11788980958648987954:True:=⟨⟩
theorem tw9292854799107323154:True:=⟨⟩
theorem tw14136476550662221074:True:=⟨⟩
theorem tw14148722455419075794:True:=⟨⟩
theorem tw13123433457832496338:True:=⟨⟩
theorem tw689116546578510973:True:=⟨⟩
theorem tw4181699402962283549:True:=⟨⟩
theorem tw18029951160842761149:True:=⟨⟩
theorem tw12510521264099079005:True:=⟨⟩
theorem tw742135857849248509:True:=⟨⟩
theorem tw13664464785829839517:True:=⟨⟩
theorem tw18405410590627275325:True:=⟨⟩
theorem tw4485161455321128477:True:=⟨⟩
theorem tw18037559589489184285:True:=⟨⟩
theorem tw12972913713130369405:True:=⟨⟩
theorem tw16941356977404560733:True:=⟨⟩
theorem tw15560888494839909628:True:=⟨⟩
theorem tw11666124242347612380:True:=⟨⟩
theorem tw14791731249459807420:True:=⟨⟩
theorem tw2091972241007696796:True:=⟨⟩
theorem tw14535900844268299100:True:=⟨⟩
theorem tw651766563361854268:True:=⟨⟩
theorem tw10772832961855418076:True:=⟨⟩
theorem tw17283255219919797820:True:=⟨⟩
theorem tw9743696560698545967:True:=⟨⟩
theorem tw13990497156082846415:True:=⟨⟩
theorem tw8832069731770635887:True:=⟨⟩
theorem tw3097552048671806927:True:=⟨⟩
theorem tw3826793000151659919:True:=⟨⟩
theorem tw11133003847528722767:True:=⟨⟩
theorem tw5817705288022087855:True:=⟨⟩
theorem tw9006535195024770223:True:=⟨⟩
theorem tw15068674628582183055:True:=⟨⟩
theorem tw17284836128977639535:True:=⟨⟩
theorem tw330054396940060655:True:=⟨⟩
theorem tw9289840620848306159:True:=⟨⟩
theorem tw16626251090921864942:True:=⟨⟩
theorem tw5323940625185532622:True:=⟨⟩
theorem tw11335186373025588718:True:=⟨⟩
theorem tw12816421780157926830:True:=⟨⟩
theorem tw16783961287724471598:True:=⟨⟩
theorem tw11213910894596591822:True:=⟨⟩
theorem tw17026616991311633518:True:=⟨⟩
theorem tw6394718193975184462:True:=⟨⟩
theorem tw7957115139097360398:True:=⟨⟩
theorem tw17611285219707139022:True:=⟨⟩
theorem tw14620083894345422766:True:=⟨⟩
theorem tw3405097123636495673:True:=⟨⟩
theorem tw9329916717018466553:True:=⟨⟩
theorem tw7914797605272306809:True:=⟨⟩
theorem tw8501401457201475385:True:=⟨⟩
theorem tw18032085001886478105:True:=⟨⟩
theorem tw17572916256838541977:True:=⟨⟩
theorem tw8119641570064552473:True:=⟨⟩
theorem tw6608917002802020761:True:=⟨⟩
theorem tw3795353679703202137:True:=⟨⟩
theorem tw2464174817325599960:True:=⟨⟩
theorem tw12427324386832039000:True:=⟨⟩
theorem tw6106413265480411192:True:=⟨⟩
theorem tw17785046650271521656:True:=⟨⟩
theorem tw488290819111937880:True:=⟨⟩
theorem tw11473865615325324056:True:=⟨⟩
theorem tw8151801705799076600:True:=⟨⟩
theorem tw11690307008069654168:True:=⟨⟩
theorem tw10379599046901074424:True:=⟨⟩
theorem tw14434154131529361880:True:=⟨⟩
theorem tw9905627149002601355:True:=⟨⟩
theorem tw14219338424379508587:True:=⟨⟩
theorem tw9917418381952849643:True:=⟨⟩
theorem tw5547918754124916459:True:=⟨⟩
theorem tw13626362884540747435:True:=⟨⟩
theorem tw6108483166120028779:True:=⟨⟩
theorem tw11100289723023676971:True:=⟨⟩
theorem tw15195938146024758827:True:=⟨⟩
theorem tw11490338477639259595:True:=⟨⟩
theorem tw15144224303080495499:True:=⟨⟩
theorem tw6072170844578266507:True:=⟨⟩
theorem tw93664494730230123:True:=⟨⟩
theorem tw17231404117132363115:True:=⟨⟩
theorem tw13723864592277634411:True:=⟨⟩
theorem tw8349372203460244811:True:=⟨⟩
theorem tw6395703650025024619:True:=⟨⟩
theorem tw14544462570776543307:True:=⟨⟩
theorem tw2582956234866501386:True:=⟨⟩
theorem tw10804548680834444842:True:=⟨⟩
theorem tw12385647801639739850:True:=⟨⟩
theorem tw39786161021177098:True:=⟨⟩
theorem tw7874401007513501898:True:=⟨⟩
theorem tw9649961629647471754:True:=⟨⟩
theorem tw7812730737826609162:True:=⟨⟩
theorem tw8095686590259836906:True:=⟨⟩
theorem tw17494664645721483445:True:=⟨⟩
theorem tw4167035949121809493:True:=⟨⟩
theorem tw85663136720242773:True:=⟨⟩
theorem tw12069259657088844789:True:=⟨⟩
theorem tw4908757800364774389:True:=⟨⟩
theorem tw7350489398488632181:True:=⟨⟩
theorem tw7034430733444068149:True:=⟨⟩
theorem tw2864897996839096053:True:=⟨⟩
theorem tw687337549145835221:True:=⟨⟩
theorem tw464665474091000533:True:=⟨⟩
theorem tw9727171585919061653:True:=⟨⟩
theorem tw4834027887415855765:True:=⟨⟩
theorem tw18001991371628887669:True:=⟨⟩
theorem tw4433187008430856789:True:=⟨⟩
theorem tw2838289378018506261:True:=⟨⟩
theorem tw5757709067612790004:True:=⟨⟩
theorem tw16615455344026498260:True:=⟨⟩
theorem tw2795986329953521844:True:=⟨⟩
theorem tw7006475835540193300:True:=⟨⟩
theorem tw3742737455971233460:True:=⟨⟩
theorem tw11679173738654248596:True:=⟨⟩
theorem tw17042644068322908039:True:=⟨⟩
theorem tw13593512511603061479:True:=⟨⟩
theorem tw14267374192078294695:True:=⟨⟩
theorem tw18018169797740494407:True:=⟨⟩
theorem tw7981879489341101543:True:=⟨⟩
theorem tw13900819867193055719:True:=⟨⟩
theorem tw10660497050243038471:True:=⟨⟩
theorem tw16156393485284186247:True:=⟨⟩
theorem tw4040030569207979079:True:=⟨⟩
theorem tw9084966450610246631:True:=⟨⟩
theorem tw4883187746762586023:True:=⟨⟩
theorem tw15323715152869144358:True:=⟨⟩
theorem tw11232950943952725766:True:=⟨⟩
theorem tw16114642384985335526:True:=⟨⟩
theorem tw6897319528080271046:True:=⟨⟩
theorem tw10579158583254060646:True:=⟨⟩
theorem tw2150409987582252358:True:=⟨⟩
theorem tw10237557262358110406:True:=⟨⟩
theorem tw12748424959419443334:True:=⟨⟩
theorem tw6027038808285372390:True:=⟨⟩
theorem tw552109356394984390:True:=⟨⟩
theorem tw14073591471869067206:True:=⟨⟩
theorem tw796878822835326886:True:=⟨⟩
theorem tw2549678551751326001:True:=⟨⟩
theorem tw2581886032951398609:True:=⟨⟩
theorem tw4467813722262014065:True:=⟨⟩
theorem tw2254307981102861361:True:=⟨⟩
theorem tw13861933734891328497:True:=⟨⟩
theorem tw12239103197481332689:True:=⟨⟩
theorem tw13185517003576205233:True:=⟨⟩
theorem tw1447400928551865201:True:=⟨⟩
theorem tw13227965768105871185:True:=⟨⟩
theorem tw6500710256402882353:True:=⟨⟩
theorem tw9399443392988899057:True:=⟨⟩
theorem tw298373400011179697:True:=⟨⟩
theorem tw9703681580004021873:True:=⟨⟩
theorem tw15916573316800896593:True:=⟨⟩
theorem tw3604192712534099537:True:=⟨⟩
theorem tw10659386404509973041:True:=⟨⟩
theorem tw15890425406579630577:True:=⟨⟩
theorem tw4422145706735661553:True:=⟨⟩
theorem tw6982546952190182833:True:=⟨⟩
theorem tw1357489807342520753:True:=⟨⟩
theorem tw16202784024446057905:True:=⟨⟩
theorem tw7102487142308241809:True:=⟨⟩
theorem tw469669517019668849:True:=⟨⟩
theorem tw1761339899673104688:True:=⟨⟩
theorem tw14603454795906556176:True:=⟨⟩
theorem tw11162988947525509200:True:=⟨⟩
theorem tw5149425865708306352:True:=⟨⟩
theorem tw1985416278202377136:True:=⟨⟩
theorem tw4397599912530126512:True:=⟨⟩
theorem tw13832845894304164368:True:=⟨⟩
theorem tw13900584256779758096:True:=⟨⟩
theorem tw10622898450581826992:True:=⟨⟩
theorem tw2462441120572648291:True:=⟨⟩
theorem tw17239537802147021635:True:=⟨⟩
theorem tw17162091012300054051:True:=⟨⟩
theorem tw9066159778494025091:True:=⟨⟩
theorem tw8345752044574495939:True:=⟨⟩
theorem tw8717122619346318339:True:=⟨⟩
theorem tw3755913000857540418:True:=⟨⟩
theorem tw13656977344745154242:True:=⟨⟩
theorem tw7657059567011649154:True:=⟨⟩
theorem tw10865193546106049058:True:=⟨⟩
theorem tw9286886840780894722:True:=⟨⟩
theorem tw12192913773637559778:True:=⟨⟩
theorem tw12102234097443877314:True:=⟨⟩
theorem tw9121039154631528866:True:=⟨⟩
theorem tw15188019464649910658:True:=⟨⟩
theorem tw6248631288155006274:True:=⟨⟩
theorem tw13184201850361133314:True:=⟨⟩
theorem tw5461696620499304610:True:=⟨⟩
theorem tw16435812971734704226:True:=⟨⟩
theorem tw17366829381630161858:True:=⟨⟩
theorem tw7081018775433807981:True:=⟨⟩
theorem tw2899019953401806669:True:=⟨⟩
theorem tw9956767953313393485:True:=⟨⟩
theorem tw11691817980688160493:True:=⟨⟩
theorem tw9097969347211146797:True:=⟨⟩
theorem tw12302424081426564589:True:=⟨⟩
theorem tw5338479814996841901:True:=⟨⟩
theorem tw12209468156113014060:True:=⟨⟩
theorem tw5416209700103363788:True:=⟨⟩
theorem tw4170602764521674828:True:=⟨⟩
theorem tw16151387436983560204:True:=⟨⟩
theorem tw1750514721205223436:True:=⟨⟩
theorem tw14508635644516615148:True:=⟨⟩
theorem tw15973650975117271980:True:=⟨⟩
theorem tw12244323278448641932:True:=⟨⟩
theorem tw8607483192841617228:True:=⟨⟩
theorem tw18358997615320539948:True:=⟨⟩
theorem tw11655786152981850924:True:=⟨⟩
theorem tw13696815103473642252:True:=⟨⟩
theorem tw10344041322457329388:True:=⟨⟩
theorem tw5077986252983850604:True:=⟨⟩
theorem tw5938046746138226188:True:=⟨⟩
theorem tw53115786859497900:True:=⟨⟩
theorem tw2381163928705906060:True:=⟨⟩
theorem tw402295812254781151:True:=⟨⟩
theorem tw8472053961032788671:True:=⟨⟩
theorem tw1403443861086187071:True:=⟨⟩
theorem tw8235390837817063967:True:=⟨⟩
theorem tw9723385115987116543:True:=⟨⟩
theorem tw321968300300845567:True:=⟨⟩
theorem tw9575906961375337951:True:=⟨⟩
theorem tw18051739108650384799:True:=⟨⟩
theorem tw10410587846400437599:True:=⟨⟩
theorem tw12431581962720410847:True:=⟨⟩
theorem tw15328733511717007487:True:=⟨⟩
theorem tw11864395451659329631:True:=⟨⟩
theorem tw18311255761455915071:True:=⟨⟩
theorem tw3861765573595256863:True:=⟨⟩
theorem tw11551538898520984575:True:=⟨⟩
theorem tw17087777058002428895:True:=⟨⟩
theorem tw18284297604167150559:True:=⟨⟩
theorem tw16824791582227683198:True:=⟨⟩
theorem tw14319491360036868734:True:=⟨⟩
theorem tw9728160946912988798:True:=⟨⟩
theorem tw10969419776244098558:True:=⟨⟩
theorem tw12820080995233489310:True:=⟨⟩
theorem tw10813693644818341214:True:=⟨⟩
theorem tw13469574507949604030:True:=⟨⟩
theorem tw5104393123449074814:True:=⟨⟩
theorem tw11463531391396752510:True:=⟨⟩
theorem tw3833554843068192798:True:=⟨⟩
theorem tw3660799857923916798:True:=⟨⟩
theorem tw11956802798000381161:True:=⟨⟩
theorem tw17844678962869733385:True:=⟨⟩
theorem tw9503351405146110953:True:=⟨⟩
theorem tw6531492950593434505:True:=⟨⟩
theorem tw15265029202616826697:True:=⟨⟩
theorem tw9492024345509855049:True:=⟨⟩
theorem tw13826817798029573865:True:=⟨⟩
theorem tw2271086771374653097:True:=⟨⟩
theorem tw1043237454217717353:True:=⟨⟩
theorem tw14861195243040698889:True:=⟨⟩
theorem tw7372883784425226761:True:=⟨⟩
theorem tw15466101619000814921:True:=⟨⟩
theorem tw11276355866316116168:True:=⟨⟩
theorem tw9890224641398549448:True:=⟨⟩
theorem tw12021193827040103304:True:=⟨⟩
theorem tw8342609939747069768:True:=⟨⟩
theorem tw11183961586582717160:True:=⟨⟩
theorem tw17959455961936943848:True:=⟨⟩
theorem tw16605018764299820744:True:=⟨⟩
theorem tw4720921555309526696:True:=⟨⟩
theorem tw16257827420371585608:True:=⟨⟩
theorem tw4086676058548213288:True:=⟨⟩
theorem tw2459047064636524040:True:=⟨⟩
theorem tw12771700142815554024:True:=⟨⟩
theorem tw4690167270832101211:True:=⟨⟩
theorem tw4358005498753031899:True:=⟨⟩
theorem tw15624836613757626683:True:=⟨⟩
theorem tw1610775636256406491:True:=⟨⟩
theorem tw358798502163919835:True:=⟨⟩
theorem tw1222815286336263034:True:=⟨⟩
theorem tw16713419795209121626:True:=⟨⟩
theorem tw6328707781619631738:True:=⟨⟩
theorem tw16528792102805009978:True:=⟨⟩
theorem tw15859725383631761914:True:=⟨⟩
theorem tw16019760871046763002:True:=⟨⟩
theorem tw12985391569809520058:True:=⟨⟩
theorem tw4408005507272185050:True:=⟨⟩
theorem tw8031409942712092762:True:=⟨⟩
theorem tw17766084286571142234:True:=⟨⟩
theorem tw7173343428358234010:True:=⟨⟩
theorem tw4441806451796953349:True:=⟨⟩
theorem tw9477031631410653253:True:=⟨⟩
theorem tw10074578857855688709:True:=⟨⟩
theorem tw2903824938943721477:True:=⟨⟩
theorem tw7502178958743861093:True:=⟨⟩
theorem tw3321204402264239909:True:=⟨⟩
theorem tw10541509293580360485:True:=⟨⟩
theorem tw11836255284088662693:True:=⟨⟩
theorem tw16590020807910531461:True:=⟨⟩
theorem tw9072933142157810021:True:=⟨⟩
theorem tw7775083677357476068:True:=⟨⟩
theorem tw4774326855518317764:True:=⟨⟩
theorem tw8087305168238675108:True:=⟨⟩
theorem tw16966119835609780388:True:=⟨⟩
theorem tw14433786384185778212:True:=⟨⟩
theorem tw907753017416353604:True:=⟨⟩
theorem tw17427500416009545412:True:=⟨⟩
theorem tw5157239978609440260:True:=⟨⟩
theorem tw3072197087361904996:True:=⟨⟩
theorem tw5408844644795718519:True:=⟨⟩
theorem tw257737478258998071:True:=⟨⟩
theorem tw9263448867532532503:True:=⟨⟩
theorem tw6730509563737427671:True:=⟨⟩
theorem tw14128712513315083991:True:=⟨⟩
theorem tw16777723449169527511:True:=⟨⟩
theorem tw5562783693708908183:True:=⟨⟩
theorem tw3244875077561270935:True:=⟨⟩
theorem tw5000624525765883543:True:=⟨⟩
theorem tw16480843105606906519:True:=⟨⟩
theorem tw5800796156950650455:True:=⟨⟩
theorem tw10455030381369368151:True:=⟨⟩
theorem tw4424835337524218455:True:=⟨⟩
theorem tw8095120776420229591:True:=⟨⟩
theorem tw10974100518882250167:True:=⟨⟩
theorem tw8429084602826569079:True:=⟨⟩
theorem tw8556652537361193335:True:=⟨⟩
theorem tw3369309714583866615:True:=⟨⟩
theorem tw1542126125003985015:True:=⟨⟩
theorem tw1547273757379419255:True:=⟨⟩
theorem tw8209966411961985111:True:=⟨⟩
theorem tw14881622432662173751:True:=⟨⟩
theorem tw8491952512849418295:True:=⟨⟩
theorem tw4199224777263366103:True:=⟨⟩
theorem tw16598394554797800375:True:=⟨⟩
theorem tw8731407324190685974:True:=⟨⟩
theorem tw10130696461756641046:True:=⟨⟩
theorem tw4621924295939909302:True:=⟨⟩
theorem tw14380634169526542966:True:=⟨⟩
theorem tw2134040344311804470:True:=⟨⟩
theorem tw2413384287691859382:True:=⟨⟩
theorem tw11747565954790775190:True:=⟨⟩
theorem tw17023462663164928310:True:=⟨⟩
theorem tw2019596805365145782:True:=⟨⟩
theorem tw12614645791144163446:True:=⟨⟩
theorem tw9662049985337367574:True:=⟨⟩
theorem tw6975530552488499126:True:=⟨⟩
theorem tw15297512815162256278:True:=⟨⟩
theorem tw5345201017070831776:True:=⟨⟩
theorem tw12406149616837270361:True:=⟨⟩
end PySem.W.Fast
set_option bootstrap.genMatcherCode false
set_option compiler.extract_closed false
set_option Elab.async false
set_option linter.all false
set_option maxRecDepth 100000
namespace L2
open PySem PySem.Spec PyProof.Rows
abbrev Key:=Sum Int Str
def aIz:Key->Value->Bool
 | .inl k,v=>Value.isInt k v
 | .inr x,v=>Value.isStrOf x v
def aMA(w:World):Key->Int
 | .inl k=>hashInt k
 | .inr x=>hashStr w x
theorem dD:∀{k:Key} {v:Value},aIz k v=true->(∃i t,k=Sum.inl i/\v=Value.int i t)\/(∃x t,k=Sum.inr x/\v=Value.str x t)
 | .inl i,v,h=>by
  obtain⟨t,e⟩:=Value.isInt_shape (k:=i) (v:=v) h;exact .inl ⟨i,t,rfl,e⟩
 | .inr x,v,h=>by
  obtain⟨t,e⟩:=Value.isStrOf_shape (x:=x) (v:=v) h;exact .inr ⟨x,t,rfl,e⟩
theorem aKX(a b:Int):decide ((Sum.inl a:Key)=Sum.inl b)=(a==b):=by
 by_cases e:a=b
 ·subst e;simp
 ·have h:¬(Sum.inl a:Key)=Sum.inl b:=λ q=>e (Sum.inl.inj q)
  rw[decide_eq_false h];exact(beq_eq_false_iff_ne.mpr e).symm
theorem aKU(a b:Str):decide ((Sum.inr a:Key)=Sum.inr b)=decide (a=b):=by
 by_cases e:a=b
 ·subst e;simp
 ·have h:¬(Sum.inr a:Key)=Sum.inr b:=λ q=>e (Sum.inr.inj q)
  rw[decide_eq_false h,decide_eq_false e]
theorem aKW(a:Int)(b:Str):decide ((Sum.inl a:Key)=Sum.inr b)=false:=decide_eq_false (λ q=>nomatch q)
theorem aKV(a:Str)(b:Int):decide ((Sum.inr a:Key)=Sum.inl b)=false:=decide_eq_false (λ q=>nomatch q)
def aAU(prog:Program)(w:World):PySem.KeyKind prog w Key where
 is:=aIz
 hash:=aMA w
 inj:=λ v a b ha hb=>by
  rcases dD ha with ⟨i,t,rfl,rfl⟩|⟨x,t,rfl,rfl⟩
  ·rcases dD hb with ⟨j,u,rfl,e⟩|⟨y,u,rfl,e⟩
   ·injection e with e1 _;rw[e1]
   ·exact nomatch e
  ·rcases dD hb with ⟨j,u,rfl,e⟩|⟨y,u,rfl,e⟩
   ·exact nomatch e
   ·injection e with e1 _;rw[e1]
 byValue:=λ k v h=>by
  rcases dD h with ⟨i,t,rfl,rfl⟩|⟨x,t,rfl,rfl⟩<;>rfl
 pyHash:=λ hv h=>by
  rcases dD hv with ⟨i,t,rfl,rfl⟩|⟨x,t,rfl,rfl⟩
  ·exact wpAny_pyHash_int h
  ·exact wpAny_pyHash_str h
 eqBool:=λ hu hv h=>by
  rcases dD hu with ⟨i,t,rfl,rfl⟩|⟨x,t,rfl,rfl⟩
  ·rcases dD hv with ⟨j,u,rfl,rfl⟩|⟨y,u,rfl,rfl⟩
   ·rw[aKX]at h;exact wpAny_eqBool_int h
   ·rw[aKW]at h;exact SeqAt.EqAt.int_str i t y u _ _ _ _ h
  ·rcases dD hv with ⟨j,u,rfl,rfl⟩|⟨y,u,rfl,rfl⟩
   ·rw[aKV]at h;exact SeqAt.EqAt.str_int x t j u _ _ _ _ h
   ·rw[aKU]at h;exact wpAny_eqBool_str h
 «strs»:=λ k x t v h=>by
  rcases dD h with ⟨i,u,rfl,e⟩|⟨y,u,rfl,e⟩
  ·exact nomatch e
  ·injection e with e1 _
   subst e1;cases v<;>rfl
inductive V where
 |non|bl (b:Bool)|int (i:Int)|str (x:Str)|byt (b:Array UInt8)|flt (b:UInt64)|ref (a:Addr)|ty (n:String)
 deriving DecidableEq
def RelV:V->Value->Prop
 | .non,u=>u=Value.none
 | .bl b,u=>u=Value.bool b
 | .int i,u=>∃t,u=Value.int i t
 | .str x,u=>∃t,u=Value.str x t
 | .byt b,u=>∃t,u=Value.bytes b t
 | .flt b,u=>∃t,u=Value.float b t
 | .ref a,u=>u=Value.ref a
 | .ty n,u=>u=Value.type n
abbrev Vals:List V->List Value->Prop:=Paired RelV
theorem Vals.length{xs:List V}{us:List Value}(r:Vals xs us):xs.length=us.length:=Paired.length r
theorem Vals.get:∀{xs:List V} {us:List Value} {i:Nat} {x:V},Vals xs us->xs[i]? =some x->∃u,us[i]? =some u/\RelV x u
 |_,_,_,_,.nil,e=>by simp at e
 |_,_,0,_,.cons r _,e=>by simp at e;subst e;exact⟨_,rfl,r⟩
 |_,_,i+1,x,.cons _ t,e=>by
  obtain⟨u,h1,h2⟩:=Vals.get (i:=i) (x:=x) t (by simpa using e);exact⟨u,by simpa using h1,h2⟩
theorem Vals.append:∀{xs ys:List V} {us ws:List Value},Vals xs us->Vals ys ws->Vals (xs++ys) (us++ws)
 |_,_,_,_,.nil,s=>s
 |_,_,_,_,.cons r t,s=>.cons r (Vals.append t s)
theorem Vals.take:∀{xs:List V} {us:List Value} (n:Nat),Vals xs us->Vals (xs.take n) (us.take n)
 |_,_,0,_=>.nil
 |_,_,_+1,.nil=>.nil
 |_,_,n+1,.cons r t=>.cons r (Vals.take n t)
theorem Vals.drop:∀{xs:List V} {us:List Value} (n:Nat),Vals xs us->Vals (xs.drop n) (us.drop n)
 |_,_,0,r=>r
 |_,_,_+1,.nil=>.nil
 |_,_,n+1,.cons _ t=>Vals.drop n t
def aEf:Option V->Option Value->Prop
 |some v,some u=>RelV v u
 |none,none=>True
 |_,_=>False
def KV{κ:Type}:List (κ×V)->List (κ×Value)->Prop:=Paired λ(p:κ×V) (q:κ×Value)=>p.1=q.1/\RelV p.2 q.2
def kV:Key->V
 | .inl i=>.int i
 | .inr x=>.str x
inductive HO where
 |lst (xs:List V)
 |tup (xs:List V)
 |dK (kvs:List (Key×V))|dT (kvs:List (List Key×V))
 |set (S:Int->Bool) (n:Nat)
 |ins (C dx:Addr) (fs:List (Str×V))
 |own (x:Addr)
 |xd (fs:List (Str×V))
 |met (f x:Addr)
 |rng (lo hi:Int)
 |frz (o:Obj) (u:HO)
 |tbl (ps:Array Value)
 |ext (φ:Heap->Prop)
abbrev Hp:=Addr->Option HO
def upd(H:Hp)(a:Addr)(o:HO):Hp:=λ b=>if b=a then some o else H b
theorem bA{H:Hp}{a:Addr}{o:HO}:upd H a o a=some o:=by unfold upd;rw[if_pos rfl]
theorem aZ{H:Hp}{a b:Addr}{o:HO}(h:b≠a):upd H a o b=H b:=by unfold upd;rw[if_neg h]
theorem bU{H:Hp}{a b:Addr}{o:HO}(h:H a=some o)(h':H b=none):a≠b:=by
 intro e;subst e;rw[h]at h';cases h'
section
variable(P:Program)(w:World)
def dZ(H:Hp)(h:Heap)(a:Addr):HO->Prop
 | .lst xs=>xs.length<=sizeLine/\∃(its:List Value) (n:Nat),Vals xs its/\h.get? a=some {cls:=.type "list",data:=.seq its.toArray n}
 | .tup xs=>xs.length<=sizeLine/\∃its:List Value,Vals xs its/\IsTup h a its.toArray
 | .dK kvs=>kvs.length<=sizeLine/\(a==sysModules)=false/\∃vs,KV kvs vs/\h.DictOf (aAU P w) a vs
 | .dT kvs=>kvs.length<=sizeLine/\(a==sysModules)=false/\∃xs:List (List Key×Addr×Value),
   Paired (λ(p:List Key×V) (q:List Key×Addr×Value)=>p.1=q.1/\H q.2.1=some (.tup (p.1.map kV))/\RelV p.2 q.2.2) kvs xs/\
   ∃o es ep,h.get? a=some o/\o.ExactDict/\o.data= .dict es ep/\es.toList=xs.map (entryOfKey (tupleKind (aAU P w)))/\(xs.map (·.1)).Nodup
 | .set S n=>h.SetOf (intKind P w) a S n
 | .ins C dx fs=>H dx=some (.own a)/\fs.length<=1000/\dx≠a/\h.get? a=some (PySem.W.instObj C dx)/\
   ∃mA,h.Ns1 dx mA/\(∀f,aEf (fs.lookup f) (mA f))/\PySem.Within mA (fs.map (·.1))
 | .own _=>∃o,h.get? a=some o
 | .xd fs=>∃mA,h.Ns1 a mA/\∀f,aEf (fs.lookup f) (mA f)
 | .rng lo hi=>∃t u v,h.get? a=some {cls:=.type "range",data:=.fields #[.int lo t,.int hi u,.int 1 v]}
 | .frz o u=>h.get? a=some o/\dZ H h a u
 | .tbl ps=>h.get? a=some {cls:=.none,data:=.fields ps}
 | .met f x=>h.get? a=some (PySem.W.methodObj (.ref f) (.ref x))
 | .ext φ=>φ h/\(∃o,h.get? a=some o)/\∀h1 h2:Heap,φ h1->(∀o,h1.get? a=some o->h2.get? a=some o)->φ h2
def HOk(H:Hp)(h:Heap):Prop:=∀a o,H a=some o->dZ P w H h a o
end
section
variable{P:Program}{w:World}{H H':Hp}{h h':Heap}{a:Addr}{o:HO}
theorem dZ.lt(x:dZ P w H h a o):a<h.objs.size:=by
 cases o with
 |lst xs=>obtain⟨_,_,_,_,e⟩:=x;exact Heap.lt_size e
 |tup xs=>obtain⟨_,_,_,p⟩:=x;exact p.lt
 |dK kvs=>obtain⟨_,_,_,_,o,_,_,e,_⟩:=x;exact Heap.lt_size e
 |dT kvs=>obtain⟨_,_,_,_,o,_,_,e,_⟩:=x;exact Heap.lt_size e
 |set S n=>obtain⟨o,_,_,_,e,_⟩:=x;exact Heap.lt_size e
 |ins C dx fs=>obtain⟨_,_,_,e,_⟩:=x;exact Heap.lt_size e
 |own y=>obtain⟨_,e⟩:=x;exact Heap.lt_size e
 |xd fs=>obtain⟨_,⟨_,_,_,e,_⟩,_⟩:=x;exact Heap.lt_size e
 |rng lo hi=>obtain⟨_,_,_,e⟩:=x;exact Heap.lt_size e
 |frz ob u=>obtain⟨e,_⟩:=x;exact Heap.lt_size e
 |tbl ps=>exact Heap.lt_size (show h.get? a=some _ from x)
 |met f y=>exact Heap.lt_size (show h.get? a=some _ from x)
 |ext φ=>obtain⟨_,⟨_,e⟩,_⟩:=x;exact Heap.lt_size e
theorem Paired.mapP{α β:Type}{F G:α->β->Prop}:∀{l₁:List α} {l₂:List β},Paired F l₁ l₂->(∀a b,F a b->G a b)->Paired G l₁ l₂
 |_,_,.nil,_=>.nil
 |_,_,.cons r t,f=>.cons (f _ _ r) (Paired.mapP t f)
theorem dZ.stay(x:dZ P w H h a o)(k:∀b u,(b=a\/H b=some (.own a))->h.get? b=some u->h'.get? b=some u)
  (ho:∀b,H b=some (.own a)->H' b=some (.own a))(ht:∀b xs,H b=some (.tup xs)->H' b=some (.tup xs)):dZ P w H' h' a o:=by
 induction o with
 |lst xs=>obtain⟨z,its,n,r,e⟩:=x;exact⟨z,its,n,r,k _ _ (.inl rfl) e⟩
 |tup xs=>obtain⟨z,its,r,ob,e,c⟩:=x;exact⟨z,its,r,ob,k _ _ (.inl rfl) e,c⟩
 |dK kvs=>obtain⟨z,y,vs,r,ob,es,ep,e,c⟩:=x;exact⟨z,y,vs,r,ob,es,ep,k _ _ (.inl rfl) e,c⟩
 |dT kvs=>
  obtain⟨z,y,xs,r,ob,es,ep,e,c⟩:=x;exact⟨z,y,xs,Paired.mapP r λ p q z=>⟨z.1,ht _ _ z.2.1,z.2.2⟩,ob,es,ep,k _ _ (.inl rfl) e,c⟩
 |set S n=>obtain⟨ob,es,ep,t,e,c⟩:=x;exact⟨ob,es,ep,t,k _ _ (.inl rfl) e,c⟩
 |ins C dx fs=>
  obtain⟨d,z,ne,e,mA,⟨od,es,ep,e2,c⟩,r⟩:=x;exact⟨ho _ d,z,ne,k _ _ (.inl rfl) e,mA,⟨od,es,ep,k _ _ (.inr d) e2,c⟩,r⟩
 |own y=>obtain⟨ob,e⟩:=x;exact⟨ob,k _ _ (.inl rfl) e⟩
 |xd fs=>obtain⟨mA,⟨od,es,ep,e,c⟩,r⟩:=x;exact⟨mA,⟨od,es,ep,k _ _ (.inl rfl) e,c⟩,r⟩
 |rng lo hi=>obtain⟨t,u,v,e⟩:=x;exact⟨t,u,v,k _ _ (.inl rfl) e⟩
 |frz ob u ih=>obtain⟨e,q⟩:=x;exact⟨k _ _ (.inl rfl) e,ih q⟩
 |tbl ps=>
  have e:h.get? a=some {cls:=.none,data:=.fields ps}:=x;show h'.get? a=some {cls:=.none,data:=.fields ps};exact k a _ (.inl rfl) e
 |met f y=>
  have e:h.get? a=some (PySem.W.methodObj (.ref f) (.ref y)):=x;show h'.get? a=some (PySem.W.methodObj (.ref f) (.ref y));exact k a _ (.inl rfl) e
 |ext φ=>obtain⟨p,⟨o,e⟩,st⟩:=x;exact⟨st _ _ p λ o q=>k _ _ (.inl rfl) q,⟨o,k _ _ (.inl rfl) e⟩,st⟩
theorem HOk.lt(x:HOk P w H h)(e:H a=some o):a<h.objs.size:=(x a o e).lt
theorem HOk.fresh(x:HOk P w H h)(e:h.objs.size<=a):H a=none:=by
 cases q:H a with
 |none=>rfl
 |some u=>exact absurd (Nat.lt_of_lt_of_le (x.lt q) e) (Nat.lt_irrefl _)
theorem HOk.kept(x:HOk P w H h)(k:∀b u,h.get? b=some u->h'.get? b=some u):HOk P w H h':=λ a o e=>
 (x a o e).stay (λ b u _ q=>k b u q) (λ _ q=>q) λ _ _ q=>q
theorem HOk.laid(x:HOk P w H h)(k:∀b u,h.get? b=some u->h'.get? b=some u)(hp:h.objs.size<=a)(new:dZ P w (upd H a o) h' a o):HOk P w (upd H a o) h':=λ b u e=>by
 have hn:=x.fresh hp;by_cases hb:b=a
 ·subst hb;rw[bA]at e;cases e;exact new
 ·rw[aZ hb]at e
  exact(x b u e).stay (λ c v _ q=>k c v q) (λ c q=>by rw[aZ (bU q hn)];exact q) λ c xs q=>by rw[aZ (bU q hn)];exact q
end
def Rd(H:Hp)(a:Addr)(u:HO):Prop:=H a=some u\/∃o,H a=some (.frz o u)
theorem Rd.ok{P:Program}{w:World}{H:Hp}{h:Heap}{a:Addr}{u:HO}(r:Rd H a u)(x:HOk P w H h):dZ P w H h a u:=by
 rcases r with r|⟨o,r⟩
 ·exact x a u r
 ·obtain⟨_,q⟩:=x a _ r
  exact q
def Mut:Option HO->Prop
 |some (.lst _)=>True
 |some (.dK _)=>True
 |some (.dT _)=>True
 |some (.set _ _)=>True
 |some (.ins _ _ _)=>True
 |some (.ext _)=>True
 |_=>False
section
variable{P:Program}{w:World}{H:Hp}{h h':Heap}{x e:Addr}{o':HO}
theorem HOk.write(ok:HOk P w H h)(mu:Mut (H x))(he:e=x\/H e=some (.own x))(k:∀b u,b≠e->h.get? b=some u->h'.get? b=some u)(heo:∃u,h'.get? e=some u)
  (new:dZ P w (upd H x o') h' x o'):HOk P w (upd H x o') h':=λ b u q=>by
 have nown:∀c y,H c=some (.own y)->c≠x:=λ c y r z=>by subst z;rw[r]at mu;exact mu
 have ntup:∀c xs,H c=some (.tup xs)->c≠x:=λ c xs r z=>by subst z;rw[r]at mu;exact mu
 by_cases hb:b=x
 ·subst hb;rw[bA]at q;cases q;exact new
 ·rw[aZ hb]at q
  by_cases hbe:b=e
  ·have q':H b=some (.own x):=by
    rcases he with z|z
    ·exact absurd (hbe.trans z) hb
    ·rw[hbe];exact z
   rw[q]at q';cases q';obtain⟨v,hv⟩:=heo;exact⟨v,by rw[hbe];exact hv⟩
  ·refine(ok b u q).stay (λ c v hc r=>k c v ?_ r) (λ c r=>by rw[aZ (nown c b r)];exact r) λ c xs r=>by rw[aZ (ntup c xs r)];exact r
   rcases hc with rfl|hc
   ·exact hbe
   ·rintro rfl
    rcases he with z|z
    ·exact nown c b hc z
    ·rw[hc]at z;cases z;exact hb rfl
end
structure Un(fs ex:List Addr)(H H':Hp)(h h':Heap):Prop where
 keep:∀b o,h.get? b=some o->H b=none->b∉fs->b∉ex->h'.get? b=some o
 slot:∀b o,h.get? b=some o->H b=none->b∈fs->b∉ex->∃sl,h'.get? b=some {o with slots:=sl}
 free:∀b o,h.get? b=some o->H b=none->b∉ex->H' b=none
 there:∀b o,h.get? b=some o->b∉ex->∃o',h'.get? b=some o'
 tups:∀b xs,H b=some (.tup xs)->H' b=some (.tup xs)
 frzs:∀b o u,H b=some (.frz o u)->H' b=some (.frz o u)
 tbls:∀b ps,H b=some (.tbl ps)->∃more,H' b=some (.tbl (ps++more))
section
variable{fs fs' ex ex':List Addr}{H H1 H2:Hp}{h h1 h2 h':Heap}{a x e:Addr}{o:HO}
theorem Un.any(u:Un fs ex H H1 h h1){b:Addr}{ob:Obj}(q:h.get? b=some ob)(n:H b=none)(hx:b∉ex):∃sl,h1.get? b=some {ob with slots:=sl}:=by
 by_cases hb:b∈fs
 ·exact u.slot b ob q n hb hx
 ·exact⟨ob.slots,u.keep b ob q n hb hx⟩
theorem Un.kept(k:∀b u,h.get? b=some u->h'.get? b=some u):Un fs ex H H h h':=
 ⟨λ b ob q _ _ _=>k b ob q,λ b ob q _ _ _=>⟨ob.slots,k b ob q⟩,λ _ _ _ n _=>n,λ b ob q _=>⟨ob,k b ob q⟩,λ _ _ q=>q,λ _ _ _ q=>q,λ _ ps q=>⟨#[],by rw[q];simp⟩⟩
theorem Un.refl:Un fs ex H H h h:=Un.kept λ _ _ q=>q
theorem Un.laid(k:∀b u,h.get? b=some u->h'.get? b=some u)(hp:h.objs.size<=a)(hn:H a=none):Un fs ex H (upd H a o) h h' where
 keep:=λ b u q _ _ _=>k b u q
 slot:=λ b u q _ _ _=>⟨u.slots,k b u q⟩
 free:=λ b u q n _=>by rw[aZ (Nat.ne_of_lt (Nat.lt_of_lt_of_le (Heap.lt_size q) hp))];exact n
 there:=λ b u q _=>⟨u,k b u q⟩
 tups:=λ b xs q=>by rw[aZ (bU q hn)];exact q
 frzs:=λ b u xs q=>by rw[aZ (bU q hn)];exact q
 tbls:=λ b ps q=>⟨#[],by rw[aZ (bU q hn),q];simp⟩
theorem Un.write(mu:Mut (H x))(he:e=x\/H e=some (.own x))(k:∀b u,b≠e->h.get? b=some u->h'.get? b=some u)(heo:∃u,h'.get? e=some u):Un fs ex H (upd H x o) h h':=by
 have hx:∀b,H b=none->b≠x:=λ b n z=>by subst z;rw[n]at mu;exact mu
 have hb:∀b,H b=none->b≠e:=λ b n z=>by
  subst z;rcases he with r|r
  ·exact hx b n r
  ·rw[n]at r;cases r
 have hm:∀b u,H b=some u->¬Mut (some u)->b≠x:=λ b u q nm z=>by subst z;rw[q]at mu;exact nm mu
 refine⟨λ b u q n _ _=>k b u (hb b n) q,λ b u q n _ _=>⟨u.slots,k b u (hb b n) q⟩,λ b u q n _=>by rw[aZ (hx b n)];exact n,λ b u q _=>?_,
  λ b xs q=>by rw[aZ (hm b _ q λ z=>z)];exact q,λ b u xs q=>by rw[aZ (hm b _ q λ z=>z)];exact q,λ b ps q=>⟨#[],by rw[aZ (hm b _ q λ z=>z),q];simp⟩⟩
 by_cases hbe:b=e
 ·subst hbe;exact heo
 ·exact⟨u,k b u hbe q⟩
theorem Un.mono(u:Un fs ex H H1 h h1)(hs:∀b∈fs,b∈fs')(hx:∀b∈ex,b∈ex'):Un fs' ex' H H1 h h1:=
 ⟨λ b ob q n hb he=>u.keep b ob q n (λ z=>hb (hs b z)) λ z=>he (hx b z),λ _ _ q n _ he=>u.any q n λ z=>he (hx _ z),λ b ob q n he=>u.free b ob q n λ z=>he (hx b z),λ b ob q he=>u.there b ob q λ z=>he (hx b z),u.tups,u.frzs,u.tbls⟩
end
def trk(h:Heap)(H:Hp):List Addr:=(List.range h.objs.size).filter λ a=>(H a).isSome
def aGV(h:Heap)(H:Hp):Heap:=PySem.W.hideAll h (trk h H)
theorem aE3(h:Heap)(H:Hp):(aGV h H).objs.size=h.objs.size:=PySem.W.hideAll_size _ _
theorem aGU{h:Heap}{H:Hp}{b:Addr}{o:Obj}(e:h.get? b=some o)(n:H b=none):(aGV h H).get? b=some o:=
 PySem.W.hideAll_get _ e λ hm=>by
  have q:(H b).isSome=true:=(List.mem_filter.mp hm).2;rw[n]at q;simp at q
theorem aHk{h:Heap}{H:Hp}{b:Addr}{o:Obj}(e:(aGV h H).get? b=some o):h.get? b=some o/\H b=none:=by
 have e':h.get? b=some o:=PySem.W.of_hideAll (trk h H) e;refine⟨e',?_⟩;cases q:H b with
 |none=>rfl
 |some x=>
  have hm:b∈trk h H:=List.mem_filter.mpr ⟨List.mem_range.mpr (Heap.lt_size e'),by simp[q]⟩;have z:(aGV h H).get? b=none:=PySem.W.hideAll_none (trk h H) hm;rw[z]at e;cases e
def aI6(g h:Heap)(L:Addr):List (Addr×Obj):=(List.range h.objs.size).filterMap λ a=>if a=L\/(g.get? a).isSome=true then none else(h.get? a).map λ o=>(a,o)
def rest(g h:Heap)(L d:Addr):List (Addr×Obj):=(aI6 g h L).filter λ p=>decide (p.1≠d)
structure Mod(K:PySem.W.Frag)(mg:Str->Option Value)(base:Heap):Prop where
 kin:K.In base
 glob:base.Ns mainGlobals mg
 blt:∃mb,base.Ns builtinsNs mb/\∀x:Str,x≠"__name__"->mb x=bootBuiltins x
 nolimit:base.NoLimit
structure Cx where
 prog:Program
 w:World
 K:PySem.W.Frag
 mg:Str->Option Value
 base:Heap
 A:Around
 N:List Str
 s₀:Shared
 H₀:Hp
 env:Env
 outer:List Env
 stack:List Env
 ex:List Addr
 fn:Str->Bool
 calm:Bool
 pn:List (Addr×Obj)
 xe:Value->Shared->Prop
 ta:List (Addr×Obj):=[]
 tq:Str:=""
def frs(l:List Env):List Addr:=l.filterMap (·.frame)
abbrev Cx.fs(X:Cx):List Addr:=frs X.outer
def Vis(sc:Scope)(x:Str):Prop:=sc.names.lookup x=some .local\/sc.names.lookup x=some .cell\/sc.names.lookup x=some .free
def Loc(sc:Scope)(x:Str):Prop:=sc.names.lookup x=some .local\/sc.names.lookup x=some .cell
def Look(env:Env)(h:Heap)(m:Str->Option Value)(x:Str)(u:Value):Prop:=
 (env.kindOf x=some .local/\m x=some u)\/((env.kindOf x=some .cell\/env.kindOf x=some .free)/\∃c,env.cells.lookup x=some c/\h.IsCell c (some u))
structure Cx.Ok(X:Cx):Prop where
 mod:Mod X.K X.mg X.base
 kind:X.env.scope.kind= .function
 glob:X.env.globals=mainGlobals
 blt:X.env.builtins=builtinsNs
 above:X.s₀.heap.objs.size<=X.env.locals
 inj:∀x y c,X.env.cells.lookup x=some c->X.env.cells.lookup y=some c->x=y
 has:∀x,(X.env.kindOf x=some .cell\/X.env.kindOf x=some .free)->∃c,X.env.cells.lookup x=some c
 cab:∀x c,X.fn x=true->X.env.cells.lookup x=some c->X.s₀.heap.objs.size<=c
 hd:X.calm=true->X.A.handled=none
 frames:X.A.frames=some X.stack
 stk:X.stack=X.outer\/(X.stack=X.env::X.outer/\X.env.frame=some X.env.locals)
 exf:∀b∈X.ex,b≠X.env.locals/\∀x c,X.env.cells.lookup x=some c->c≠b
 bs:∀b o,X.base.get? b=some o->X.s₀.heap.get? b=some o/\X.H₀ b=none
 bsz:X.base.objs.size<=X.s₀.heap.objs.size
 noex:∀b o,X.base.get? b=some o->b∉X.ex
 exfs:∀b∈X.ex,b∉X.fs
 funs:X.s₀.heap.FunFrames X.base X.outer
 frf:∀b∈X.fs,X.H₀ b=none
def aJF(q:Str)(oc:Obj):Prop:=∃vs t,oc.data= .fields vs/\vs[1]? =some (.str q t)
def TabOk(q:Str)(H:Hp)(ps:Array Value):Prop:=TriplesOk ps.toList/\∀pos cv,codeAmong pos ps.toList=some cv->∃c' oc,cv= .ref c'/\H c'=some (.frz oc (.own c'))/\aJF q oc
theorem TabOk.mono(t:TabOk q H ps)(f:∀b o u,H b=some (.frz o u)->H' b=some (.frz o u)):TabOk q H' ps:=⟨t.1,λ pos cv hc=>let⟨c',oc,z,a,b⟩:=t.2 pos cv hc;⟨c',oc,z,f _ _ _ a,b⟩⟩
structure Inv(X:Cx)(pins:List (Addr×Obj))(σ:List (Option V))(H:Hp)(s:Shared):Prop where
 ok:X.Ok
 os:s.os=X.s₀.os
 bare:AllBare s.gens
 base:Un X.fs X.ex X.H₀ H X.s₀.heap s.heap
 loc:∃m,s.heap.Ns X.env.locals m/\∀(i:Nat) (x:Str) (v:V),X.N[i]? =some x->σ[i]? =some (some v)->Vis X.env.scope x->∃u,RelV v u/\Look X.env s.heap m x u
 cell:∀x c,X.env.cells.lookup x=some c->∃v,s.heap.IsCell c v
 free:H X.env.locals=none
 freeC:∀x c,X.env.cells.lookup x=some c->H c=none
 pin:∀p∈X.pn++pins,s.heap.get? p.1=some p.2/\H p.1=none/\p.1≠X.env.locals/\p.1∉X.fs/\∀v,p.2.data≠.cell v
 hok:HOk X.prog X.w H s.heap
 len:σ.length=X.N.length
 tab:∀p∈X.ta,H p.1=none/\p.1≠X.env.locals/\p.1∉X.fs/\(∀q∈X.pn++pins,q.1≠p.1)/\∃ps,s.heap.get? p.1=some {cls:=.none,data:=.fields ps}/\TabOk X.tq H ps
section
variable{X:Cx}{pins:List (Addr×Obj)}{σ:List (Option V)}{H H':Hp}{s:Shared}{h':Heap}
theorem Cx.Ok.nofr(ok:X.Ok){b:Addr}{o:Obj}(e:X.base.get? b=some o):b∉X.fs:=λ hb=>by
 have:=(ok.funs.mem hb).1
 rw[e]at this;cases this
theorem Inv.bs(I:Inv X pins σ H s):∀b o,X.base.get? b=some o->s.heap.get? b=some o/\H b=none:=λ b o e=>
 ⟨I.base.keep b o (I.ok.bs b o e).1 (I.ok.bs b o e).2 (I.ok.nofr e) (I.ok.noex b o e),I.base.free b o (I.ok.bs b o e).1 (I.ok.bs b o e).2 (I.ok.noex b o e)⟩
theorem Inv.bk(I:Inv X pins σ H s):∀b o,X.base.get? b=some o->s.heap.get? b=some o:=λ b o e=>(I.bs b o e).1
theorem Inv.mod(I:Inv X pins σ H s):Mod X.K X.mg X.base:=I.ok.mod
theorem Inv.kIn(I:Inv X pins σ H s):X.K.In s.heap:=I.ok.mod.kin.keeps I.bk
theorem Inv.fr(I:Inv X pins σ H s):∃m,Fr X.base X.env.locals s.heap m:=
 let⟨m,hn,_⟩:=I.loc
 ⟨m,hn,I.bk,Nat.le_trans I.ok.bsz I.ok.above⟩
theorem Inv.lt(I:Inv X pins σ H s):X.env.locals<s.heap.objs.size:=let⟨_,hn,_⟩:=I.loc;hn.lt
theorem Inv.sz(I:Inv X pins σ H s):X.s₀.heap.objs.size<=s.heap.objs.size:=Nat.le_trans I.ok.above (Nat.le_of_lt I.lt)
theorem Inv.nofs(I:Inv X pins σ H s){a:Addr}(h:s.heap.objs.size<=a):a∉X.fs:=λ hb=>by
 obtain⟨_,o,ho,_⟩:=I.ok.funs.mem hb;exact absurd (Nat.lt_of_lt_of_le (Heap.lt_size ho) (Nat.le_trans I.sz h)) (Nat.lt_irrefl _)
theorem Inv.cne(I:Inv X pins σ H s):∀x c,X.env.cells.lookup x=some c->c≠X.env.locals:=λ x c e z=>by
 obtain⟨v,o,ho,hd⟩:=I.cell x c e;obtain⟨m,⟨o',es,ep,ho',hd',_⟩,_⟩:=I.loc;rw[z,ho']at ho;cases ho;rw[hd']at hd;cases hd
theorem Inv.funs(I:Inv X pins σ H s):s.heap.FunFrames X.base X.outer:=by
 have all:∀(l:List Env),(∀b∈frs l,b∈X.fs)->X.s₀.heap.FunFrames X.base l->s.heap.FunFrames X.base l:=by
  intro l;induction l with
  |nil=>intro _ _;trivial
  |cons env r ih=>
   intro hs hl;obtain⟨hk,⟨L,o,hf,hn,ho,hd⟩,hr⟩:=hl;have hL:L∈X.fs:=hs L (by unfold frs;rw[List.filterMap_cons,hf];exact List.mem_cons_self);obtain⟨sl,e⟩:=I.base.slot L o ho (I.ok.frf L hL) hL λ z=>I.ok.exfs L z hL
   exact⟨hk,⟨L,_,hf,hn,e,hd⟩,ih (λ b hb=>hs b (by unfold frs;rw[List.filterMap_cons,hf];exact List.mem_cons_of_mem _ hb)) hr⟩
 exact all X.outer (λ _ hb=>hb) I.ok.funs
theorem Inv.stack(I:Inv X pins σ H s):s.heap.FunFrames X.base X.stack:=by
 rcases I.ok.stk with e|⟨e,hf⟩
 ·rw[e];exact I.funs
 ·rw[e]
  obtain⟨m,hn,_⟩:=I.loc;refine .cons (by rw[I.ok.kind];decide) hf hn ?_ I.funs;exact Heap.get?_none_of_le (Nat.le_trans I.ok.bsz I.ok.above)
theorem Inv.stkSub(I:Inv X pins σ H s):∀b∈frs X.stack,b∈X.env.locals::X.fs:=λ b hb=>by
 rcases I.ok.stk with e|⟨e,hf⟩
 ·rw[e]at hb;exact List.mem_cons_of_mem _ hb
 ·rw[e]at hb
  unfold frs at hb;rw[List.filterMap_cons,hf]at hb;exact hb
theorem Inv.stkFree(I:Inv X pins σ H s):∀b∈frs X.stack,H b=none:=λ b hb=>by
 rcases List.mem_cons.mp (I.stkSub b hb)with e|hb
 ·rw[e];exact I.free
 ·obtain⟨_,o,ho,_⟩:=I.ok.funs.mem hb
  exact I.base.free b o ho (I.ok.frf b hb) λ z=>I.ok.exfs b z hb
theorem Inv.step{g':Array GenState}{t':Nat}{d':Drawn}{ch:List Addr}(I:Inv X pins σ H s)
  (hch:∀b∈ch,(b∈X.ex\/X.s₀.heap.objs.size<=b)/\b≠X.env.locals/\(∀x c,X.env.cells.lookup x=some c->c≠b)/\∀p∈X.ta++(X.pn++pins),p.1≠b)
  (keep:∀b o,b≠X.env.locals->b∉X.fs->b∉ch->s.heap.get? b=some o->H b=none->h'.get? b=some o)
  (slot:∀b o,b≠X.env.locals->b∈X.fs->b∉ch->s.heap.get? b=some o->H b=none->∃sl,h'.get? b=some {o with slots:=sl})(free:∀b o,b∉ch->s.heap.get? b=some o->H b=none->H' b=none)
  (there:∀b o,b∉ch->s.heap.get? b=some o->∃o',h'.get? b=some o')
  (tups:∀b xs,H b=some (.tup xs)->H' b=some (.tup xs))(frzs:∀b o u,H b=some (.frz o u)->H' b=some (.frz o u))(tbls:∀b ps,H b=some (.tbl ps)->∃more,H' b=some (.tbl (ps++more)))
  (ns:∀m,s.heap.Ns X.env.locals m->h'.Ns X.env.locals m)(hok:HOk X.prog X.w H' h')(hg:AllBare g'):
  Inv X pins σ H' {s with heap:=h',gens:=g',drawn:=d',toks:=t'}:=by
 have neL:∀b o,X.s₀.heap.get? b=some o->b≠X.env.locals:=λ b o e=>Nat.ne_of_lt (Nat.lt_of_lt_of_le (Heap.lt_size e) I.ok.above)
 have neC:∀b o,X.s₀.heap.get? b=some o->b∉X.ex->b∉ch:=λ b o e hx hb=>by
  rcases(hch b hb).1 with z|z
  ·exact hx z
  ·exact absurd (Nat.lt_of_lt_of_le (Heap.lt_size e) z) (Nat.lt_irrefl _)
 have cellK:∀x c,X.env.cells.lookup x=some c->∀v,s.heap.IsCell c v->h'.IsCell c v:=λ x c e v ⟨o,ho,hd⟩=>by
  have nch:c∉ch:=λ z=>(hch c z).2.2.1 x c e rfl
  by_cases hc:c∈X.fs
  ·obtain⟨sl,q⟩:=slot c o (I.cne x c e) hc nch ho (I.freeC x c e)
   exact⟨_,q,hd⟩
  ·exact⟨o,keep c o (I.cne x c e) hc nch ho (I.freeC x c e),hd⟩
 refine⟨I.ok,I.os,hg,⟨λ b o e n hb hx=>?_,λ b o e n hb hx=>?_,λ b o e n hx=>?_,λ b o e hx=>?_,λ b xs e=>tups b xs (I.base.tups b xs e),λ b o xs e=>frzs b o xs (I.base.frzs b o xs e),λ b ps e=>?_⟩,?_,λ x c e=>?_,?_,λ x c e=>?_,λ p hp=>?_,hok,I.len,λ p hp=>?_⟩
 ·exact keep b o (neL b o e) hb (neC b o e hx) (I.base.keep b o e n hb hx) (I.base.free b o e n hx)
 ·obtain⟨sl,e1⟩:=I.base.slot b o e n hb hx
  obtain⟨sl',e2⟩:=slot b _ (neL b o e) hb (neC b o e hx) e1 (I.base.free b o e n hx);exact⟨sl',e2⟩
 ·obtain⟨o',e1⟩:=I.base.there b o e hx
  exact free b o' (neC b o e hx) e1 (I.base.free b o e n hx)
 ·obtain⟨o',e1⟩:=I.base.there b o e hx
  exact there b o' (neC b o e hx) e1
 ·obtain⟨m1,e1⟩:=I.base.tbls b ps e
  obtain⟨m2,e2⟩:=tbls b _ e1;exact⟨m1++m2,by rw[e2,Array.append_assoc]⟩
 ·obtain⟨m,hn,hl⟩:=I.loc
  refine⟨m,ns m hn,λ i x v e1 e2 e3=>?_⟩;obtain⟨u,r,l⟩:=hl i x v e1 e2 e3;refine⟨u,r,?_⟩;rcases l with l|⟨k,c,e,z⟩
  ·exact .inl l
  ·exact .inr ⟨k,c,e,cellK x c e _ z⟩
 ·obtain⟨v,z⟩:=I.cell x c e
  exact⟨v,cellK x c e v z⟩
 ·obtain⟨m,⟨o,_,_,ho,_⟩,_⟩:=I.loc
  exact free _ o (λ z=>(hch _ z).2.1 rfl) ho I.free
 ·obtain⟨v,o,ho,hd⟩:=I.cell x c e
  exact free c o (λ z=>(hch c z).2.2.1 x c e rfl) ho (I.freeC x c e)
 ·obtain⟨e,n,ne,nf,d⟩:=I.pin p hp
  have nch:p.1∉ch:=λ z=>(hch p.1 z).2.2.2 p (List.mem_append_right _ hp) rfl
  exact⟨keep p.1 p.2 ne nf nch e n,free p.1 p.2 nch e n,ne,nf,d⟩
 ·obtain⟨n,ne,nf,np,ps,e,t⟩:=I.tab p hp
  have nch:p.1∉ch:=λ z=>(hch p.1 z).2.2.2 p (List.mem_append_left _ hp) rfl
  exact⟨free p.1 _ nch e n,ne,nf,np,ps,keep p.1 _ ne nf nch e n,t.mono frzs⟩
theorem Inv.pinL(I:Inv X pins σ H s)(hp:p∈X.ta++(X.pn++pins)):p.1<s.heap.objs.size:=by
 rcases List.mem_append.mp hp with z|z
 ·obtain⟨_,_,_,_,_,e,_⟩:=I.tab p z
  exact Heap.lt_size e
 ·exact Heap.lt_size (I.pin p z).1
theorem Inv.un{t':Nat}(I:Inv X pins σ H s)(u:Un X.fs [] H H' s.heap h')(hok:HOk X.prog X.w H' h'):Inv X pins σ H' {s with heap:=h',toks:=t'}:=by
 obtain⟨m,⟨o,es,ep,ho,r⟩,_⟩:=id I.loc;obtain⟨sl,hL⟩:=u.any ho I.free (by simp);exact I.step (g':=s.gens) (d':=s.drawn) (ch:=[]) (λ _ z=>nomatch z) (λ b o _ hb _ e n=>u.keep b o e n hb (by simp)) (λ b o _ hb _ e n=>u.slot b o e n hb (by simp)) (λ b o _ e n=>u.free b o e n (by simp)) (λ b o _ e=>u.there b o e (by simp)) u.tups u.frzs u.tbls (λ m' hm=>by
  obtain⟨o',es',ep',ho',r'⟩:=hm;rw[ho]at ho';cases ho';exact⟨_,es',ep',hL,r'⟩) hok I.bare
theorem Inv.call{g':Array GenState}{t':Nat}{d':Drawn}{ch:List Addr}(I:Inv X pins σ H s)(u:Un (frs X.stack) ch H H' s.heap h')(hok:HOk X.prog X.w H' h')(hg:AllBare g')
  (hch:∀b∈ch,(b∈X.ex\/X.s₀.heap.objs.size<=b)/\b≠X.env.locals/\(∀x c,X.env.cells.lookup x=some c->c≠b)/\∀p∈X.ta++(X.pn++pins),p.1≠b):
  Inv X pins σ H' {s with heap:=h',gens:=g',drawn:=d',toks:=t'}:=by
 obtain⟨m,⟨o,es,ep,ho,r⟩,_⟩:=id I.loc;obtain⟨sl,hL⟩:=u.any ho I.free λ z=>(hch _ z).2.1 rfl
 exact I.step (ch:=ch) hch (λ b o hL hb hc e n=>u.keep b o e n (λ z=>(List.mem_cons.mp (I.stkSub b z)).elim hL hb) hc) (λ b o _ _ hc e n=>u.any e n hc) (λ b o hc e n=>u.free b o e n hc) (λ b o hc e=>u.there b o e hc) u.tups u.frzs u.tbls (λ m' hm=>by
  obtain⟨o',es',ep',ho',r'⟩:=hm;rw[ho]at ho';cases ho';exact⟨_,es',ep',hL,r'⟩) hok hg
theorem Inv.turned{t':Nat}{it:Addr}(I:Inv X pins σ H s)(k:∀b o,b≠it->s.heap.get? b=some o->h'.get? b=some o)(hn:H it=none)(hL:it≠X.env.locals)
  (h1:it∈X.ex\/X.s₀.heap.objs.size<=it)(h2:∀x c,X.env.cells.lookup x=some c->c≠it)(h3:∀p∈X.ta++(X.pn++pins),p.1≠it):Inv X pins σ H {s with heap:=h',toks:=t'}:=by
 have nit:∀b u,H b=some u->b≠it:=λ b u e z=>by rw[z,hn]at e;cases e
 refine I.step (g':=s.gens) (d':=s.drawn) (ch:=[it]) (λ b hb=>?_) (λ b o _ _ hc e _=>k b o (λ z=>hc (by simp[z])) e) (λ b o _ _ hc e _=>⟨o.slots,k b o (λ z=>hc (by simp[z])) e⟩) (λ _ _ _ _ n=>n)
  (λ b o hc e=>⟨o,k b o (λ z=>hc (by simp[z])) e⟩) (λ _ _ e=>e) (λ _ _ _ e=>e) (λ b ps e=>⟨#[],by rw[e];simp⟩) (λ m hm=>?_) (λ b u e=>?_) I.bare
 ·have e:b=it:=by simpa using hb
  subst e;exact⟨h1,hL,h2,h3⟩
 ·obtain⟨o,es,ep,ho,r⟩:=hm
  exact⟨o,es,ep,k _ o (Ne.symm hL) ho,r⟩
 ·refine(I.hok b u e).stay (λ c v hc q=>k c v ?_ q) (λ _ q=>q) λ _ _ q=>q
  rcases hc with z|z
  ·rw[z];exact nit b u e
  ·exact nit c _ z
theorem Inv.tok(I:Inv X pins σ H s)(t:Nat):Inv X pins σ H {s with toks:=t}:=I.un (h':=s.heap) (t':=t) Un.refl I.hok
theorem Inv.kept{t':Nat}(I:Inv X pins σ H s)(k:∀b u,s.heap.get? b=some u->h'.get? b=some u):Inv X pins σ H {s with heap:=h',toks:=t'}:=I.un (Un.kept k) (I.hok.kept k)
theorem Inv.laid{a:Addr}{o:HO}{t':Nat}(I:Inv X pins σ H s)(k:∀b u,s.heap.get? b=some u->h'.get? b=some u)(hp:s.heap.objs.size<=a)(new:dZ X.prog X.w (upd H a o) h' a o):
  Inv X pins σ (upd H a o) {s with heap:=h',toks:=t'}:=I.un (Un.laid k hp (I.hok.fresh hp)) (I.hok.laid k hp new)
theorem Inv.write{x e:Addr}{o:HO}{t':Nat}(I:Inv X pins σ H s)(mu:Mut (H x))(he:e=x\/H e=some (.own x))(k:∀b u,b≠e->s.heap.get? b=some u->h'.get? b=some u)(heo:∃u,h'.get? e=some u)
  (new:dZ X.prog X.w (upd H x o) h' x o):Inv X pins σ (upd H x o) {s with heap:=h',toks:=t'}:=I.un (Un.write mu he k heo) (I.hok.write mu he k heo new)
theorem Inv.weak{σ':List (Option V)}(I:Inv X pins σ H s)(hl:σ'.length=σ.length)(w:∀(i:Nat) v,σ'[i]? =some (some v)->σ[i]? =some (some v)):Inv X pins σ' H s:=
 ⟨I.ok,I.os,I.bare,I.base,let⟨m,hn,hl'⟩:=I.loc;⟨m,hn,λ i x v e1 e2 e3=>hl' i x v e1 (w i v e2) e3⟩,I.cell,I.free,I.freeC,I.pin,I.hok,hl.trans I.len,I.tab⟩
theorem Inv.pins_of{pins':List (Addr×Obj)}(I:Inv X pins σ H s)(h:∀p∈pins',s.heap.get? p.1=some p.2/\H p.1=none/\p.1≠X.env.locals/\p.1∉X.fs/\∀v,p.2.data≠.cell v)(h2:∀q∈pins',∀p∈X.ta,q.1≠p.1):Inv X pins' σ H s:=
 ⟨I.ok,I.os,I.bare,I.base,I.loc,I.cell,I.free,I.freeC,λ p hp=>(List.mem_append.mp hp).elim (λ z=>I.pin p (List.mem_append_left _ z)) (h p),I.hok,I.len,λ p hp=>let⟨a,b,c,d,e⟩:=I.tab p hp;⟨a,b,c,λ q hq=>(List.mem_append.mp hq).elim (λ z=>d q (List.mem_append_left _ z)) (λ z=>h2 q z p hp),e⟩⟩
theorem wG{N:List Str}(hN:N.Nodup){i j:Nat}{x:Str}(a:N[i]? =some x)(b:N[j]? =some x):i=j:=by
 obtain⟨h1,e1⟩:=List.getElem?_eq_some_iff.mp a;obtain⟨h2,e2⟩:=List.getElem?_eq_some_iff.mp b;exact(List.getElem_inj hN).mp (e1.trans e2.symm)
theorem ye{M:Model}{A:Around}{E:Value->Shared->Prop}{i:Nat}{x:Str}{v:V}{u:Value}{Q:Unit->Shared->Prop}(I:Inv X pins σ H s)(hN:X.N.Nodup)(hi:X.N[i]? =some x)(hx:Loc X.env.scope x)(r:RelV v u)
  (h:∀s',Inv X pins (σ.set i (some v)) H s'->(∃a,Heap.SameBut a s.heap s'.heap/\(a=X.env.locals\/X.env.cells.lookup x=some a))->Q () s')(hf:X.fn x=true\/X.env.scope.names.lookup x=some .local:=by first|exact .inl rfl|exact .inr rfl|assumption):wpAny M A (storeName X.env x u) Q E s:=by
 obtain⟨m,hn,hl⟩:=id I.loc;have hcls:(X.env.scope.kind== .class||(X.env.scope.kind== .module&&X.env.locals !=X.env.globals))=false:=by rw[I.ok.kind];rfl
 have hiσ:i<σ.length:=by rw[I.len];exact(List.getElem?_eq_some_iff.mp hi).1
 have cne:=I.cne;have tracked:∀{a:Addr} {h':Heap},(∃o,s.heap.get? a=some o/\H a=none)->Heap.SameBut a s.heap h'->HOk X.prog X.w H h':=λ{a h'} ha hs b ob e=>by
  obtain⟨_,_,hfree⟩:=ha;refine(I.hok b ob e).stay (λ c w' hc q=>(hs.2 c ?_).trans q) (λ _ q=>q) λ _ _ q=>q
  rintro rfl;rcases hc with rfl|hc
  ·rw[hfree]at e;cases e
  ·rw[hfree]at hc;cases hc
 rcases hx with hk|hk
 ·refine wpAny_storeName_local hk hn (λ h' hn' hs=>?_) hcls
  obtain⟨oL,_,_,hoL,_⟩:=id hn;refine h _ ⟨I.ok,I.os,I.bare,⟨λ b o e n hb hx=>?_,λ b o e n hb hx=>?_,I.base.free,λ b o e hx=>?_,I.base.tups,I.base.frzs,I.base.tbls⟩,⟨_,hn',λ j y v' e1 e2 e3=>?_⟩,λ y c e=>?_,I.free,I.freeC,λ p hp=>?_,tracked ⟨oL,hoL,I.free⟩ hs,by simpa using I.len,λ p hp=>?_⟩ ⟨_,hs,.inl rfl⟩
  ·exact(hs.2 b (Nat.ne_of_lt (Nat.lt_of_lt_of_le (Heap.lt_size e) I.ok.above))).trans (I.base.keep b o e n hb hx)
  ·obtain⟨sl,e1⟩:=I.base.slot b o e n hb hx
   exact⟨sl,(hs.2 b (Nat.ne_of_lt (Nat.lt_of_lt_of_le (Heap.lt_size e) I.ok.above))).trans e1⟩
  ·obtain⟨o',e1⟩:=I.base.there b o e hx
   exact⟨o',(hs.2 b (Nat.ne_of_lt (Nat.lt_of_lt_of_le (Heap.lt_size e) I.ok.above))).trans e1⟩
  ·by_cases hj:j=i
   ·subst hj
    rw[hi]at e1;cases e1;rw[List.getElem?_set_self hiσ]at e2;cases e2;exact⟨u,r,.inl ⟨hk,by simp⟩⟩
   ·rw[List.getElem?_set_ne (Ne.symm hj)]at e2
    obtain⟨u',r',q⟩:=hl j y v' e1 e2 e3;refine⟨u',r',?_⟩;rcases q with ⟨k,e⟩|⟨k,c,e,z⟩
    ·refine .inl ⟨k,?_⟩
     have:y≠x:=λ e=>hj (wG hN e1 (e▸hi))
     simp[this,e]
    ·exact .inr ⟨k,c,e,z.sameBut hs (cne y c e)⟩
  ·obtain⟨w',z⟩:=I.cell y c e
   exact⟨w',z.sameBut hs (cne y c e)⟩
  ·obtain⟨e,n,ne,nf,d⟩:=I.pin p hp
   exact⟨(hs.2 p.1 ne).trans e,n,ne,nf,d⟩
  ·obtain⟨n,ne,nf,np,ps,e,t⟩:=I.tab p hp
   exact⟨n,ne,nf,np,ps,(hs.2 p.1 ne).trans e,t⟩
 ·have hfn:X.fn x=true:=by
   rcases hf with z|z
   ·exact z
   ·rw[z]at hk;cases hk
  obtain⟨c,hc⟩:=I.ok.has x (.inl hk);obtain⟨w',z⟩:=I.cell x c hc;refine wpAny_storeName_cell I.ok.kind hk hc z (λ h' hc' hs=>?_);obtain⟨oc,hoc,hocd⟩:=id z;refine h {s with heap:=h'} ⟨I.ok,I.os,I.bare,⟨λ b o e n hb hx=>?_,λ b o e n hb hx=>?_,I.base.free,λ b o e hx=>?_,I.base.tups,I.base.frzs,I.base.tbls⟩,⟨m,hn.sameBut hs (Ne.symm (cne x c hc)),λ j y v' e1 e2 e3=>?_⟩,λ y c' e=>?_,I.free,I.freeC,λ p hp=>?_,tracked ⟨oc,hoc,I.freeC x c hc⟩ hs,by simpa using I.len,λ p hp=>?_⟩ ⟨c,hs,.inr hc⟩
  ·exact(hs.2 b (Nat.ne_of_lt (Nat.lt_of_lt_of_le (Heap.lt_size e) (I.ok.cab x c hfn hc)))).trans (I.base.keep b o e n hb hx)
  ·obtain⟨sl,e1⟩:=I.base.slot b o e n hb hx
   exact⟨sl,(hs.2 b (Nat.ne_of_lt (Nat.lt_of_lt_of_le (Heap.lt_size e) (I.ok.cab x c hfn hc)))).trans e1⟩
  ·obtain⟨o',e1⟩:=I.base.there b o e hx
   exact⟨o',(hs.2 b (Nat.ne_of_lt (Nat.lt_of_lt_of_le (Heap.lt_size e) (I.ok.cab x c hfn hc)))).trans e1⟩
  ·by_cases hj:j=i
   ·subst hj
    rw[hi]at e1;cases e1;rw[List.getElem?_set_self hiσ]at e2;cases e2;exact⟨u,r,.inr ⟨.inl hk,c,hc,hc'⟩⟩
   ·rw[List.getElem?_set_ne (Ne.symm hj)]at e2
    obtain⟨u',r',q⟩:=hl j y v' e1 e2 e3;refine⟨u',r',?_⟩;rcases q with q|⟨k,c',e,z'⟩
    ·exact .inl q
    ·refine .inr ⟨k,c',e,z'.sameBut hs ?_⟩
     rintro rfl;exact hj (wG hN e1 (I.ok.inj _ _ _ e hc▸hi))
  ·by_cases hcc:c'=c
   ·subst hcc;exact⟨_,hc'⟩
   ·obtain⟨w2,z2⟩:=I.cell y c' e
    exact⟨w2,z2.sameBut hs hcc⟩
  ·obtain⟨e,n,ne,nf,d⟩:=I.pin p hp
   refine⟨(hs.2 p.1 ?_).trans e,n,ne,nf,d⟩;intro q;rw[q,hoc]at e;have q':oc=p.2:=Option.some.inj e;exact d w' (by rw[<-q'];exact hocd)
  ·obtain⟨n,ne,nf,np,ps,e,t⟩:=I.tab p hp
   refine⟨n,ne,nf,np,ps,(hs.2 p.1 ?_).trans e,t⟩;intro q;rw[q,hoc]at e;rw[Option.some.inj e]at hocd;cases hocd
theorem v6{M:Model}{A:Around}{E:Value->Shared->Prop}{i:Nat}{x:Str}{v:V}{u:Value}{Q:Unit->Shared->Prop}(I:Inv X pins σ H s)(hN:X.N.Nodup)(hi:X.N[i]? =some x)(hx:Loc X.env.scope x)(r:RelV v u)
  (h:∀s',Inv X pins (σ.set i (some v)) H s'->Q () s')(hf:X.fn x=true\/X.env.scope.names.lookup x=some .local:=by first|exact .inl rfl|exact .inr rfl|assumption):wpAny M A (storeName X.env x u) Q E s:=
 ye I hN hi hx r (λ s' I' _=>h s' I') hf
theorem Inv.call'{s':Shared}{ch:List Addr}(I:Inv X pins σ H s)(ho:s'.os=s.os)(u:Un (frs X.stack) ch H H' s.heap s'.heap)(hok:HOk X.prog X.w H' s'.heap)(hg:AllBare s'.gens)
  (hch:∀b∈ch,(b∈X.ex\/X.s₀.heap.objs.size<=b)/\b≠X.env.locals/\(∀x c,X.env.cells.lookup x=some c->c≠b)/\∀p∈X.ta++(X.pn++pins),p.1≠b):Inv X pins σ H' s':=by
 obtain⟨h',g',d',t',o'⟩:=s';have e:o'=s.os:=ho;subst e;exact I.call (g':=g') (t':=t') (d':=d') u hok hg hch
end
abbrev XK:=Value->Option Addr->Hp->Prop
abbrev St:=List (Option V)
abbrev VK:=V->Hp->Prop
abbrev TE:=St->Hp->VK->Prop
abbrev TT:=St->Hp->(Bool->Hp->Prop)->Prop
abbrev TA:=St->Hp->(List V->Hp->Prop)->Prop
structure Ends where
 nx:St->Hp->Prop
 rt:VK
 bk:St->Hp->Prop:=λ _ _=>False
 ct:St->Hp->Prop:=λ _ _=>False
abbrev TS:=Ends->St->Hp->Prop
def EP(X:Cx)(pins:List (Addr×Obj))(σ:St)(Q:VK)(u:Value)(s':Shared):Prop:=∃v H',Inv X pins σ H' s'/\RelV v u/\Q v H'
def TP(X:Cx)(pins:List (Addr×Obj))(σ:St)(Q:Bool->Hp->Prop)(b:Bool)(s':Shared):Prop:=∃H',Inv X pins σ H' s'/\Q b H'
def AP(X:Cx)(pins:List (Addr×Obj))(σ:St)(Q:List V->Hp->Prop)(us:List Value)(s':Shared):Prop:=∃vs H',Inv X pins σ H' s'/\Vals vs us/\Q vs H'
def SP(X:Cx)(pins:List (Addr×Obj))(D:Ends)(f:Flow)(s':Shared):Prop:=
 match f with
 | .next=>∃σ' H',Inv X pins σ' H' s'/\D.nx σ' H'
 | .brk=>∃σ' H',Inv X pins σ' H' s'/\D.bk σ' H'
 | .cont=>∃σ' H',Inv X pins σ' H' s'/\D.ct σ' H'
 | .ret u=>∃v σ' H',Inv X pins σ' H' s'/\RelV v u/\D.rt v H'
def PE(X:Cx)(e:Expr)(t:TE):Prop:=
 ∀(pins:List (Addr×Obj)) (s:Shared) (σ:St) (H:Hp) (Q:VK),Inv X pins σ H s->t σ H Q->wpAny (model X.prog X.w) X.A (eval e X.env) (EP X pins σ Q) X.xe s
def PT(X:Cx)(e:Expr)(t:TT):Prop:=
 ∀(pins:List (Addr×Obj)) (s:Shared) (σ:St) (H:Hp) (Q:Bool->Hp->Prop),Inv X pins σ H s->t σ H Q->wpAny (model X.prog X.w) X.A (isTrue e X.env (eval e X.env)) (TP X pins σ Q) X.xe s
def PW(X:Cx)(e:Expr)(t:TT):Prop:=
 ∀(whole:Sem Value) (pins:List (Addr×Obj)) (s:Shared) (σ:St) (H:Hp) (Q:Bool->Hp->Prop),Inv X pins σ H s->t σ H Q->wpAny (model X.prog X.w) X.A (isTrue e X.env whole) (TP X pins σ Q) X.xe s
theorem PW.pt{X:Cx}{e:Expr}{t:TT}(h:PW X e t):PT X e t:=h _
def PA(X:Cx)(es:List Expr)(t:TA):Prop:=
 ∀(pos:Pos) (pins:List (Addr×Obj)) (s:Shared) (σ:St) (H:Hp) (Q:List V->Hp->Prop),Inv X pins σ H s->t σ H Q->wpAny (model X.prog X.w) X.A (spliced (backTo pos (starEach es X.env))) (AP X pins σ Q) X.xe s
def PS(X:Cx)(st:Stmt)(t:TS):Prop:=
 ∀(pins:List (Addr×Obj)) (s:Shared) (σ:St) (H:Hp) (D:Ends),Inv X pins σ H s->t D σ H->wpAny (model X.prog X.w) X.A (exec st X.env) (SP X pins D) X.xe s
def PSs(X:Cx)(st:List Stmt)(t:TS):Prop:=
 ∀(pins:List (Addr×Obj)) (s:Shared) (σ:St) (H:Hp) (D:Ends),Inv X pins σ H s->t D σ H->wpAny (model X.prog X.w) X.A (execs st X.env) (SP X pins D) X.xe s
theorem thn{α:Type}{t:Sem α}{Q Q':α->Shared->Prop}{M:Model}{A:Around}{E:Value->Shared->Prop}{s:Shared}(h:wpAny M A t Q E s)(hQ:∀a s,Q a s->Q' a s):wpAny M A t Q' E s:=wpAny_mono h hQ λ _ _ x=>x
section
variable{X:Cx}
theorem bin{a b:Expr}{ta tb:TE}(ha:PE X a ta)(hb:PE X b tb){pins:List (Addr×Obj)}{s:Shared}{σ:St}{H:Hp}{R:V->V->Hp->Prop}(I:Inv X pins σ H s)(h:ta σ H λ x H1=>tb σ H1 λ y H2=>R x y H2)
  {α:Type}{Q:α->Shared->Prop}{f:Value->Value->Sem α}
  (hf:∀v u s2 x y H2,Inv X pins σ H2 s2->RelV x v->RelV y u->R x y H2->wpAny (model X.prog X.w) X.A (f v u) Q X.xe s2):
  wpAny (model X.prog X.w) X.A (eval a X.env) (λ v s₁=>wpAny (model X.prog X.w) X.A (eval b X.env) (λ u s₂=>wpAny (model X.prog X.w) X.A (f v u) Q X.xe s₂) X.xe s₁) X.xe s:=by
 refine thn (ha pins s σ H _ I h) λ v s1 ⟨x,H1,I1,r1,q1⟩=>?_
 refine thn (hb pins s1 σ H1 _ I1 q1) λ u s2 ⟨y,H2,I2,r2,q2⟩=>?_
 exact hf v u s2 x y H2 I2 r1 r2 q2
def n8(i:Nat):TE:=λ σ H Q=>∃v,σ[i]? =some (some v)/\Q v H
def tC(v:V):TE:=λ _ H Q=>Q v H
theorem iK{i:Nat}{x:Str}{pos:Pos}(hN:X.N[i]? =some x)(hv:Vis X.env.scope x)(hd:(x==("__debug__":Str))=false:=by decide)(hcd:(x==("__classdict__":Str))=false:=by decide):PE X (.Name x pos) (n8 i):=by
 intro pins s σ H Q I h;obtain⟨v,e,h⟩:=h;obtain⟨m,hn,hl⟩:=I.loc;obtain⟨u,r,l⟩:=hl i x v hN e hv;have fin:EP X pins σ Q u s:=⟨v,H,I,r,h⟩;rcases l with ⟨hk,hm⟩|⟨hk,c,hc,hcell⟩
 ·exact wpAny_Name (wpAny_loadName_local I.ok.kind hk hn hm fin) hd
 ·rcases hk with hk|hk
  ·exact wpAny_Name (wpAny_loadName_cell I.ok.kind hk hc hcell fin) hd
  ·exact wpAny_Name (wpAny_loadName_free I.ok.kind hk hc hcell fin hcd) hd
theorem aC2{i j pos}:PE X (.Constant (.int i) j pos) (tC (.int i)):=λ _ _ _ H _ I h=>wpAny_Constant_int ⟨.int i,H,I.tok _,⟨_,rfl⟩,h⟩
theorem aFh{b j pos}:PE X (.Constant (.bool b) j pos) (tC (.bl b)):=λ _ _ _ H _ I h=>Constant_bool ⟨.bl b,H,I,rfl,h⟩
theorem aJh{j pos}:PE X (.Constant .none j pos) (tC .non):=λ _ _ _ H _ I h=>Constant_none ⟨.non,H,I,rfl,h⟩
theorem gF{x j pos}:PE X (.Constant (.str x) j pos) (tC (.str x)):=λ _ _ _ H _ I h=>Calls.Constant_str ⟨.str x,H,I.tok _,⟨_,rfl⟩,h⟩
def Gl(X:Cx)(x:Str):Prop:=X.env.kindOf x=some .globalImplicit
theorem pG{E:Value->Shared->Prop}{pins:List (Addr×Obj)}{s:Shared}{σ:St}{H:Hp}{x:Str}{u:Value}{pos:Pos}{Q:Value->Shared->Prop}(I:Inv X pins σ H s)(hg:Gl X x)(hm:X.mg x=some u)(h:Q u s)
  (hd:(x==("__debug__":Str))=false:=by decide):wpAny (model X.prog X.w) X.A (eval (.Name x pos) X.env) Q E s:=
 Calls.Name_function_global I.ok.kind hg (Calls.loadGlobal_global (by rw[I.ok.glob];exact I.mod.glob.keeps I.bk) hm h) hd
theorem tU{E:Value->Shared->Prop}{pins:List (Addr×Obj)}{s:Shared}{σ:St}{H:Hp}{x:Str}{u:Value}{pos:Pos}{Q:Value->Shared->Prop}(I:Inv X pins σ H s)(hg:Gl X x)(hm:X.mg x=none)(hv:bootBuiltins x=some u)(h:Q u s)
  (hn:x≠"__name__":=by decide)(hd:(x==("__debug__":Str))=false:=by decide):wpAny (model X.prog X.w) X.A (eval (.Name x pos) X.env) Q E s:=by
 obtain⟨mb,h1,h2⟩:=I.mod.blt;exact Calls.Name_function_global I.ok.kind hg (Calls.loadGlobal_builtin (by rw[I.ok.glob];exact I.mod.glob.keeps I.bk) hm (by rw[I.ok.blt];exact h1.keeps I.bk) ((h2 x hn).trans hv) h) hd
theorem fJ{x:Str}{v:V}{u:Value}{pos:Pos}(hg:Gl X x)(hm:X.mg x=some u)(r:RelV v u)(hd:(x==("__debug__":Str))=false:=by decide):PE X (.Name x pos) (tC v):=
 λ _ _ _ H _ I h=>pG I hg hm ⟨v,H,I,r,h⟩ hd
theorem aDX{x:Str}{v:V}{u:Value}{pos:Pos}(hg:Gl X x)(hm:X.mg x=none)(hv:bootBuiltins x=some u)(r:RelV v u)(hn:x≠"__name__":=by decide)(hd:(x==("__debug__":Str))=false:=by decide):PE X (.Name x pos) (tC v):=
 λ _ _ _ H _ I h=>tU I hg hm hv ⟨v,H,I,r,h⟩ hn hd
def t2I(ta tb:TE)(k:Int->Int->Hp->Prop):St->Hp->Prop:=λ σ H=>ta σ H λ x H1=>tb σ H1 λ y H2=>∃i j,x= .int i/\y= .int j/\k i j H2
variable{a b:Expr}{ta tb:TE}{pos:Pos}
def PC(X:Cx)(op:CmpOp)(a b:Expr)(t:TE):Prop:=
 ∀(pins:List (Addr×Obj)) (s:Shared) (σ:St) (H:Hp) (Q:VK),Inv X pins σ H s->t σ H Q->
  wpAny (model X.prog X.w) X.A (eval a X.env) (λ v s₁=>wpAny (model X.prog X.w) X.A (eval b X.env) (λ u s₂=>wpAny (model X.prog X.w) X.A (compareOp op v u) (EP X pins σ Q) X.xe s₂) X.xe s₁) X.xe s
theorem aFq(b:Expr){op:CmpOp}(h:op≠.In)(h2:op≠.NotIn):behindInMarks op b=false:=by
 have e1:(op==CmpOp.In)=false:=by cases op<;>first|rfl|exact absurd rfl h
 have e2:(op==CmpOp.NotIn)=false:=by cases op<;>first|rfl|exact absurd rfl h2
 cases b<;>simp[behindInMarks,e1,e2]
def aLD(p:Int->Int->Bool)(ta tb:TE):TE:=λ σ H Q=>t2I ta tb (λ i j H2=>Q (.bl (p i j)) H2) σ H
abbrev aLq:TE->TE->TE:=aLD λ i j=>!decide (i=j)
theorem aJp{op:CmpOp}{p:Int->Int->Bool}(ha:PE X a ta)(hb:PE X b tb)
  (rule:∀(i j:Int) (t u:Tok) (Q:Value->Shared->Prop) (s:Shared),Q (.bool (p i j)) s->wpAny (model X.prog X.w) X.A (compareOp op (.int i t) (.int j u)) Q X.xe s):PC X op a b (aLD p ta tb):=by
 intro pins s σ H Q I h;refine bin ha hb I h λ v u s2 x y H2 I2 rx ry q=>?_
 obtain⟨i,j,rfl,rfl,q⟩:=q;obtain⟨t,rfl⟩:=rx;obtain⟨t',rfl⟩:=ry;exact rule i j t t' _ s2 ⟨.bl _,H2,I2,rfl,q⟩
theorem aJo(ha:PE X a ta)(hb:PE X b tb):PC X .NotEq a b (aLq ta tb):=aJp ha hb λ _ _ _ _ _ _ h=>ne_int (by rw[bne,Bool.beq_eq_decide_eq];exact h)
def tB(t:TE):TT:=λ σ H Q=>t σ H λ x H1=>∃c,x= .bl c/\Q c H1
theorem aJ5{op:CmpOp}{t:TE}(h:PC X op a b t)(h1:behindInMarks op b=false:=by first|exact aFq _ (by decide) (by decide)|rfl):PT X (.Compare a [op] [b] pos) (tB t):=by
 intro pins s σ H Q I hw;refine wpAny_isTrue_Compare1 (thn (h pins s σ H _ I hw) λ v s1 h1=>thn h1 λ u s2 h2=>thn h2 λ c s3 ⟨x,H1,I1,r1,q1⟩=>?_) h1;obtain⟨d,rfl,q⟩:=q1;cases r1;exact wpAny_truthy_bool ⟨H1,I1,q⟩
theorem aF2{e:Expr}{t:TE}(h:PE X e t)(he:∀whole,isTrue e X.env whole=(do let v <-whole;standAt e.pos;holding [v] (truthy v)):=by intro _;rfl):PT X e (tB t):=by
 intro pins s σ H Q I hw;refine isTrue_plain (thn (h pins s σ H _ I hw) λ v s1 ⟨x,H1,I1,r1,q1⟩=>?_) (he _);obtain⟨d,rfl,q⟩:=q1;cases r1;exact wpAny_truthy_bool ⟨H1,I1,q⟩
variable{tA tB':TT}{rest:List Expr}
def aLv(t u:TT):TT:=λ σ H Q=>t σ H λ c H1=>if c=true then u σ H1 Q else Q false H1
def tOr(t u:TT):TT:=λ σ H Q=>t σ H λ c H1=>if c=true then Q true H1 else u σ H1 Q
def aLp(t:TT):TT:=λ σ H Q=>t σ H λ c H1=>Q (!c) H1
theorem aH0(ha:PT X a tA):PW X (.BoolOp .And [a] pos) tA:=by
 intro wh pins s σ H Q I h;refine isTrue_and (thn (ha pins s σ H Q I h) λ c s1 e=>?_);cases c with
 |true=>exact isTrue_and_nil e
 |false=>exact e
theorem aF1(ha:PT X a tA):PW X (.BoolOp .Or [a] pos) tA:=by
 intro wh pins s σ H Q I h;refine isTrue_or (thn (ha pins s σ H Q I h) λ c s1 e=>?_);cases c with
 |false=>exact isTrue_or_nil e
 |true=>exact e
theorem aJ4(ha:PT X a tA)(hb:PW X (.BoolOp .And (b::rest) pos) tB'):PW X (.BoolOp .And (a::b::rest) pos) (aLv tA tB'):=by
 intro wh pins s σ H Q I h;refine isTrue_and (thn (ha pins s σ H _ I h) λ c s1 ⟨H1,I1,q1⟩=>?_);cases c with
 |true=>exact hb wh pins s1 σ H1 Q I1 q1
 |false=>exact⟨H1,I1,q1⟩
theorem aIq(ha:PT X a tA)(hb:PW X (.BoolOp .Or (b::rest) pos) tB'):PW X (.BoolOp .Or (a::b::rest) pos) (tOr tA tB'):=by
 intro wh pins s σ H Q I h;refine isTrue_or (thn (ha pins s σ H _ I h) λ c s1 ⟨H1,I1,q1⟩=>?_);cases c with
 |true=>exact⟨H1,I1,q1⟩
 |false=>exact hb wh pins s1 σ H1 Q I1 q1
theorem aCZ(ha:PT X a tA):PT X (.UnaryOp .Not a pos) (aLp tA):=by
 intro pins s σ H Q I h;exact isTrue_not (ha pins s σ H (λ c H1=>Q (!c) H1) I h)
def aLF(ta tb:TE):TE:=λ σ H Q=>ta σ H λ x H1=>∃c,x= .bl c/\if c=true then tb σ H1 Q else Q (.bl false) H1
def aLB(ta:TE):TE:=λ σ H Q=>ta σ H λ x H1=>∃c,x= .bl c/\Q (.bl (!c)) H1
theorem aJf{op}{t:TE}(h:PE X a t):PE X (.BoolOp op [a] pos) t:=λ pins s σ H Q I hw=>BoolOp_one (h pins s σ H Q I hw)
theorem aJk(ha:PE X a ta)(hb:PE X (.BoolOp .And (b::rest) pos) tb):PE X (.BoolOp .And (a::b::rest) pos) (aLF ta tb):=by
 intro pins s σ H Q I h;refine BoolOp_and (thn (ha pins s σ H _ I h) λ v s1 ⟨x,H1,I1,r1,q1⟩=>?_);obtain⟨c,rfl,q1⟩:=q1;cases r1;refine wpAny_truthy_bool ?_;cases c with
 |true=>exact hb pins s1 σ H1 Q I1 q1
 |false=>exact⟨.bl false,H1,I1,rfl,q1⟩
theorem aJg(ha:PE X a ta):PE X (.UnaryOp .Not a pos) (aLB ta):=by
 intro pins s σ H Q I h;refine UnaryOp_ (thn (ha pins s σ H _ I h) λ v s1 ⟨x,H1,I1,r1,q1⟩=>?_);obtain⟨c,rfl,q1⟩:=q1;cases r1;exact not_of (wpAny_truthy_bool ⟨.bl (!c),H1,I1,rfl,q1⟩)
end
def SqL(K:PySem.W.Frag)(H:Hp)(a:Addr)(xs:List V):Prop:=
 Rd H a (.lst xs)\/
  ∃(o:Obj) (its:Array Value) (n:Nat),K.lookup a=some o/\o.cls= .type "list"/\o.dict=none/\o.data= .seq its n/\its.size<=sizeLine/\Vals xs its.toList
def SqT(K:PySem.W.Frag)(H:Hp)(a:Addr)(xs:List V):Prop:=
 Rd H a (.tup xs)\/
  ∃(o:Obj) (its:Array Value) (n:Nat),K.lookup a=some o/\o.cls= .type "tuple"/\o.data= .seq its n/\its.size<=sizeLine/\Vals xs its.toList
def aMD:Value->Option V
 | .none=>some .non
 | .bool b=>some (.bl b)
 | .int i _=>some (.int i)
 | .str x _=>some (.str x)
 | .bytes b _=>some (.byt b)
 | .float b _=>some (.flt b)
 | .ref a=>some (.ref a)
 | .type n=>some (.ty n)
 |_=>none
theorem RelV.abs{x:V}{u:Value}(r:RelV x u):aMD u=some x:=by
 cases x with
 |non=>cases r;rfl
 |bl _=>cases r;rfl
 |int _=>obtain⟨t,rfl⟩:=r;rfl
 |str _=>obtain⟨t,rfl⟩:=r;rfl
 |byt _=>obtain⟨t,rfl⟩:=r;rfl
 |flt _=>obtain⟨t,rfl⟩:=r;rfl
 |ref _=>cases r;rfl
 |ty _=>cases r;rfl
theorem RelV.inj{x y:V}{u:Value}(r:RelV x u)(q:RelV y u):x=y:=Option.some.inj (r.abs.symm.trans q.abs)
theorem Vals.inj:∀{xs ys:List V} {us:List Value},Vals xs us->Vals ys us->xs=ys
 |_,_,_,.nil,.nil=>rfl
 |_,_,_,.cons r t,.cons r' t'=>by rw[r.inj r',Vals.inj t t']
section
variable{X:Cx}{pins:List (Addr×Obj)}{σ:St}{H:Hp}{s:Shared}{a:Addr}{xs ys:List V}
theorem SqL.of{K:PySem.W.Frag}(h:H a=some (.lst xs)):SqL K H a xs:=.inl (.inl h)
theorem SqT.of{K:PySem.W.Frag}(h:H a=some (.tup xs)):SqT K H a xs:=.inl (.inl h)
theorem Inv.list(I:Inv X pins σ H s)(h:SqL X.K H a xs):∃its:List Value,Vals xs its/\PlainL s.heap a its.toArray/\xs.length<=sizeLine:=by
 rcases h with h|⟨o,its,n,hk,hc,hd,hs,hz,r⟩
 ·obtain⟨z,its,n,r,e⟩:=h.ok I.hok
  exact⟨its,r,⟨_,n,e,rfl,rfl,rfl⟩,z⟩
 ·refine⟨its.toList,r,⟨o,n,I.kIn a o hk,hc,hd,by simpa using hs⟩,?_⟩
  have e:=r.length;simp only[Array.length_toList]at e;omega
theorem Inv.tuple(I:Inv X pins σ H s)(h:SqT X.K H a xs):∃its:List Value,Vals xs its/\IsTup s.heap a its.toArray/\xs.length<=sizeLine:=by
 rcases h with h|⟨o,its,n,hk,hc,hs,hz,r⟩
 ·obtain⟨z,its,r,p⟩:=h.ok I.hok
  exact⟨its,r,p,z⟩
 ·refine⟨its.toList,r,⟨o,I.kIn a o hk,hc,n,by simpa using hs⟩,?_⟩
  have e:=r.length;simp only[Array.length_toList]at e;omega
theorem Inv.list_inj(I:Inv X pins σ H s)(h:SqL X.K H a xs)(h':SqL X.K H a ys):xs=ys:=by
 obtain⟨its,r,⟨o,n,e,_,_,d⟩,_⟩:=I.list h;obtain⟨its',r',⟨o',n',e',_,_,d'⟩,_⟩:=I.list h';rw[e]at e';cases e';rw[d]at d';injection d' with d1 _
 have:its=its':=by simpa using congrArg Array.toList d1
 subst this;exact r.inj r'
theorem Inv.tuple_inj(I:Inv X pins σ H s)(h:SqT X.K H a xs)(h':SqT X.K H a ys):xs=ys:=by
 obtain⟨its,r,⟨o,e,_,n,d⟩,_⟩:=I.tuple h;obtain⟨its',r',⟨o',e',_,n',d'⟩,_⟩:=I.tuple h';rw[e]at e';cases e';rw[d]at d';injection d' with d1 _
 have:its=its':=by simpa using congrArg Array.toList d1
 subst this;exact r.inj r'
end
section
variable{X:Cx}{pins:List (Addr×Obj)}{σ:St}{H:Hp}{s:Shared}{E:Value->Shared->Prop}
end
section
variable{X:Cx}{st:Stmt}{rest:List Stmt}{t u:TS}{e:Expr}{te:TE}{pos:Pos}
def aLC:TS:=λ D σ H=>D.nx σ H
def aLo(t u:TS):TS:=λ D σ H=>t {D with nx:=u D} σ H
theorem aAH:PSs X [] aLC:=λ _ _ σ H _ I h=>wpAny_execs_nil ⟨σ,H,I,h⟩
theorem gK(h1:PS X st t)(h2:PSs X rest u):PSs X (st::rest) (aLo t u):=by
 intro pins s σ H D I h;refine wpAny_execs_cons (thn (h1 pins s σ H {D with nx:=u D} I h) λ f s1 q=>?_);cases f with
 |next=>
  obtain⟨σ',H',I',q⟩:=q;exact h2 pins s1 σ' H' D I' q
 |ret v=>exact q
 |brk=>exact q
 |cont=>exact q
theorem nC(h1:PS X st t):PSs X [st] t:=by
 intro pins s σ H D I h;refine wpAny_execs_cons (thn (h1 pins s σ H D I h) λ f s1 q=>?_);cases f with
 |next=>exact wpAny_execs_nil q
 |ret v=>exact q
 |brk=>exact q
 |cont=>exact q
theorem Inv.quiet{pins:List (Addr×Obj)}{σ:St}{H:Hp}{s:Shared}(I:Inv X pins σ H s):interactive X.env=false:=by simp[interactive,I.ok.kind]
def v4(te:TE):TS:=λ D σ H=>te σ H λ _ H1=>D.nx σ H1
theorem pB(he:PE X e te)(hs:swapsWith e none pos.line X.env=pure false:=by rfl):PS X (.Expr e pos) (v4 te):=by
 intro pins s σ H D I h;exact wpAny_Expr_any (thn (he pins s σ H _ I h) λ v s1 ⟨x,H1,I1,r1,q1⟩=>⟨σ,H1,I1,q1⟩) I.quiet hs
def aJN(te:TE):TS:=λ D σ H=>te σ H D.rt
theorem wC(he:PE X e te):PS X (.Return (some e) pos) (aJN te):=by
 intro pins s σ H D I h;exact wpAny_Return_some (thn (he pins s σ H _ I h) λ v s1 ⟨x,H1,I1,r1,q1⟩=>⟨x,σ,H1,I1,r1,q1⟩)
def aLt(c:TT)(t u:TS):TS:=λ D σ H=>c σ H λ b H1=>if b=true then t D σ H1 else u D σ H1
theorem aF8{c:Expr}{a b:List Stmt}{tc:TT}(hc:PT X c tc)(ha:PSs X a t)(hb:PSs X b u):PS X (.If c a b pos) (aLt tc t u):=by
 intro pins s σ H D I h;refine wpAny_If (thn (hc pins s σ H _ I h) λ d s1 ⟨H1,I1,q1⟩=>?_);cases d with
 |true=>exact ha pins s1 σ H1 D I1 q1
 |false=>exact hb pins s1 σ H1 D I1 q1
end
abbrev TG:=V->St->Hp->(St->Hp->Prop)->Prop
abbrev TGs:=List V->St->Hp->(St->Hp->Prop)->Prop
def PG(X:Cx)(target:Expr)(t:TG):Prop:=
 ∀(pins:List (Addr×Obj)) (s:Shared) (σ:St) (H:Hp) (v:V) (u:Value) (Q:St->Hp->Prop),Inv X pins σ H s->RelV v u->t v σ H Q->
  wpAny (model X.prog X.w) X.A (assign target X.env u) (λ _ s'=>∃σ' H',Inv X pins σ' H' s'/\Q σ' H') X.xe s
def PGs(X:Cx)(ts:List Expr)(t:TGs):Prop:=
 ∀(pins:List (Addr×Obj)) (s:Shared) (σ:St) (H:Hp) (vs:List V) (us:List Value) (Q:St->Hp->Prop),Inv X pins σ H s->Vals vs us->t vs σ H Q->
  wpAny (model X.prog X.w) X.A (assignInOrder ((assignEach ts X.env).map (·.2)) us) (λ _ s'=>∃σ' H',Inv X pins σ' H' s'/\Q σ' H') X.xe s
section
variable{X:Cx}{pos:Pos}
def qD(i:Nat):TG:=λ v σ H Q=>Q (σ.set i (some v)) H
theorem aH6{i:Nat}{x:Str}(hN:X.N.Nodup)(hi:X.N[i]? =some x)(hx:Loc X.env.scope x)(hf:X.fn x=true\/X.env.scope.names.lookup x=some .local:=by first|exact .inl rfl|exact .inr rfl|assumption):PG X (.Name x pos) (qD i):=by
 intro pins s σ H v u Q I r h;exact wpAny_assign_Name (v6 I hN hi hx r (λ s' I'=>⟨_,H,I',h⟩) hf)
def aKc:TGs:=λ vs σ H Q=>vs=[]/\Q σ H
def aG0(t:TG)(u:TGs):TGs:=λ vs σ H Q=>∃v r,vs=v::r/\t v σ H λ σ' H'=>u r σ' H' Q
theorem aH5:PGs X [] aKc:=by
 intro pins s σ H vs us Q I r h;obtain⟨e,h⟩:=h;subst e;cases r;exact assignInOrder_nil ⟨σ,H,I,h⟩
theorem aFb{e:Expr}{es:List Expr}{t:TG}{u:TGs}(h1:PG X e t)(h2:PGs X es u)
  (hs:(assignEach (e::es) X.env).map (·.2)=assign e X.env::(assignEach es X.env).map (·.2):=by rfl):PGs X (e::es) (aG0 t u):=by
 intro pins s σ H vs us Q I r h;obtain⟨v,vr,e1,h⟩:=h;subst e1;cases r with
 |cons r rr=>
  rw[hs];refine assignInOrder_cons (thn (h1 pins s σ H _ _ _ I r h) λ _ s1 ⟨σ1,H1,I1,q1⟩=>?_);exact h2 pins s1 σ1 H1 _ _ Q I1 rr q1
def aIP(K:PySem.W.Frag)(n:Nat)(t:TGs):TG:=λ v σ H Q=>∃a xs,v= .ref a/\SqT K H a xs/\xs.length=n/\t xs σ H Q
theorem aJb{es:List Expr}{k:Nat}{t:TGs}{n:Nat}(hc:X.calm=true)(h:PGs X es t)
  (hn:(assignEach es X.env).length=n:=by rfl)(hst:(assignEach es X.env).findIdx? (·.1)=none:=by rfl):PG X (.Tuple es k pos) (aIP X.K n t):=by
 intro pins s σ H v u Q I r hw;obtain⟨a,xs,e1,hq,hl,hw⟩:=hw;subst e1;cases r;obtain⟨its,rv,ht,hz⟩:=I.tuple hq;refine assign_Tuple_tuple (I.ok.hd hc) ht (by simp[hn,<-hl,rv.length]) hst λ h' hx=>?_
 have I1:Inv X pins σ H {s with heap:=h'}:=I.kept (t':=s.toks) λ b o e=>hx b o (Nat.ne_of_lt (Heap.lt_size e)) e
 exact h pins _ σ H xs _ Q I1 (by simpa using rv) hw
def aCF(te:TE)(g:TG):TS:=λ D σ H=>te σ H λ x H1=>g x σ H1 D.nx
theorem aJ7{tg e:Expr}{te:TE}{g:TG}(he:PE X e te)(hg:PG X tg g)(hs:swapsWithSole [tg] e pos.line X.env=pure false:=by rfl)(hw:swappedStores [tg] e X.env=pure none:=by rfl)
  (h1:(assignEach [tg] X.env).map (·.2)=[assign tg X.env]:=by rfl):PS X (.Assign [tg] e pos) (aCF te g):=by
 intro pins s σ H D I h;refine wpAny_Assign_stores (thn (he pins s σ H _ I h) λ v s1 ⟨x,H1,I1,r1,q1⟩=>?_) hs hw;rw[h1];exact thn (hg pins s1 σ H1 x v _ I1 r1 q1) λ _ s2 q=>q
theorem nD{i:Nat}{x:Str}{e:Expr}{te:TE}{pos':Pos}(hN:X.N.Nodup)(hi:X.N[i]? =some x)(hx:Loc X.env.scope x)(he:PE X e te)(hs:swapsWith e (some (.Name x pos')) pos.line X.env=pure false:=by rfl)(hf:X.fn x=true\/X.env.scope.names.lookup x=some .local:=by first|exact .inl rfl|exact .inr rfl|assumption):
  PS X (.Assign [.Name x pos'] e pos) (aCF te (qD i)):=by
 intro pins s σ H D I h;refine wpAny_Assign_Name (thn (he pins s σ H _ I h) λ v s1 ⟨y,H1,I1,r1,q1⟩=>?_) hs;exact v6 I1 hN hi hx r1 (λ s2 I2=>⟨_,H1,I2,q1⟩) hf
end
section
variable{X:Cx}{pos:Pos}
def aJM(c:TT)(tb:TS):TS:=λ D σ H=>∃W:Nat->St->Hp->Prop,(∃m,W m σ H)/\∀m σ H,W m σ H->
 c σ H λ b H1=>if b=true then∃N:St->Hp->Prop,(∀σ' H',N σ' H'->∃m',m'<m/\W m' σ' H')/\tb {D with nx:=N,ct:=N,bk:=D.nx} σ H1 else D.nx σ H1
theorem aF5{c:Expr}{body:List Stmt}{tc:TT}{tb:TS}(hp:PassesOwn (model X.prog X.w) X.A X.env X.xe)(hc:PT X c tc)(hb:PSs X body tb):PS X (.While c body [] pos) (aJM tc tb):=by
 intro pins s σ H D I h;obtain⟨W,⟨m0,w0⟩,turn⟩:=h;refine wpAny_While (codeAny_whileLoop (λ n s'=>∃σ' H',Inv X pins σ' H' s'/\W n σ' H') ?_ m0 ⟨σ,H,I,w0⟩);rintro n s1 ⟨σ1,H1,I1,w1⟩;refine wpAny_passesOwn hp (thn (hc pins s1 σ1 H1 _ I1 (turn n σ1 H1 w1)) λ b s2 ⟨H2,I2,q2⟩=>?_);cases b with
 |true=>
  obtain⟨N,hN,q2⟩:=q2;rw[if_pos rfl];refine wpAny_passesOwn hp (thn (hb pins s2 σ1 H2 _ I2 q2) λ f s3 q3=>?_);cases f with
  |next=>
   obtain⟨σ3,H3,I3,n3⟩:=q3;obtain⟨m',hm,w3⟩:=hN σ3 H3 n3;exact⟨m',hm,σ3,H3,I3,w3⟩
  |cont=>
   obtain⟨σ3,H3,I3,n3⟩:=q3;obtain⟨m',hm,w3⟩:=hN σ3 H3 n3;exact⟨m',hm,σ3,H3,I3,w3⟩
  |brk=>exact q3
  |ret v=>exact q3
 |false=>
  rw[if_neg Bool.false_ne_true];exact wpAny_execs_nil ⟨σ1,H2,I2,q2⟩
end
structure It where
 go:Nat->Hp->Prop
 yld:Nat->Hp->V->Hp->Prop
 stop:Nat->Hp->Prop
def pQ(X:Cx)(pins:List (Addr×Obj))(H:Hp)(b:Addr):Prop:=
 H b=none/\b≠X.env.locals/\b∉X.fs/\(b∈X.ex\/X.s₀.heap.objs.size<=b)/\(∀x c,X.env.cells.lookup x=some c->c≠b)/\∀p∈X.ta++(X.pn++pins),p.1≠b
theorem Inv.fpOk{X:Cx}{pins:List (Addr×Obj)}{σ:St}{H H':Hp}{s:Shared}{b:Addr}(I:Inv X pins σ H s)(hb:s.heap.objs.size<=b)(hn:H' b=none):pQ X pins H' b:=by
 refine⟨hn,Nat.ne_of_gt (Nat.lt_of_lt_of_le I.lt hb),I.nofs hb,.inr (Nat.le_trans I.sz hb),λ x c e z=>?_,λ p hp z=>?_⟩
 ·obtain⟨v,q⟩:=I.cell x c e
  exact absurd (Nat.lt_of_lt_of_le q.lt (by rw[z];exact hb)) (Nat.lt_irrefl _)
 ·exact absurd (Nat.lt_of_lt_of_le (I.pinL hp) (by rw[z];exact hb)) (Nat.lt_irrefl _)
structure Turn(P:Program)(w:World)(K:PySem.W.Frag)(tg:Expr)(J:It)(fp:List Addr)(it:Addr)(tn:Nat->Heap->Prop):Prop where
 mem:it∈fp
 obj:∀i h,tn i h->∀b∈fp,∃o,h.get? b=some o/\∀v,o.data≠.cell v
 keep:∀i h h',tn i h->(∀b∈fp,∀o,h.get? b=some o->h'.get? b=some o)->tn i h'
 item:∀(X:Cx),X.prog=P->X.w=w->X.K=K->X.calm=true->∀(i:Nat) (pins:List (Addr×Obj)) (s:Shared) (σ:St) (H:Hp) (E:Value->Shared->Prop),Inv X pins σ H s->(∀b∈fp,pQ X pins H b)->tn i s.heap->J.go i H->
  wpAny (model P w) X.A (pyNext (.ref it)) (λ r s1=>∃u,r=some u/\
   wpAny (model P w) X.A (letOwnedTupleGo tg (.ref it) u) (λ _ s2=>∃x H',Inv X pins σ H' s2/\RelV x u/\J.yld i H x H'/\tn (i+1) s2.heap/\∀b∈fp,H' b=none) E s1) E s
 done:∀(X:Cx),X.prog=P->X.w=w->X.K=K->X.calm=true->∀(i:Nat) (pins:List (Addr×Obj)) (s:Shared) (σ:St) (H:Hp) (E:Value->Shared->Prop),Inv X pins σ H s->(∀b∈fp,pQ X pins H b)->tn i s.heap->J.stop i H->
  wpAny (model P w) X.A (pyNext (.ref it)) (λ r s1=>r=none/\Inv X pins σ H s1) E s
 self:∀(A:Around) (i:Nat) (s:Shared) (Q:Value->Shared->Prop) (E:Value->Shared->Prop),tn i s.heap->Q (.ref it) s->wpAny (model P w) A (pyIter (.ref it)) Q E s
abbrev TI:=St->Hp->(It->Hp->Prop)->Prop
def PIE(X:Cx)(pins:List (Addr×Obj))(σ:St)(tg:Expr)(R:It->Hp->Prop)(itv:Value)(s2:Shared):Prop:=
 ∃(it:Addr) (fp:List Addr) (tn:Nat->Heap->Prop) (J:It) (H':Hp),itv= .ref it/\Inv X pins σ H' s2/\Turn X.prog X.w X.K tg J fp it tn/\tn 0 s2.heap/\(∀b∈fp,pQ X pins H' b)/\R J H'
def PI(X:Cx)(tg iter:Expr)(wi:TI):Prop:=
 ∀(pins:List (Addr×Obj)) (s:Shared) (σ:St) (H:Hp) (R:It->Hp->Prop),Inv X pins σ H s->wi σ H R->
  wpAny (model X.prog X.w) X.A (eval iter X.env) (λ v s1=>wpAny (model X.prog X.w) X.A (pyIter v) (PIE X pins σ tg R) X.xe s1) X.xe s
theorem aGX{M:Model}{A:Around}{E:Value->Shared->Prop}{s:Shared}{tg:Expr}{it:Addr}{u:Value}{o:Obj}{n:String}{vs:Array Value}{Q:Unit->Shared->Prop}(ho:s.heap.get? it=some o)(hc:o.cls= .type n)(hd:o.data= .fields vs)
    (hn:["enumerate","zip","dict_itemiterator","dict_reverseitemiterator","odict_iterator","itertools.zip_longest","itertools.pairwise"].contains n=false)(hQ:Q () s):wpAny M A (letOwnedTupleGo tg (.ref it) u) Q E s:=by
  unfold letOwnedTupleGo;cases tg<;>first
    |exact wpAny_pure hQ
    | (cases u <;> first
        |exact wpAny_pure hQ
        | (refine wpAny_bind (wpAny_load ho ?_)
           rw[hc,hd];show wpAny M A (if (["enumerate","zip","dict_itemiterator","dict_reverseitemiterator","odict_iterator","itertools.zip_longest","itertools.pairwise"].contains n&&vs[0]? ==some (rawInt _))=true then _ else _) Q E s;rw[if_neg (by intro h;rw[hn,Bool.false_and]at h;cases h)];exact wpAny_pure hQ))
def Itl(K:PySem.W.Frag)(a:Addr):It:=
 ⟨λ i H=>∃xs x,SqL K H a xs/\xs[i]? =some x,λ i H x H'=>H'=H/\∀xs,SqL K H a xs->xs[i]? =some x,λ i H=>∃xs,SqL K H a xs/\xs.length<=i⟩
def Itt(K:PySem.W.Frag)(a:Addr):It:=
 ⟨λ i H=>∃xs x,SqT K H a xs/\xs[i]? =some x,λ i H x H'=>H'=H/\∀xs,SqT K H a xs->xs[i]? =some x,λ i H=>∃xs,SqT K H a xs/\xs.length<=i⟩
def Itr(lo:Int)(n:Nat):It:=⟨λ i _=>i<n,λ i H x H'=>H'=H/\x= .int (lo+i),λ i _=>n<=i⟩
theorem aDs{P:Program}{w:World}{K:PySem.W.Frag}{tg:Expr}(a it:Addr):Turn P w K tg (Itl K a) [it] it (λ i h=>h.IsListIter it a i) where
 mem:=by simp
 obj:=λ i h st b hb=>by
  have e:b=it:=by simpa using hb
  subst e;obtain⟨o,e,c,d⟩:=st;exact⟨o,e,λ v z=>by rw[d]at z;cases z⟩
 keep:=λ i h h' st k=>st.at λ o e=>k it (by simp) o e
 item:=by
  intro X hP hw hK hc i pins s σ H E I hf st hg;subst hP hw hK;obtain⟨xs,x,hq,hx⟩:=hg;obtain⟨its,rv,p,hz⟩:=I.list hq;obtain⟨u,hu,ru⟩:=rv.get hx;obtain⟨f0,f1,f2,f3,f4,f5⟩:=hf it (by simp);refine wpAny_pyNext_list_item st p.isList (x:=u) (by simpa using hu) λ h' st' sb=>?_
  have I1:Inv X pins σ H {s with heap:=h'}:=I.turned (t':=s.toks) (λ b o hb e=>(sb.2 b hb).trans e) f0 f1 f3 f4 f5;obtain⟨o,e,c,d⟩:=id st';exact⟨u,rfl,aGX (s:={s with heap:=h'}) e c d (by decide) ⟨x,H,I1,ru,⟨rfl,λ ys hy=>by rw[I.list_inj hy hq];exact hx⟩,st',λ b hb=>(hf b hb).1⟩⟩
 done:=by
  intro X hP hw hK hc i pins s σ H E I hf st hg;subst hP hw hK;obtain⟨xs,hq,hx⟩:=hg;obtain⟨its,rv,p,hz⟩:=I.list hq;obtain⟨f0,f1,f2,f3,f4,f5⟩:=hf it (by simp);have hl:=rv.length;exact wpAny_pyNext_list_end (I.ok.hd hc) st p.isList (by simp;omega) λ h' eb=>⟨rfl,I.turned (t':=s.toks) (λ b o hb e=>eb b o hb e) f0 f1 f3 f4 f5⟩
 self:=λ _ _ _ _ _ st h=>wpAny_pyIter_listiter st h
theorem aBz{P:Program}{w:World}{K:PySem.W.Frag}{tg:Expr}(a it:Addr):Turn P w K tg (Itt K a) [it] it (λ i h=>h.IsTupleIter it a i) where
 mem:=by simp
 obj:=λ i h st b hb=>by
  have e:b=it:=by simpa using hb
  subst e;obtain⟨o,e,c,d⟩:=st;exact⟨o,e,λ v z=>by rw[d]at z;cases z⟩
 keep:=λ i h h' st k=>st.at λ o e=>k it (by simp) o e
 item:=by
  intro X hP hw hK hc i pins s σ H E I hf st hg;subst hP hw hK;obtain⟨xs,x,hq,hx⟩:=hg;obtain⟨its,rv,p,hz⟩:=I.tuple hq;obtain⟨u,hu,ru⟩:=rv.get hx;obtain⟨f0,f1,f2,f3,f4,f5⟩:=hf it (by simp);refine wpAny_pyNext_tuple_item st (show s.heap.IsTuple a its.toArray from p) (x:=u) (by simpa using hu) λ h' st' sb=>?_
  have I1:Inv X pins σ H {s with heap:=h'}:=I.turned (t':=s.toks) (λ b o hb e=>(sb.2 b hb).trans e) f0 f1 f3 f4 f5;obtain⟨o,e,c,d⟩:=id st';exact⟨u,rfl,aGX (s:={s with heap:=h'}) e c d (by decide) ⟨x,H,I1,ru,⟨rfl,λ ys hy=>by rw[I.tuple_inj hy hq];exact hx⟩,st',λ b hb=>(hf b hb).1⟩⟩
 done:=by
  intro X hP hw hK hc i pins s σ H E I hf st hg;subst hP hw hK;obtain⟨xs,hq,hx⟩:=hg;obtain⟨its,rv,p,hz⟩:=I.tuple hq;obtain⟨f0,f1,f2,f3,f4,f5⟩:=hf it (by simp);have hl:=rv.length;exact wpAny_pyNext_tuple_end (I.ok.hd hc) st (show s.heap.IsTuple a its.toArray from p) (by simp;omega) λ h' eb=>⟨rfl,I.turned (t':=s.toks) (λ b o hb e=>eb b o hb e) f0 f1 f3 f4 f5⟩
 self:=λ _ _ _ _ _ st h=>wpAny_pyIter_tupleiter st h
theorem aCA{P:Program}{w:World}{K:PySem.W.Frag}{tg:Expr}(it:Addr)(lo:Int)(n:Nat):Turn P w K tg (Itr lo n) [it] it (λ i h=>IsRangeIter h it (lo+(i:Nat)*1) ((n:Int)-(i:Nat)) 1) where
 mem:=by simp
 obj:=λ i h st b hb=>by
  have e:b=it:=by simpa using hb
  subst e;exact⟨_,st,λ v z=>by
   have z':Data.fields _=Data.cell v:=z;cases z'⟩
 keep:=λ i h h' st k=>k it (by simp) _ st
 item:=by
  intro X hP hw hK hc i pins s σ H E I hf st hg;subst hP hw hK;obtain⟨f0,f1,f2,f3,f4,f5⟩:=hf it (by simp);have W:=Walks.range (prog:=X.prog) (w:=X.w) (I.ok.hd hc) it lo 1 n;refine W.item i s _ _ hg st λ v h' tk hv st' kk=>?_
  obtain⟨t,rfl⟩:=hv;have I1:Inv X pins σ H {s with heap:=h',toks:=tk}:=I.turned (λ b o hb e=>kk b o (by simpa using hb) e) f0 f1 f3 f4 f5;refine⟨_,rfl,aGX (s:={s with heap:=h',toks:=tk}) (n:="range_iterator") st' rfl rfl (by decide) ⟨.int (lo+i),H,I1,⟨t,?_⟩,⟨rfl,rfl⟩,st',λ b hb=>(hf b hb).1⟩⟩;rw[Int.mul_one]
 done:=by
  intro X hP hw hK hc i pins s σ H E I hf st hg;subst hP hw hK;obtain⟨f0,f1,f2,f3,f4,f5⟩:=hf it (by simp);exact wpAny_pyNext_range_end (I.ok.hd hc) st (by have:n<=i:=hg;omega) λ h' eb=>⟨rfl,I.turned (t':=s.toks) (λ b o hb e=>eb b o hb e) f0 f1 f3 f4 f5⟩
 self:=λ _ _ _ _ _ st h=>wpAny_pyIter_rangeiter st h
section
variable{X:Cx}{tg:Expr}
theorem aBN{pins:List (Addr×Obj)}{σ:St}{H:Hp}{s:Shared}{R:It->Hp->Prop}{E:Value->Shared->Prop}{lo hi:Int}{t u v:Tok}{tk:Nat}(I:Inv X pins σ H s)(h1: -(2^62)<=lo)(h2:lo<2^62)(h3: -(2^62)<=hi)(h4:hi<2^62)
  (q:R (Itr lo (hi-lo).toNat) H):wpAny (model X.prog X.w) X.A (pyIter (.ref s.heap.objs.size)) (PIE X pins σ tg R) E {s with heap:=s.heap.push {cls:=.type "range",data:=.fields #[.int lo t,.int hi u,.int 1 v]},toks:=tk}:=by
 refine wpAny_pyIter_range (IsRange.new ..) (small_one h1 h2 h3 h4) ?_;have I1:Inv X pins σ H {s with heap:=s.heap.push {cls:=.type "range",data:=.fields #[.int lo t,.int hi u,.int 1 v]},toks:=tk}:=I.kept λ b o e=>Heap.get?_push_of_some _ e
 refine⟨(s.heap.push {cls:=.type "range",data:=.fields #[.int lo t,.int hi u,.int 1 v]}).objs.size,[(s.heap.push {cls:=.type "range",data:=.fields #[.int lo t,.int hi u,.int 1 v]}).objs.size],_,_,H,rfl,
  I1.kept (t':=tk) λ b o e=>Heap.get?_push_of_some _ e,aCA _ lo (hi-lo).toNat,?_,λ b hb=>?_,q⟩
 ·have e1:lo+((0:Nat):Int)*1=lo:=by simp
  have e2:(((hi-lo).toNat:Nat):Int)-((0:Nat):Int)=Builtin.Range.rangeSize lo hi 1:=by rw[rangeSize_one];split<;>omega
  show IsRangeIter _ _ (lo+((0:Nat):Int)*1) ((((hi-lo).toNat:Nat):Int)-((0:Nat):Int)) 1;rw[e1,e2];exact Heap.get?_push_size _ rfl
 ·have e:b=(s.heap.push {cls:=.type "range",data:=.fields #[.int lo t,.int hi u,.int 1 v]}).objs.size:=by simpa using hb
  subst e;exact I1.fpOk (Nat.le_refl _) (I1.hok.fresh (Nat.le_refl _))
def aLb(ta:TA):TI:=λ σ H R=>ta σ H λ vs H1=>∃j:Int,vs=[.int j]/\-(2^62)<=j/\j<2^62/\R (Itr 0 j.toNat) H1
def aLa(ta:TA):TI:=λ σ H R=>ta σ H λ vs H1=>∃i j:Int,vs=[.int i,.int j]/\(-(2^62)<=i/\i<2^62/\-(2^62)<=j/\j<2^62)/\R (Itr i (j-i).toNat) H1
theorem aEC{a:Expr}{ta:TA}{p pos:Pos}(hg:Gl X "range")(hm:X.mg "range"=none)(ha:PA X [a] ta)(hs:starEach [a] X.env=[(false,eval a X.env)]:=by rfl):PI X tg (.Call (.Name "range" p) [a] [] pos) (aLb ta):=by
 intro pins s σ H R I h;refine Call_ (tU I hg hm boot_range (PyProof.Rows.callWith_type1 (thn (ha pos pins s σ H _ I h) λ us s1 ⟨vs,H1,I1,r1,q1⟩=>?_) hs rfl));obtain⟨j,e,q1,q2,q⟩:=q1;subst e;cases r1 with
 |cons r rr=>
  cases rr;obtain⟨t,rfl⟩:=r;exact call_range_1 (aBN I1 (by omega) (by omega) q1 q2 (by simpa using q))
theorem aEB{a b:Expr}{ta:TA}{p pos:Pos}(hg:Gl X "range")(hm:X.mg "range"=none)(ha:PA X [a,b] ta)(hs:starEach [a,b] X.env=[(false,eval a X.env),(false,eval b X.env)]:=by rfl)(hs2:starEach [b] X.env=[(false,eval b X.env)]:=by rfl):
  PI X tg (.Call (.Name "range" p) [a,b] [] pos) (aLa ta):=by
 intro pins s σ H R I h;refine Call_ (tU I hg hm boot_range (PyProof.Rows.callWith_type1 (thn (ha pos pins s σ H _ I h) λ us s1 ⟨vs,H1,I1,r1,q1⟩=>?_) (by rw[hs,hs2]) (by rw[hs2];rfl)));obtain⟨i,j,e,⟨q1,q2,q3,q4⟩,q⟩:=q1;subst e;cases r1 with
 |cons r rr=>
  cases rr with
  |cons r' rr=>
   cases rr;obtain⟨t,rfl⟩:=r;obtain⟨t',rfl⟩:=r';exact call_range_2 (aBN I1 q1 q2 q3 q4 q)
def aLu(wi:TI)(g:TG)(tb:TS):TS:=λ D σ H=>wi σ H λ J H1=>∃W:Nat->Nat->St->Hp->Prop,(∃m,W 0 m σ H1)/\∀i m σ H,W i m σ H->
 (J.stop i H/\D.nx σ H)\/(J.go i H/\∃N:St->Hp->Prop,(∀σ' H',N σ' H'->∃m',m'<m/\W (i+1) m' σ' H')/\∀x H',J.yld i H x H'->g x σ H' λ σ2 H2=>tb {D with nx:=N,ct:=N,bk:=D.nx} σ2 H2)
def qg(fp:List Addr)(h:Heap):List (Addr×Obj):=fp.filterMap λ b=>(h.get? b).map λ o=>(b,o)
theorem jz{fp:List Addr}{h:Heap}{b:Addr}{o:Obj}(hb:b∈fp)(e:h.get? b=some o):(b,o)∈qg fp h:=List.mem_filterMap.mpr ⟨b,hb,by rw[e];rfl⟩
theorem yt{fp:List Addr}{h:Heap}{p:Addr×Obj}(hp:p∈qg fp h):p.1∈fp/\h.get? p.1=some p.2:=by
 obtain⟨b,hb,e⟩:=List.mem_filterMap.mp hp;cases q:h.get? b with
 |none=>rw[q]at e;cases e
 |some o=>
  rw[q]at e;have e':(b,o)=p:=Option.some.inj e;subst e';exact⟨hb,q⟩
theorem Inv.pinned{pins:List (Addr×Obj)}{σ:St}{H:Hp}{s:Shared}{fp:List Addr}(I:Inv X pins σ H s)(hf:∀b∈fp,pQ X pins H b)(ho:∀b∈fp,∃o,s.heap.get? b=some o/\∀v,o.data≠.cell v):Inv X (pins++qg fp s.heap) σ H s:=
 I.pins_of (λ p hp=>(List.mem_append.mp hp).elim (λ z=>I.pin p (List.mem_append_right _ z)) λ z=>by
  obtain⟨hb,e⟩:=yt z;obtain⟨f0,f1,f2,_⟩:=hf p.1 hb;obtain⟨o,e',d⟩:=ho p.1 hb;rw[e]at e';cases e';exact⟨e,f0,f1,f2,d⟩) λ q hq p hp=>(List.mem_append.mp hq).elim (λ z=>(I.tab p hp).2.2.2.1 q (List.mem_append_right _ z)) λ z=>((hf q.1 (yt z).1).2.2.2.2.2 p (List.mem_append_left _ hp)).symm
theorem Inv.unpinned{pins pl:List (Addr×Obj)}{σ:St}{H:Hp}{s:Shared}(I:Inv X (pins++pl) σ H s):Inv X pins σ H s:=I.pins_of (λ p hp=>I.pin p (List.mem_append_right _ (List.mem_append_left _ hp))) λ q hq p hp=>(I.tab p hp).2.2.2.1 q (List.mem_append_right _ (List.mem_append_left _ hq))
theorem aJ6{iter:Expr}{body:List Stmt}{wi:TI}{g:TG}{tb:TS}{pos:Pos}(hp:PassesOwn (model X.prog X.w) X.A X.env X.xe)(hc:X.calm=true)(hi:PI X tg iter wi)(hg:PG X tg g)(hb:PSs X body tb)
  (hs:∀x,foldedSetIterable iter X.env x=pure x:=by intro _;rfl):PS X (.For tg iter body [] pos) (aLu wi g tb):=by
 intro pins s σ H D I h;refine wpAny_For (thn (hi pins s σ H _ I h) λ v s1 h1=>thn h1 λ itv s2 h2=>?_) hs;obtain⟨it,fp,tn,J,H2,e,I2,T,st2,f2,W,⟨m0,w0⟩,turn⟩:=h2;subst e;have stat:∀{H':Hp},(∀b∈fp,H' b=none)->∀b∈fp,pQ X pins H' b:=λ hn b hb=>⟨hn b hb,(f2 b hb).2⟩
 refine codeAny_forLoop_any (λ n s'=>∃i σ' H',Inv X pins σ' H' s'/\tn i s'.heap/\(∀b∈fp,H' b=none)/\W i n σ' H') ?_ m0 ⟨0,σ,H2,I2,st2,λ b hb=>(f2 b hb).1,w0⟩;rintro n s3 ⟨i,σ3,H3,I3,st3,fr3,w3⟩;rcases turn i n σ3 H3 w3 with ⟨stop,qn⟩|⟨go,N,hN,step⟩
 ·refine wpAny_passesOwn hp (thn (T.done X rfl rfl rfl hc i pins s3 σ3 H3 X.xe I3 (stat fr3) st3 stop) λ r s4 ⟨hr,I4⟩=>?_)
  subst hr;exact wpAny_execs_nil ⟨σ3,H3,I4,qn⟩
 ·refine wpAny_passesOwn hp (thn (T.item X rfl rfl rfl hc i pins s3 σ3 H3 X.xe I3 (stat fr3) st3 go) λ r s4 ⟨u,hr,h4⟩=>?_)
  subst hr;refine wpAny_passesOwn hp (thn h4 λ _ s5 ⟨x,H5,I5,r5,y5,st5,fr5⟩=>?_);have I5':=I5.pinned (stat fr5) (T.obj _ _ st5);refine wpAny_passesOwn hp (thn (hg _ s5 σ3 H5 x u _ I5' r5 (step x H5 y5)) λ _ s6 ⟨σ6,H6,I6,q6⟩=>?_);refine wpAny_passesOwn hp (thn (hb _ s6 σ6 H6 _ I6 q6) λ f s7 q7=>?_);have again:∀{σ7:St} {H7:Hp},Inv X (pins++qg fp s5.heap) σ7 H7 s7->N σ7 H7->∃m,m<n/\∃i σ' H',Inv X pins σ' H' s7/\tn i s7.heap/\(∀b∈fp,H' b=none)/\W i m σ' H':=λ{σ7 H7} I7 n7=>by
   obtain⟨m',hm,w7⟩:=hN σ7 H7 n7;refine⟨m',hm,i+1,σ7,H7,I7.unpinned,T.keep _ _ _ st5 λ b hb o e=>(I7.pin (b,o) (List.mem_append_right _ (List.mem_append_right _ (jz hb e)))).1,λ b hb=>?_,w7⟩;obtain⟨o,e,d⟩:=T.obj _ _ st5 b hb;exact(I7.pin (b,o) (List.mem_append_right _ (List.mem_append_right _ (jz hb e)))).2.1
  cases f with
  |next=>obtain⟨σ7,H7,I7,n7⟩:=q7;exact again I7 n7
  |cont=>obtain⟨σ7,H7,I7,n7⟩:=q7;exact again I7 n7
  |brk=>obtain⟨σ7,H7,I7,q7⟩:=q7;exact⟨σ7,H7,I7.unpinned,q7⟩
  |ret v=>obtain⟨x7,σ7,H7,I7,r7,q7⟩:=q7;exact⟨x7,σ7,H7,I7.unpinned,r7,q7⟩
end
abbrev R2:=V->V->Hp->VK->Prop
def OpR(X:Cx)(f:Value->Value->Sem Value)(r:R2):Prop:=
 ∀(pins:List (Addr×Obj)) (s:Shared) (σ:St) (H:Hp) (x y:V) (v u:Value) (Q:VK),Inv X pins σ H s->RelV x v->RelV y u->r x y H Q->
  wpAny (model X.prog X.w) X.A (f v u) (EP X pins σ Q) X.xe s
def UnR(X:Cx)(f:Value->Sem Value)(r:V->Hp->VK->Prop):Prop:=
 ∀(pins:List (Addr×Obj)) (s:Shared) (σ:St) (H:Hp) (x:V) (v:Value) (Q:VK),Inv X pins σ H s->RelV x v->r x H Q->
  wpAny (model X.prog X.w) X.A (f v) (EP X pins σ Q) X.xe s
def dG(X:Cx)(f:Value)(r:List V->Hp->VK->Prop):Prop:=
 ∀(pins:List (Addr×Obj)) (s:Shared) (σ:St) (H:Hp) (xs:List V) (us:List Value) (Q:VK),Inv X pins σ H s->Vals xs us->r xs H Q->
  wpAny (model X.prog X.w) X.A (call f us) (EP X pins σ Q) X.xe s
def aME(X:Cx)(r:V->Hp->(Bool->Hp->Prop)->Prop):Prop:=
 ∀(pins:List (Addr×Obj)) (s:Shared) (σ:St) (H:Hp) (x:V) (v:Value) (Q:Bool->Hp->Prop),Inv X pins σ H s->RelV x v->r x H Q->
  wpAny (model X.prog X.w) X.A (truthy v) (TP X pins σ Q) X.xe s
def tOp(r:R2)(ta tb:TE):TE:=λ σ H Q=>ta σ H λ x H1=>tb σ H1 λ y H2=>r x y H2 Q
def tUn(r:V->Hp->VK->Prop)(ta:TE):TE:=λ σ H Q=>ta σ H λ x H1=>r x H1 Q
def rI(C:Int->Int->Prop)(g:Int->Int->V):R2:=λ x y H Q=>∃i j,x= .int i/\y= .int j/\C i j/\Q (g i j) H
def rI0(g:Int->Int->V):R2:=λ x y H Q=>∃i j,x= .int i/\y= .int j/\Q (g i j) H
def rU(g:Int->V):V->Hp->VK->Prop:=λ x H Q=>∃i,x= .int i/\Q (g i) H
section
variable{X:Cx}{a b c:Expr}{ta tb tc:TE}{pos:Pos}
theorem aKk(ha:PE X a ta)(hb:PE X b tb){pins:List (Addr×Obj)}{s:Shared}{σ:St}{H:Hp}{R:V->V->Hp->Prop}(I:Inv X pins σ H s)
  (h:ta σ H λ x H1=>tb σ H1 λ y H2=>R x y H2){Q:Value->Shared->Prop}{f:Value->Value->Sem Value}
  (hf:∀v u s2 x y H2,Inv X pins σ H2 s2->RelV x v->RelV y u->R x y H2->wpAny (model X.prog X.w) X.A (f v u) Q X.xe s2):
  wpAny (model X.prog X.w) X.A (eval a X.env) (λ v s₁=>wpAny (model X.prog X.w) X.A (eval b X.env) (λ u s₂=>wpAny (model X.prog X.w) X.A (f v u) Q X.xe s₂) X.xe s₁) X.xe s:=by
 refine thn (ha pins s σ H _ I h) λ v s1 ⟨x,H1,I1,r1,q1⟩=>?_
 refine thn (hb pins s1 σ H1 _ I1 q1) λ u s2 ⟨y,H2,I2,r2,q2⟩=>?_
 exact hf v u s2 x y H2 I2 r1 r2 q2
theorem aDW{op:Operator}{r:R2}(ho:OpR X (binaryOp op) r)(ha:PE X a ta)(hb:PE X b tb):PE X (.BinOp a op b pos) (tOp r ta tb):=by
 intro pins s σ H Q I h;exact wpAny_BinOp (aKk ha hb I h λ v u s2 x y H2 I2 rx ry q=>ho pins s2 σ H2 x y v u Q I2 rx ry q)
theorem aIs{op:UnaryOp}{r:V->Hp->VK->Prop}(ho:UnR X (unaryOp op) r)(ha:PE X a ta):PE X (.UnaryOp op a pos) (tUn r ta):=by
 intro pins s σ H Q I h;exact UnaryOp_ (thn (ha pins s σ H _ I h) λ v s1 ⟨x,H1,I1,r1,q1⟩=>ho pins s1 σ H1 x v Q I1 r1 q1)
theorem opI{f:Value->Value->Sem Value}{C:Int->Int->Prop}{g:Int->Int->Int}
  (rule:∀(i j:Int) (t u:Tok) (s:Shared) (Q:Value->Shared->Prop) (E:Value->Shared->Prop),C i j->Q (.int (g i j) s.toks) {s with toks:=s.toks+1}->wpAny (model X.prog X.w) X.A (f (.int i t) (.int j u)) Q E s):
  OpR X f (rI C λ i j=>.int (g i j)):=by
 intro pins s σ H x y v u Q I rx ry h;obtain⟨i,j,rfl,rfl,hc,q⟩:=h;obtain⟨t,rfl⟩:=rx;obtain⟨t',rfl⟩:=ry;exact rule i j t t' s _ _ hc ⟨.int (g i j),H,I.tok _,⟨_,rfl⟩,q⟩
theorem aL2{f:Value->Value->Sem Value}{g:Int->Int->Int}
  (rule:∀(i j:Int) (t u:Tok) (s:Shared) (Q:Value->Shared->Prop) (E:Value->Shared->Prop),Q (.int (g i j) s.toks) {s with toks:=s.toks+1}->wpAny (model X.prog X.w) X.A (f (.int i t) (.int j u)) Q E s):
  OpR X f (rI0 λ i j=>.int (g i j)):=by
 intro pins s σ H x y v u Q I rx ry h;obtain⟨i,j,rfl,rfl,q⟩:=h;obtain⟨t,rfl⟩:=rx;obtain⟨t',rfl⟩:=ry;exact rule i j t t' s _ _ ⟨.int (g i j),H,I.tok _,⟨_,rfl⟩,q⟩
theorem aKJ{f:Value->Value->Sem Value}{g:Int->Int->Bool}
  (rule:∀(i j:Int) (t u:Tok) (s:Shared) (Q:Value->Shared->Prop) (E:Value->Shared->Prop),Q (.bool (g i j)) s->wpAny (model X.prog X.w) X.A (f (.int i t) (.int j u)) Q E s):
  OpR X f (rI0 λ i j=>.bl (g i j)):=by
 intro pins s σ H x y v u Q I rx ry h;obtain⟨i,j,rfl,rfl,q⟩:=h;obtain⟨t,rfl⟩:=rx;obtain⟨t',rfl⟩:=ry;exact rule i j t t' s _ _ ⟨.bl (g i j),H,I,rfl,q⟩
def aLl(i j:Int):Prop:=0<j/\j<1073741824
def aMG(i j:Int):Prop:=0<=j/\j<=1000000/\i.natAbs<2^64
def aIf(i j:Int):Prop:=(-(2^64)<i/\i<2^64)\/(-(2^64)<j/\j<2^64)
theorem aIf.ok{i j:Int}(h:aIf i j):IntMulOk i j:=by
 rcases h with ⟨h1,h2⟩|⟨h1,h2⟩
 ·exact .of_left (intBits_le_64 h1 h2)
 ·exact .of_right (intBits_le_64 h1 h2)
theorem aKI:OpR X (binaryOp .Add) (rI0 λ i j=>.int (i+j)):=aL2 λ _ _ _ _ _ _ _ q=>add_int q
theorem aJt:OpR X (binaryOp .Sub) (rI0 λ i j=>.int (i-j)):=aL2 λ _ _ _ _ _ _ _ q=>sub_int q
theorem aJx:OpR X (binaryOp .Mult) (rI aIf λ i j=>.int (i*j)):=opI λ _ _ _ _ _ _ _ hc q=>mul_int q hc.ok
theorem aHg:OpR X (binaryOp .FloorDiv) (rI aLl λ i j=>.int (i / j)):=opI λ i j _ _ _ _ _ hc q=>by
 have h1:(0:Int)<j:=hc.1;have h2:j<1073741824:=hc.2;exact floordiv_int (by omega) (by rw[Int.fdiv_eq_ediv_of_nonneg i (by omega)];exact q) (.inl (PyProof.noPylong_small (by omega)))
theorem aJy:OpR X (binaryOp .Mod) (rI (λ _ j=>0<j) λ i j=>.int (i%j)):=opI λ i j _ _ _ _ _ hc q=>by
 have h1:(0:Int)<j:=hc;exact mod_int' (by omega) (by rw[Int.fmod_eq_emod_of_nonneg i (by omega)];exact q)
theorem aJv:OpR X (binaryOp .Pow) (rI aMG λ i j=>.int (i^j.toNat)):=opI λ _ _ _ _ _ _ _ hc q=>pow_int_small hc.1 hc.2.1 hc.2.2 q
theorem unI{f:Value->Sem Value}{g:Int->Int}
  (rule:∀(i:Int) (t:Tok) (s:Shared) (Q:Value->Shared->Prop) (E:Value->Shared->Prop),Q (.int (g i) s.toks) {s with toks:=s.toks+1}->wpAny (model X.prog X.w) X.A (f (.int i t)) Q E s):
  UnR X f (rU λ i=>.int (g i)):=by
 intro pins s σ H x v Q I rx h;obtain⟨i,rfl,q⟩:=h;obtain⟨t,rfl⟩:=rx;exact rule i t s _ _ ⟨.int (g i),H,I.tok _,⟨_,rfl⟩,q⟩
theorem aEq:UnR X (unaryOp .USub) (rU λ i=>.int (-i)):=unI λ _ _ _ _ _ q=>neg_int q
end
section
variable{X:Cx}{a b c:Expr}{ta tb tc:TE}{pos:Pos}
theorem aG4{pins:List (Addr×Obj)}{σ:St}{H:Hp}{s:Shared}{Q:VK}{k k':Bool}(I:Inv X pins σ H s)(q:Q (.bl k) H)(e:k=k'):EP X pins σ Q (.bool k') s:=by
 subst e;exact⟨.bl k,H,I,rfl,q⟩
theorem aLZ:OpR X (compareOp .Lt) (rI0 λ i j=>.bl (decide (i<j))):=aKJ λ _ _ _ _ _ _ _ q=>lt_int q
theorem aL0:OpR X (compareOp .LtE) (rI0 λ i j=>.bl (decide (i<=j))):=aKJ λ _ _ _ _ _ _ _ q=>le_int q
theorem aL1:OpR X (compareOp .GtE) (rI0 λ i j=>.bl (decide (j<=i))):=aKJ λ _ _ _ _ _ _ _ q=>ge_int q
theorem aKE:OpR X (compareOp .Is) (λ x y H Q=>y= .non/\Q (.bl (decide (x= .non))) H):=by
 intro pins s σ H x y v u Q I rx ry h;obtain⟨rfl,q⟩:=h;cases ry;refine is_none_gen (aG4 I q ?_);cases x<;>first
  |(cases rx;rfl)
  |(obtain⟨t,rfl⟩:=rx;rfl)
def isObj:HO->Bool
 | .lst _=>true
 | .ins _ _ _=>true
 |_=>false
theorem OpR.or{f:Value->Value->Sem Value}{r r':R2}(h:OpR X f r)(h':OpR X f r'):OpR X f (λ x y H Q=>r x y H Q\/r' x y H Q):=by
 intro pins s σ H x y v u Q I rx ry q;rcases q with q|q
 ·exact h pins s σ H x y v u Q I rx ry q
 ·exact h' pins s σ H x y v u Q I rx ry q
theorem aFp(b:Expr){op:CmpOp}(h:op≠.In:=by decide)(h2:op≠.NotIn:=by decide):behindInMarks op b=false:=by
 have e1:(op==CmpOp.In)=false:=by cases op<;>first|rfl|exact absurd rfl h
 have e2:(op==CmpOp.NotIn)=false:=by cases op<;>first|rfl|exact absurd rfl h2
 cases b<;>simp[behindInMarks,e1,e2]
theorem aH9{op:CmpOp}{r:R2}(ho:OpR X (compareOp op) r)(ha:PE X a ta)(hb:PE X b tb)(hm:behindInMarks op b=false):PE X (.Compare a [op] [b] pos) (tOp r ta tb):=by
 intro pins s σ H Q I h;exact wpAny_Compare1 (aKk ha hb I h λ v u s2 x y H2 I2 rx ry q=>ho pins s2 σ H2 x y v u Q I2 rx ry q) hm
def aEw(t:TE):TT:=λ σ H Q=>t σ H λ x H'=>∃k,x= .bl k/\Q k H'
theorem aH1{op:CmpOp}{r:R2}(ho:OpR X (compareOp op) r)(ha:PE X a ta)(hb:PE X b tb)(hm:behindInMarks op b=false):PT X (.Compare a [op] [b] pos) (aEw (tOp r ta tb)):=by
 intro pins s σ H Q I h;refine wpAny_isTrue_Compare1 (thn (ha pins s σ H _ I h) λ v s1 ⟨x,H1,I1,r1,q1⟩=>thn (hb pins s1 σ H1 _ I1 q1) λ u s2 ⟨y,H2,I2,r2,q2⟩=>
  thn (ho pins s2 σ H2 x y v u _ I2 r1 r2 q2) λ c s3 ⟨z,H3,I3,r3,k,e,q3⟩=>?_) hm
 subst e;cases r3;exact wpAny_truthy_bool ⟨H3,I3,q3⟩
def aCE(r r':R2)(ta tb tc:TE):TE:=λ σ H Q=>ta σ H λ x H1=>tb σ H1 λ y H2=>r x y H2 λ z H3=>∃k,z= .bl k/\
 (if k=true then tc σ H3 λ w' H4=>r' y w' H4 Q else Q (.bl false) H3)
theorem aFf{op op':CmpOp}{r r':R2}(ho:OpR X (compareOp op) r)(ho':OpR X (compareOp op') r')(ha:PE X a ta)(hb:PE X b tb)(hc:PE X c tc)
  (hm:lastMarks [op,op'] [b,c]=false:=by with_unfolding_all rfl):PE X (.Compare a [op,op'] [b,c] pos) (aCE r r' ta tb tc):=by
 intro pins s σ H Q I h;refine Compare_chain (thn (ha pins s σ H _ I h) λ v s1 ⟨x,H1,I1,r1,q1⟩=>chain_link (thn (hb pins s1 σ H1 _ I1 q1) λ u s2 ⟨y,H2,I2,r2,q2⟩=>
  thn (ho pins s2 σ H2 x y v u _ I2 r1 r2 q2) λ d s3 ⟨z,H3,I3,r3,k,e,q3⟩=>?_)) hm
 subst e;cases r3;refine wpAny_truthy_bool ?_;cases k with
 |false=>exact ite_ff ⟨.bl false,H3,I3,rfl,q3⟩
 |true=>exact ite_tt (chain_last (thn (hc pins s3 σ H3 _ I3 q3) λ w' s4 ⟨z',H4,I4,r4,q4⟩=>ho' pins s4 σ H4 y z' u w' Q I4 r2 r4 q4))
theorem aF4{op op':CmpOp}{r r':R2}(ho:OpR X (compareOp op) r)(ho':OpR X (compareOp op') r')(ha:PE X a ta)(hb:PE X b tb)(hc:PE X c tc)
  (hm:lastMarks [op,op'] [b,c]=false:=by with_unfolding_all rfl):PT X (.Compare a [op,op'] [b,c] pos) (aEw (aCE r r' ta tb tc)):=by
 intro pins s σ H Q I h;refine isTrue_chain (thn (ha pins s σ H _ I h) λ v s1 ⟨x,H1,I1,r1,q1⟩=>test_link (thn (hb pins s1 σ H1 _ I1 q1) λ u s2 ⟨y,H2,I2,r2,q2⟩=>
  thn (ho pins s2 σ H2 x y v u _ I2 r1 r2 q2) λ d s3 ⟨z,H3,I3,r3,k,e,q3⟩=>?_)) hm
 subst e;cases r3;refine wpAny_truthy_bool ?_;cases k with
 |false=>
  obtain⟨k',e',q'⟩:=q3;cases e';exact ite_ff ⟨H3,I3,q'⟩
 |true=>
  refine ite_tt (test_last (thn (hc pins s3 σ H3 _ I3 q3) λ w' s4 ⟨z',H4,I4,r4,q4⟩=>thn (ho' pins s4 σ H4 y z' u w' _ I4 r2 r4 q4) λ d' s5 ⟨z2,H5,I5,r5,k2,e2,q5⟩=>?_));subst e2;cases r5;exact wpAny_truthy_bool ⟨H5,I5,q5⟩
def aKo(K:PySem.W.Frag)(x:V)(H:Hp)(k:Bool):Prop:=
 match x with
 | .non=>k=false
 | .bl b=>k=b
 | .int i=>k=(i !=0)
 | .str y=>y.length<=sizeLine/\k=((y.length:Int)!=0)
 | .byt y=>y.size<=sizeLine/\k=((y.size:Int)!=0)
 | .ref p=>(∃xs,SqL K H p xs/\k= !xs.isEmpty)\/(∃xs,SqT K H p xs/\k= !xs.isEmpty)\/∃kvs,H p=some (.dK kvs)/\k= !kvs.isEmpty
 |_=>False
theorem aCs{κ:Type}{kvs:List (κ×V)}{vs:List (κ×Value)}(r:KV kvs vs):(!vs.isEmpty)= !kvs.isEmpty:=by
 cases r<;>rfl
theorem wg{xs:List V}{its:List Value}(r:Vals xs its):(!its.toArray.isEmpty)= !xs.isEmpty:=by
 cases r<;>simp
theorem wQ:(sizeLine:Nat)<2^63:=by rw[sizeLine_eq];decide
theorem aJK:aME X (λ x H Q=>∃k,aKo X.K x H k/\Q k H):=by
 intro pins s σ H x v Q I rx h;obtain⟨k,e,q⟩:=h;have hl:=wQ;have hs:sizeLine=16777216:=sizeLine_eq;cases x with
 |non=>
  cases rx;have e':k=false:=e;subst e';exact truthy_none ⟨H,I,q⟩
 |bl b=>
  cases rx;have e':k=b:=e;subst e';exact wpAny_truthy_bool ⟨H,I,q⟩
 |int i=>
  obtain⟨t,rfl⟩:=rx;have e':k=(i !=0):=e;subst e';exact PySem.P.truthy_int ⟨H,I,q⟩
 |str y=>
  obtain⟨t,rfl⟩:=rx;obtain⟨hy,e'⟩:y.length<=sizeLine/\k=((y.length:Int)!=0):=e;subst e';exact PySem.P.truthy_str (by omega) ⟨H,I.tok _,q⟩
 |byt y=>
  obtain⟨t,rfl⟩:=rx;obtain⟨hy,e'⟩:y.size<=sizeLine/\k=((y.size:Int)!=0):=e;subst e';exact PySem.W.truthy_bytes (by omega) ⟨H,I.tok _,q⟩
 |ref p=>
  cases rx;have e':(∃xs,SqL X.K H p xs/\k= !xs.isEmpty)\/(∃xs,SqT X.K H p xs/\k= !xs.isEmpty)\/∃kvs,H p=some (.dK kvs)/\k= !kvs.isEmpty:=e
  rcases e' with ⟨xs,hx,e'⟩|⟨xs,hx,e'⟩|⟨kvs,hx,e'⟩
  ·subst e'
   obtain⟨its,r,pl,hz⟩:=I.list hx;have hlen:=r.length;exact wpAny_truthy_list pl.isList (by simp only[List.size_toArray];omega) ⟨H,I.tok _,by rw[wg r];exact q⟩
  ·subst e'
   obtain⟨its,r,pl,hz⟩:=I.tuple hx;have hlen:=r.length;exact truthy_tuple pl (by simp only[List.size_toArray];omega) ⟨H,I.tok _,by rw[wg r];exact q⟩
  ·subst e'
   obtain⟨hz,hS,vs,r,m⟩:kvs.length<=sizeLine/\(p==sysModules)=false/\∃vs,KV kvs vs/\s.heap.DictOf (aAU X.prog X.w) p vs:=I.hok p _ hx
   have hlen:kvs.length=vs.length:=Paired.length r;exact wpAny_truthy_dict hS m (by omega) ⟨H,I.tok _,by rw[aCs r];exact q⟩
 |_=>exact(show False from e).elim
theorem aF3(ha:PE X a ta)(he:∀whole,isTrue a X.env whole=(do let v <-whole;standAt a.pos;holding [v] (truthy v))):
  PT X a (λ σ H Q=>ta σ H λ x H'=>∃k,aKo X.K x H' k/\Q k H'):=by
 intro pins s σ H Q I h;exact isTrue_plain (thn (ha pins s σ H _ I h) λ v s1 ⟨x,H1,I1,r1,q1⟩=>aJK pins s1 σ H1 x v Q I1 r1 q1) (he _)
theorem vals1{x:V}{us:List Value}(r:Vals [x] us):∃u,us=[u]/\RelV x u:=by
 cases r with
 |cons r1 r2=>cases r2;exact⟨_,rfl,r1⟩
theorem vals2{x y:V}{us:List Value}(r:Vals [x,y] us):∃u w',us=[u,w']/\RelV x u/\RelV y w':=by
 cases r with
 |cons r1 r2=>
  cases r2 with
  |cons r3 r4=>cases r4;exact⟨_,_,rfl,r1,r3⟩
theorem aEa(hc:X.calm=true):dG X (.builtin "max") (λ xs H Q=>∃i j,xs=[.int i,.int j]/\Q (.int (if j>i then j else i)) H):=by
 intro pins s σ H xs us Q I r h;obtain⟨i,j,rfl,q⟩:=h;obtain⟨u,w',rfl,⟨t,rfl⟩,⟨t',rfl⟩⟩:=vals2 r;refine max_two_ints (I.ok.hd hc) λ h' tk k=>⟨_,H,I.kept k,?_,q⟩
 by_cases hj:j>i
 ·rw[if_pos hj,if_pos hj];exact⟨_,rfl⟩
 ·rw[if_neg hj,if_neg hj];exact⟨_,rfl⟩
theorem aE9(hc:X.calm=true):dG X (.builtin "min") (λ xs H Q=>∃i j,xs=[.int i,.int j]/\Q (.int (if j<i then j else i)) H):=by
 intro pins s σ H xs us Q I r h;obtain⟨i,j,rfl,q⟩:=h;obtain⟨u,w',rfl,⟨t,rfl⟩,⟨t',rfl⟩⟩:=vals2 r;refine min_two_ints (I.ok.hd hc) λ h' tk k=>⟨_,H,I.kept k,?_,q⟩
 by_cases hj:j<i
 ·rw[if_pos hj,if_pos hj];exact⟨_,rfl⟩
 ·rw[if_neg hj,if_neg hj];exact⟨_,rfl⟩
end
structure aIa(h:Heap)(x dx C:Addr)(mA:Str->Option Value):Prop where
 obj:h.get? x=some (PySem.W.instObj C dx)
 ns:h.Ns1 dx mA
 ne:dx≠x
theorem aEP{h:Heap}{dx:Addr}{mA:Str->Option Value}(n:h.Ns1 dx mA):∃od,h.get? dx=some od/\∀name,PySem.W.lookIn name od=some (mA name):=by
 obtain⟨o,es,ep,ho,hd,hk,_,hm⟩:=n;refine⟨o,ho,λ name=>?_⟩;have e:=hm name;unfold nsFind findBy at e;rw[<-Array.find?_toList]at e;unfold PySem.W.lookIn;rw[hd];dsimp only;split
 ·rename_i y q
  rw[q]at e;exact congrArg some e
 ·rename_i q
  rw[q]at e;have a:es.toList.any (·.refKey)=false:=by
   rw[List.any_eq_false];intro y hy;obtain⟨z,t,hkey⟩:=hk y (Array.mem_toList_iff.mp hy);simp[DictEntry.refKey,hkey]
  have a':¬es.toList.any (·.refKey)=true:=by rw[a];exact Bool.false_ne_true
  rw[if_neg a'];exact congrArg some e
theorem aIa.look{h:Heap}{x dx C:Addr}{mA:Str->Option Value}(I:aIa h x dx C mA):∃od,PySem.W.InstAt h x (PySem.W.instObj C dx) C (some od)/\∀name,PySem.W.lookIn name od=some (mA name):=
 let⟨od,ho,hl⟩:=aEP I.ns
 ⟨od,⟨I.obj,rfl,rfl,ho⟩,hl⟩
section
variable{prog:Program}{w:World}{A:Around}{E:Value->Shared->Prop}{s:Shared}{K:PySem.W.Frag}{x dx C f:Addr}{mA:Str->Option Value}{name:Str}{v:Value}
theorem aGZ{pl:Sem Bool}{Q:Value×List Value->Shared->Prop}(X:K.In s.heap)(I:aIa s.heap x dx C mA)(hg:PySem.W.plainGet K C name=true)
  (hf:PySem.W.findIn K (.ref C) name=some (some (.ref f)))(ht:PySem.W.isFn K (.ref f)=true)(hv:mA name=none)(h:Q (.ref f,[.ref x]) s):
  wpAny (model prog w) A (getMethod (.ref x) name pl) Q E s:=by
 obtain⟨od,J,hl⟩:=I.look;exact PySem.W.method_fn X J (PySem.W.plainGet_of hg).1 (PySem.W.plainGet_of hg).2 hf (beq_iff_eq.mp ht) (by show(PySem.W.lookIn name od).map (·.isSome)=some false;rw[hl,hv];rfl) h
theorem make_map{R:Result->Shared->Prop}{vs:List Value}{kw:List (Str×Value)}(X:K.In s.heap)(hm:PySem.W.makesIn K C=true)
  (hi:PySem.W.findIn K (.ref C) "__init__"=some (some (.ref f)))(hf:PySem.W.typeIn K (.ref f)=some (.type "function"))
  (h:codeAny (model prog w) (A.under (.builtin "type.__call__" ⟨.ref C::vs,kw⟩)) (.call (.ref f) ⟨.ref (s.heap.objs.size+1)::vs,kw⟩) (PySem.W.InitBack (s.heap.objs.size+1) R)
   {s with heap:=(s.heap.push PySem.W.emptyDict).push (PySem.W.instObj C s.heap.objs.size)}):
  codeAny (model prog w) A (.call (.ref C) ⟨vs,kw⟩) R s:=by
 obtain⟨hh,g,d,t,os⟩:=s;exact PySem.W.make_core (PySem.W.makes_of X hm) (PySem.W.looks_findIn X hi) (λ self=>PySem.W.bind_fn X self hf) (.inl rfl) h
end
theorem aEf.none_of{o:Option Value}(r:aEf none o):o=none:=by
 cases o with
 |none=>rfl
 |some u=>exact(show False from r).elim
section
variable{P:Program}{w:World}{H H':Hp}{h h':Heap}{a C dx:Addr}{fs fs':List (Str×V)}
theorem aAa(hok:HOk P w H h)(e:H a=some (.ins C dx fs)):∃mA,aIa h a dx C mA/\(∀f,aEf (fs.lookup f) (mA f))/\PySem.Within mA (fs.map (·.1))/\fs.length<=1000/\H dx=some (.own a):=by
 obtain⟨d,z,ne,ob,mA,n,r,q⟩:=(show dZ P w H h a (.ins C dx fs)from hok a _ e);exact⟨mA,⟨ob,n,ne⟩,r,q,z,d⟩
end
structure Cls(K:PySem.W.Frag)(C:Addr):Prop where
 pg:PySem.W.plainGet K C Str.empty=true
 hd:PySem.W.hasDictIn K C=true
 po:PySem.W.plainOver K C=true
 sa:PySem.W.findIn K (.ref C) "__setattr__"=some (some (.builtin "object.__setattr__"))
theorem Cls.get{K:PySem.W.Frag}{C:Addr}(c:Cls K C)(f:Str):PySem.W.plainGet K C f=true:=c.pg
def aKr(K:PySem.W.Frag)(C:Addr)(f:Str):Prop:=PySem.W.findIn K (.ref C) f=some none
structure Meth(K:PySem.W.Frag)(C:Addr)(m:Str)(f:Addr):Prop where
 at_:PySem.W.findIn K (.ref C) m=some (some (.ref f))
 fn:PySem.W.isFn K (.ref f)=true
 kp:PySem.W.keepIn K (.ref f)=true
section
variable{X:Cx}{pins:List (Addr×Obj)}{σ:St}{H:Hp}{s:Shared}{a C dx:Addr}{fs:List (Str×V)}{f:Str}{v:V}{A:Around}{E:Value->Shared->Prop}
theorem aCv{m:Str}{g:Addr}{pl:Sem Bool}{Q:Value×List Value->Shared->Prop}(I:Inv X pins σ H s)(e:H a=some (.ins C dx fs))(c:Cls X.K C)(k:Meth X.K C m g)(l:fs.lookup m=none)
  (h:Q (.ref g,[.ref a]) s):wpAny (model X.prog X.w) A (getMethod (.ref a) m pl) Q E s:=by
 obtain⟨mA,O,r,_,_,_⟩:=aAa I.hok e;have hn:mA m=none:=aEf.none_of (by rw[<-l];exact r m);exact aGZ I.kIn O (c.get m) k.at_ k.fn hn h
theorem Inv.made(I:Inv X pins σ H s):Inv X pins σ (upd (upd H s.heap.objs.size (.own (s.heap.objs.size+1))) (s.heap.objs.size+1) (.ins C s.heap.objs.size []))
  {s with heap:=(s.heap.push PySem.W.emptyDict).push (PySem.W.instObj C s.heap.objs.size)}:=by
 have e1:(s.heap.push PySem.W.emptyDict).get? s.heap.objs.size=some PySem.W.emptyDict:=Heap.get?_push_size s.heap rfl;have e2:((s.heap.push PySem.W.emptyDict).push (PySem.W.instObj C s.heap.objs.size)).get? (s.heap.objs.size+1)=some (PySem.W.instObj C s.heap.objs.size):=by
  have:=Heap.get?_push_size (s.heap.push PySem.W.emptyDict) (o:=PySem.W.instObj C s.heap.objs.size) rfl
  rwa [Heap.size_push]at this
 have e3:(s.heap.push PySem.W.emptyDict).Ns s.heap.objs.size (λ _=>none):=⟨PySem.W.emptyDict,#[],_,e1,rfl,(λ e he=>absurd he (by simp)),λ _=>rfl⟩;have I1:=I.laid (a:=s.heap.objs.size) (o:=.own (s.heap.objs.size+1)) (h':=s.heap.push PySem.W.emptyDict) (t':=s.toks) (λ b u q=>Heap.get?_push_of_some _ q) (Nat.le_refl _) ⟨_,e1⟩;refine I1.laid (a:=s.heap.objs.size+1) (o:=.ins C s.heap.objs.size []) (t':=s.toks) (λ b u q=>Heap.get?_push_of_some _ q) (Nat.le_of_eq (Heap.size_push _ _)) ?_;have ne:s.heap.objs.size≠s.heap.objs.size+1:=Nat.ne_of_lt (Nat.lt_succ_self _);refine⟨by rw[aZ ne,bA],Nat.zero_le _,ne,e2,λ _=>none,(Heap.Ns1.of_empty e3).at λ o q=>Heap.get?_push_of_some _ q,λ _=>True.intro,λ y hy=>absurd rfl hy⟩
end
def tFld(K:PySem.W.Frag)(ta:TE)(f:Str):TE:=λ σ H Q=>ta σ H λ x H1=>∃a C dx fs v,x= .ref a/\H1 a=some (.ins C dx fs)/\Cls K C/\aKr K C f/\fs.lookup f=some v/\Q v H1
section
variable{X:Cx}{o e value:Expr}{f:Str}{pos pos' tpos:Pos}{ta tv:TE}
theorem methcall_of{pl:Sem Bool}{m:Str}{apos:Pos}{args:List Expr}{pins:List (Addr×Obj)}{s:Shared}{σ:St}{H:Hp}{Q:Value->Shared->Prop}{te:TE}(he:PE X e te)(I:Inv X pins σ H s)
  (h:te σ H λ x H1=>∃a C dx fs g,x= .ref a/\H1 a=some (.ins C dx fs)/\Cls X.K C/\Meth X.K C m g/\fs.lookup m=none/\
   ∀s1,Inv X pins σ H1 s1->wpAny (model X.prog X.w) X.A (callWith pos (.ref g) [.ref a] (backTo pos (starEach args X.env)) (backToKw pos (keywordEach [] X.env))) Q X.xe s1)
  (ht:eval (.Call (.Attribute e m apos) args [] pos) X.env=(do
   let ov <-eval e X.env
   standAt apos.atName
   let(f,first) <-holding [ov] (getMethod ov m pl)
   callWith pos f first (backTo pos (starEach args X.env)) (backToKw pos (keywordEach [] X.env)))):
  wpAny (model X.prog X.w) X.A (eval (.Call (.Attribute e m apos) args [] pos) X.env) Q X.xe s:=by
 refine PySem.W.methodCall_KW (pl:=pl) (thn (he pins s σ H _ I h) λ u s1 ⟨x,H1,I1,rx,a,C,dx,fs,g,ex,ea,c,k,l,q⟩=>?_) ht;subst ex;obtain rfl:u=Value.ref a:=rx;exact aCv I1 ea c k l (q s1 I1)
end
section
variable{X:Cx}{pins:List (Addr×Obj)}{σ:St}{H:Hp}{s:Shared}{A:Around}{E:Value->Shared->Prop}{Q:Value->Shared->Prop}{c:Value}{b:Bool}
inductive uF(K:PySem.W.Frag)(H:Hp):V->Value->Prop where
 |non:uF K H .non (.type "NoneType")
 |bl (x:Bool):uF K H (.bl x) (.type "bool")
 |int (i:Int):uF K H (.int i) (.type "int")
 |str (x:Str):uF K H (.str x) (.type "str")
 |flt (x:UInt64):uF K H (.flt x) (.type "float")
 |lst {a:Addr} {xs:List V} (e:H a=some (.lst xs)):uF K H (.ref a) (.type "list")
 |frz {a:Addr} {o:Obj} {xs:List V} (e:H a=some (.frz o (.lst xs))):uF K H (.ref a) (.type "list")
 |tup {a:Addr} {xs:List V} (e:H a=some (.tup xs)):uF K H (.ref a) (.type "tuple")
 |dK {a:Addr} {kvs:List (Key×V)} (e:H a=some (.dK kvs)):uF K H (.ref a) (.type "dict")
 |dT {a:Addr} {kvs:List (List Key×V)} (e:H a=some (.dT kvs)):uF K H (.ref a) (.type "dict")
 |ins {a C dx:Addr} {fs:List (Str×V)} (e:H a=some (.ins C dx fs)) (cl:Cls K C) (ha:PySem.W.findIn K (.ref C) "__class__"=some (some (.builtin "object.__class__")))
   (hn:PySem.W.specialIn K (.builtin "object.__class__") "__get__"=some (some (.builtin "getset_descriptor.__get__"))) (htk:PySem.W.takesIn K (.builtin "object.__class__")=some true)
   (hm:PySem.W.mroIn K C (.type "object")=some true):uF K H (.ref a) (.ref C)
theorem aEY{x:V}{u t:Value}(I:Inv X pins σ H s)(rx:RelV x u)(ty:uF X.K H x t)(e:PySem.W.kitOne X.K t c=some b)(h:∀tk,Q (.bool b) {s with toks:=tk}):
  wpAny (model X.prog X.w) A (call (.builtin "isinstance") [u,c]) Q E s:=by
 cases ty with
 |non=>cases (show u=Value.none from rx);exact PySem.W.kia_one PySem.W.kitx_none I.kIn True.intro e (λ z=>nomatch z) h
 |bl y=>cases (show u=Value.bool y from rx);exact PySem.W.kia_one PySem.W.kitx_bool I.kIn True.intro e (λ z=>nomatch z) h
 |int i=>obtain⟨t,q⟩:=(show∃t,u=Value.int i t from rx);cases q;exact PySem.W.kia_one PySem.W.kitx_int I.kIn True.intro e (λ z=>nomatch z) h
 |str y=>obtain⟨t,q⟩:=(show∃t,u=Value.str y t from rx);cases q;exact PySem.W.kia_one PySem.W.kitx_str I.kIn True.intro e (λ z=>nomatch z) h
 |flt y=>obtain⟨t,q⟩:=(show∃t,u=Value.float y t from rx);cases q;exact PySem.W.kia_one PySem.W.kitx_float I.kIn True.intro e (λ z=>nomatch z) h
 |@lst a xs ea=>
  cases (show u=Value.ref a from rx);obtain⟨_,_,n,_,h1⟩:=(show dZ X.prog X.w H s.heap a (.lst xs)from I.hok a _ ea);exact PySem.W.kia_one PySem.W.kitx_list I.kIn ⟨_,h1,rfl⟩ e (λ z=>nomatch z) h
 |@frz a ob xs ea=>
  cases (show u=Value.ref a from rx);obtain⟨_,_,_,n,_,h1⟩:=(show dZ X.prog X.w H s.heap a (.frz ob (.lst xs))from I.hok a _ ea);exact PySem.W.kia_one PySem.W.kitx_list I.kIn ⟨_,h1,rfl⟩ e (λ z=>nomatch z) h
 |@tup a xs ea=>
  cases (show u=Value.ref a from rx);obtain⟨_,_,_,p⟩:=(show dZ X.prog X.w H s.heap a (.tup xs)from I.hok a _ ea);obtain⟨o,h1,h2,_⟩:=p;exact PySem.W.kia_one PySem.W.kitx_tuple I.kIn ⟨o,h1,h2⟩ e (λ z=>nomatch z) h
 |@dK a kvs ea=>
  cases (show u=Value.ref a from rx);obtain⟨_,_,vs,_,p⟩:=(show dZ X.prog X.w H s.heap a (.dK kvs)from I.hok a _ ea);obtain⟨o,es,ep,h1,h2,_⟩:=p;exact PySem.W.kia_one PySem.W.kitx_dict I.kIn ⟨o,h1,h2.1⟩ e (λ z=>nomatch z) h
 |@dT a kvs ea=>
  cases (show u=Value.ref a from rx);obtain⟨_,_,xs,_,o,es,ep,h1,h2,_⟩:=(show dZ X.prog X.w H s.heap a (.dT kvs)from I.hok a _ ea);exact PySem.W.kia_one PySem.W.kitx_dict I.kIn ⟨o,h1,h2.1⟩ e (λ z=>nomatch z) h
 |@ins a C dx fs ea cl ha hn htk hm=>
  cases (show u=Value.ref a from rx);obtain⟨mA,O,_⟩:=aAa I.hok ea;obtain⟨od,J,_⟩:=O.look;exact PySem.W.kia_one (PySem.W.kitx_own (cl.get _) cl.hd ha hn htk hm) I.kIn J e (λ z=>nomatch z) h
end
structure fY(k:Nat)(A:Around):Prop where
 hd:A.handled=none
 dp:A.depth+3*k+5<recursionLimit
 un:A.units+16*k+200<cLine
theorem fY.mono{j k:Nat}{A:Around}(r:fY k A)(h:j<=k):fY j A:=⟨r.hd,by have:=r.dp;omega,by have:=r.un;omega⟩
theorem fY.deeper{k:Nat}{A:Around}(r:fY (k+1) A)(env:Env):fY k (A.deeper env):=
 ⟨r.hd,by have:=r.dp;show A.depth+1+3*k+5<_;omega,by have:=r.un;show A.units+3+16*k+200<_;omega⟩
theorem fY.depth{k:Nat}{A:Around}(r:fY k A):A.depth<recursionLimit:=by have:=r.dp;omega
theorem fY.units{k:Nat}{A:Around}(r:fY k A):A.units+64<cLine:=by have:=r.un;omega
theorem fY.units0{k:Nat}{A:Around}(r:fY k A):A.units<cLine:=by have:=r.un;omega
def rB:TA:=λ _ H Q=>Q [] H
def jo(ta:TE)(tr:TA):TA:=λ σ H Q=>ta σ H λ x H1=>tr σ H1 λ xs H2=>Q (x::xs) H2
section
variable{X:Cx}{e:Expr}{es:List Expr}{te:TE}{t:TA}{pos:Pos}
theorem dU:PA X [] rB:=λ _ _ _ _ H Q I h=>Calls.spliced_nil ⟨[],H,I,.nil,h⟩
theorem az(ha:PE X e te)(hr:PA X es t)(hs:starEach (e::es) X.env=(false,eval e X.env)::starEach es X.env:=by rfl):PA X (e::es) (jo te t):=by
 intro pos pins s σ H Q I h;rw[hs];show wpAny _ _ (spliced ((false,eval e X.env)::backTo pos (starEach es X.env))) _ _ s;refine Calls.spliced_cons (thn (ha pins s σ H _ I h) λ u s1 ⟨x,H1,I1,r1,q1⟩=>?_);exact thn (hr pos pins s1 σ H1 _ I1 q1) λ us s2 ⟨xs,H2,I2,r2,q2⟩=>⟨x::xs,H2,I2,.cons r1 r2,q2⟩
def aLn(t:TA):TE:=λ σ H Q=>t σ H λ xs H1=>xs.length<=sizeLine/\∀p,H1 p=none->Q (.ref p) (upd H1 p (.tup xs))
def aLr(t:TA):TE:=λ σ H Q=>t σ H λ xs H1=>xs.length<=sizeLine/\∀p,H1 p=none->Q (.ref p) (upd H1 p (.lst xs))
theorem aJe{x1}(h:PA X es t):PE X (.Tuple es x1 pos) (aLn t):=by
 intro pins s σ H Q I hq;refine wpAny_Tuple_spliced (thn (h pos pins s σ H _ I hq) λ us s1 ⟨xs,H1,I1,r,z,q⟩=>⟨by rw[<-r.length];exact z,?_⟩);have hf:H1 s1.heap.objs.size=none:=I1.hok.fresh (Nat.le_refl _);refine⟨.ref s1.heap.objs.size,upd H1 s1.heap.objs.size (.tup xs),I1.laid (t':=s1.toks) (λ b u e=>Heap.get?_push_of_some _ e) (Nat.le_refl _) ?_,rfl,q _ hf⟩;exact⟨z,us,r,⟨_,Heap.get?_push_size _ rfl,rfl,_,rfl⟩⟩
theorem aJi(h:PA X es t):PE X (.List es pos) (aLr t):=by
 intro pins s σ H Q I hq;refine wpAny_List_spliced (thn (h pos pins s σ H _ I hq) λ us s1 ⟨xs,H1,I1,r,z,q⟩=>⟨by rw[<-r.length];exact z,?_⟩);have hf:H1 s1.heap.objs.size=none:=I1.hok.fresh (Nat.le_refl _);refine⟨.ref s1.heap.objs.size,upd H1 s1.heap.objs.size (.lst xs),I1.laid (t':=s1.toks) (λ b u e=>Heap.get?_push_of_some _ e) (Nat.le_refl _) ?_,rfl,q _ hf⟩;exact⟨z,us,0,r,Heap.get?_push_size _ rfl⟩
end
abbrev Sp:=List V->Hp->VK->XK->Prop
abbrev CXT:=List Env->Hp->Shared->XK->Value->Shared->Prop
structure aBv(P:Program)(w:World)(K:PySem.W.Frag)(mg:Str->Option Value)(base:Heap)(A:Around)(outer:List Env)(s:Shared)(H:Hp):Prop where
 frames:A.frames=some outer
 mod:Mod K mg base
 bs:∀b o,base.get? b=some o->s.heap.get? b=some o/\H b=none
 bsz:base.objs.size<=s.heap.objs.size
 funs:s.heap.FunFrames base outer
 frf:∀b∈frs outer,H b=none
 hok:HOk P w H s.heap
 bare:AllBare s.gens
def CE(outer:List Env)(P:Program)(w:World)(H:Hp)(s:Shared)(Q:VK)(u:Value)(s':Shared):Prop:=
 ∃v H',s'.os=s.os/\AllBare s'.gens/\Un (frs outer) [] H H' s.heap s'.heap/\HOk P w H' s'.heap/\RelV v u/\Q v H'
def CR(CX:CXT)(outer:List Env)(P:Program)(w:World)(H:Hp)(s:Shared)(Q:VK)(E:XK)(r:Result)(s':Shared):Prop:=
 match r with
 | .ok (.ret u)=>CE outer P w H s Q u s'
 | .ok _=>False
 | .error e=>CX outer H s E e s'
structure cg(P:Program)(w:World)(K:PySem.W.Frag)(mg:Str->Option Value)(base:Heap)(CX:CXT)(k:Nat)(f:Addr)(fd:FuncData)(ps:List Str)(sp:Sp):Prop where
 len:∀vs H Q E,sp vs H Q E->vs.length=ps.length
 run:∀(A:Around) (outer:List Env) (s:Shared) (H:Hp) (args:Args) (us:List Value) (vs:List V) (Q:VK) (E:XK),fY k A->aBv P w K mg base A outer s H->BindsTo s fd args (ps.zip us)->Vals vs us->sp vs H Q E->
  codeAny (model P w) A (.call (.ref f) args) (CR CX outer P w H s Q E) s
section
variable{X:Cx}{pins:List (Addr×Obj)}{σ:St}{H:Hp}{s s':Shared}
theorem Inv.env0(I:Inv X pins σ H s):aBv X.prog X.w X.K X.mg X.base X.A X.stack s H:=
 ⟨I.ok.frames,I.ok.mod,I.bs,Nat.le_trans I.ok.bsz I.sz,I.stack,I.stkFree,I.hok,I.bare⟩
theorem Inv.after{Q:VK}{u:Value}(I:Inv X pins σ H s)(h:CE X.stack X.prog X.w H s Q u s'):EP X pins σ Q u s':=by
 obtain⟨v,H',os,bare,un,hok,r,q⟩:=h;obtain⟨hh,g,d,t,os'⟩:=s';obtain rfl:os'=s.os:=os;exact⟨v,H',I.call (h':=hh) (g':=g) (d':=d) (t':=t) (ch:=[]) un hok bare (λ b z=>absurd z (by simp)),r,q⟩
end
def yd(sp:Sp)(dvs:List V)(E:XK)(t:TA):TE:=λ σ H Q=>t σ H λ vs H1=>sp (vs++dvs) H1 Q E
def tMeth(C:Addr)(m:Str)(sp:Sp)(dvs:List V)(E:XK)(ta:TE)(t:TA):TE:=λ σ H Q=>ta σ H λ x H1=>∃a dx fs,x= .ref a/\H1 a=some (.ins C dx fs)/\fs.lookup m=none/\
 t σ H1 λ vs H2=>sp (x::(vs++dvs)) H2 Q E
def tMake(C:Addr)(sp:Sp)(dvs:List V)(E:XK)(t:TA):TE:=λ σ H Q=>t σ H λ vs H1=>∀x dx,H1 x=none->H1 dx=none->dx≠x->
 sp (.ref x::(vs++dvs)) (upd (upd H1 dx (.own x)) x (.ins C dx [])) (λ v H2=>v= .non/\Q (.ref x) H2) E
def Binds(K:PySem.W.Frag)(fd:FuncData)(ps:List Str)(ds:List Value):Prop:=
 ∀(s:Shared) (us:List Value),K.In s.heap->(us++ds).length=ps.length->BindsTo s fd ⟨us,[]⟩ (ps.zip (us++ds))
theorem Binds.all{K:PySem.W.Frag}{fd:FuncData}{ps:List Str}(h:∀us:List Value,us.length=ps.length->bindArgs fd ⟨us,[]⟩=pure (ps.zip us)):Binds K fd ps []:=λ s us _ hl=>by
 rw[List.append_nil]at hl ⊢;exact .of_eq (h us hl)
def qu(CX:CXT)(X:Cx)(E:XK):Prop:=∀(pins:List (Addr×Obj)) (σ:St) (H:Hp) (s:Shared) (e:Value) (s':Shared),Inv X pins σ H s->CX X.stack H s E e s'->X.xe e s'
section
variable{X:Cx}{CX:CXT}{k:Nat}{f C:Addr}{fd:FuncData}{ps:List Str}{sp:Sp}{dvs:List V}{ds:List Value}{E:XK}{x m:Str}{p pos apos:Pos}{e o:Expr}{es:List Expr}{ta:TE}{t:TA}
theorem aCP{pins:List (Addr×Obj)}{σ:St}{H:Hp}{s:Shared}{Q:VK}{us:List Value}{vs:List V}(F:cg X.prog X.w X.K X.mg X.base CX k f fd ps sp)(hr:fY k X.A)(hb:Binds X.K fd ps ds)(hd:Vals dvs ds)(hx:qu CX X E)
  (I:Inv X pins σ H s)(r:Vals vs us)(h:sp (vs++dvs) H Q E):wpAny (model X.prog X.w) X.A (call (.ref f) us) (EP X pins σ Q) X.xe s:=by
 have r2:Vals (vs++dvs) (us++ds):=r.append hd;have hl:(us++ds).length=ps.length:=by rw[<-r2.length];exact F.len _ _ _ _ h
 refine wpAny_call (codeAny_mono (F.run X.A X.stack s H ⟨us,[]⟩ (us++ds) (vs++dvs) Q E hr I.env0 (hb s us I.kIn hl) r2 h) λ r s' hq=>?_);cases r with
 |error e=>exact hx pins σ H s e s' I hq
 |ok fl=>
  cases fl with
  |ret u=>exact I.after hq
  |next=>exact False.elim hq
  |brk=>exact False.elim hq
  |cont=>exact False.elim hq
theorem aHa(F:cg X.prog X.w X.K X.mg X.base CX k f fd ps sp)(hr:fY k X.A)(hg:Gl X x)(hm:X.mg x=some (.ref f))(hk:PySem.W.keepIn X.K (.ref f)=true)(hb:Binds X.K fd ps ds)(hd:Vals dvs ds)(hx:qu CX X E)
  (ha:PA X (e::es) t)(hdb:(x==("__debug__":Str))=false:=by decide)(he:starEach (e::es) X.env=(false,eval e X.env)::starEach es X.env:=by rfl)(hpl:(backTo pos (starEach es X.env)).any (·.1)=false:=by rfl):
  PE X (.Call (.Name x p) (e::es) [] pos) (yd sp dvs E t):=by
 intro pins s σ H Q I h;refine wpAny_Call_Name_kw (pG I hg hm ?_ hdb);refine PySem.W.callWith_K (h₀:=X.base) I.ok.mod.kin hk (thn (ha pos pins s σ H _ I h) λ us s1 ⟨vs,H1,I1,r,q⟩=>⟨I1.kIn,?_⟩) he hpl;exact aCP F hr hb hd hx I1 r q
end
section
variable{X:Cx}{CX:CXT}{k:Nat}{f C:Addr}{fd:FuncData}{ps ks:List Str}{sp:Sp}{E:XK}{x m:Str}{p pos apos kpos:Pos}{e o:Expr}{es:List Expr}{kws:List Keyword}{te ta:TE}{t tk:TA}{nm:Option Str}
variable{g:List Value->List Value->List Value}{gV:List V->List V->List V}
end
structure aa(N P:List Str)(sc:Scope):Prop where
 kind:sc.kind= .function
 co:sc.isCoroutine=false
 gen:sc.isGenerator=false
 nd:N.Nodup
 pre:N.take P.length=P
 par:∀x∈P,sc.names.lookup x=some .local\/sc.names.lookup x=some .cell
 nofree:∀y∈sc.names,y.2≠.free
theorem zQ{kindOf:Str->Option NameKind}{x:Str}:∀{binds:List (Str×Value)} {m:Str->Option Value},(∀v,(x,v)∉binds)->bindL kindOf binds m x=m x
 |[],_,_=>rfl
 |(n,v)::r,m,h=>by
  unfold bindL;rw[zQ λ w hw=>h w (List.mem_cons_of_mem _ hw)];split
  ·have:x≠n:=by rintro rfl;exact h v List.mem_cons_self
   simp[this]
  ·rfl
theorem zT{kindOf:Str->Option NameKind}{x:Str}:∀{binds:List (Str×Value)} {m:Str->Option Value},(∀v,(x,v)∉binds)->bindC kindOf binds m x=m x
 |[],_,_=>rfl
 |(n,v)::r,m,h=>by
  unfold bindC;rw[zT λ w hw=>h w (List.mem_cons_of_mem _ hw)];split
  ·rfl
  ·have:x≠n:=by rintro rfl;exact h v List.mem_cons_self
   simp[this]
theorem zR{kindOf:Str->Option NameKind}{x:Str}{v:Value}:∀{P:List Str} {vs:List Value} {i:Nat} {m:Str->Option Value},P.Nodup->P[i]? =some x->vs[i]? =some v->kindOf x=some .local->
  bindL kindOf (P.zip vs) m x=some v
 |[],_,_,_,_,h,_,_=>by simp at h
 |_::_,[],_,_,_,_,h,_=>by simp at h
 |p::P,w::vs,0,m,nd,h1,h2,hk=>by
  simp at h1 h2;subst h1;subst h2;show bindL kindOf ((p,w)::P.zip vs) m p=_;unfold bindL;rw[zQ λ v hv=>(List.nodup_cons.mp nd).1 (List.of_mem_zip hv).1,if_pos hk];simp
 |p::P,w::vs,i+1,m,nd,h1,h2,hk=>by
  show bindL kindOf ((p,w)::P.zip vs) m x=_;unfold bindL;exact zR (i:=i) (List.nodup_cons.mp nd).2 (by simpa using h1) (by simpa using h2) hk
theorem zU{kindOf:Str->Option NameKind}{x:Str}{v:Value}:∀{P:List Str} {vs:List Value} {i:Nat} {m:Str->Option Value},P.Nodup->P[i]? =some x->vs[i]? =some v->kindOf x≠some .local->
  bindC kindOf (P.zip vs) m x=some v
 |[],_,_,_,_,h,_,_=>by simp at h
 |_::_,[],_,_,_,_,h,_=>by simp at h
 |p::P,w::vs,0,m,nd,h1,h2,hk=>by
  simp at h1 h2;subst h1;subst h2;show bindC kindOf ((p,w)::P.zip vs) m p=_;unfold bindC;rw[zT λ v hv=>(List.nodup_cons.mp nd).1 (List.of_mem_zip hv).1,if_neg hk];simp
 |p::P,w::vs,i+1,m,nd,h1,h2,hk=>by
  show bindC kindOf ((p,w)::P.zip vs) m x=_;unfold bindC;exact zU (i:=i) (List.nodup_cons.mp nd).2 (by simpa using h1) (by simpa using h2) hk
def start(N:List Str)(vs:List V):St:=vs.map some++List.replicate (N.length-vs.length) none
def ux(CX:CXT)(P:Program)(w:World)(K:PySem.W.Frag)(mg:Str->Option Value)(base:Heap)(N:List Str)(qual:Str)(scope:Scope)(f:Addr)(cd:Value)(A:Around)(outer:List Env)(s:Shared)(H:Hp)(E:XK):Cx where
 prog:=P
 w:=w
 K:=K
 mg:=mg
 base:=base
 A:=A.deeper (envOfC qual scope s.heap.objs.size f cd)
 N:=N
 s₀:=s
 H₀:=H
 env:=envOfC qual scope s.heap.objs.size f cd
 outer:=outer
 stack:=envOfC qual scope s.heap.objs.size f cd::outer
 ex:=[]
 calm:=true
 fn:=λ _=>true
 pn:=[]
 xe:=λ e s'=>wpAny (model P w) (A.deeper (envOfC qual scope s.heap.objs.size f cd)) (leaving (envOfC qual scope s.heap.objs.size f cd) e) (λ _ s''=>CX outer H s E e s'') (λ e' s''=>CX outer H s E e' s'') s'
theorem aBl{sc:Scope}{n:Nat}{x:Str}(h:sc.names.lookup x=some .cell):∃c,(cellsFrom n sc.names []).lookup x=some c:=by
 have q:=PySem.W.cellsFrom_some sc.names n [] (.inl h);exact Option.isSome_iff_exists.mp q
theorem tW{CX:CXT}{P:Program}{w:World}{K:PySem.W.Frag}{mg:Str->Option Value}{base:Heap}{N ps:List Str}{qual:Str}{scope:Scope}{f:Addr}{cd:Value}{A:Around}{outer:List Env}{s s1:Shared}{H:Hp}{E:XK}{us:List Value}{vs:List V}
  (S:aa N ps scope)(hd:A.handled=none)(e0:aBv P w K mg base A outer s H)(hl:vs.length=ps.length)(r:Vals vs us)
  (x:InCallC s s.heap.objs.size (bindL (envOfC qual scope s.heap.objs.size f cd).kindOf (ps.zip us) λ _=>none) (cellsFrom (s.heap.objs.size+1) scope.names []) (bindC (envOfC qual scope s.heap.objs.size f cd).kindOf (ps.zip us) λ _=>none) s1):
  Inv (ux CX P w K mg base N qual scope f cd A outer s H E) [] (start N vs) H s1:=by
 have hpl:ps.length<=N.length:=by have:=congrArg List.length S.pre;rw[List.length_take]at this;omega
 obtain⟨h1,tk,rfl,hk⟩:=x.done;have noA:∀b:Addr,b∉(ux CX P w K mg base N qual scope f cd A outer s H E).ex:=λ b z=>absurd (show b∈([]:List Addr)from z) (by simp)
 refine⟨⟨e0.mod,S.kind,rfl,rfl,Nat.le_refl _,λ y z c h1 h2=>?_,λ y hy=>?_,λ y c _ h=>?_,λ _=>hd,Around.frames_deeper e0.frames,.inr ⟨rfl,rfl⟩,λ b z=>absurd z (noA b),e0.bs,e0.bsz,λ b _ _=>noA b,λ b z=>absurd z (noA b),e0.funs,e0.frf⟩,
  rfl,e0.bare,Un.kept hk,⟨_,x.toInCall.ns,λ i y v h1 h2 h3=>?_⟩,λ y c h=>⟨_,x.cell y c h⟩,e0.hok.fresh (Nat.le_refl _),λ y c h=>?_,λ p hp=>absurd (show p∈([]:List (Addr×Obj))from hp) (by simp),e0.hok.kept hk,?_,λ p hp=>absurd (show p∈([]:List (Addr×Obj))from hp) (by simp)⟩
 ·exact name_of_addr x.apart (PySem.mem_of_lookup h1) (PySem.mem_of_lookup h2)
 ·have hy:scope.names.lookup y=some .cell\/scope.names.lookup y=some .free:=hy
  rcases hy with hy|hy
  ·exact aBl hy
  ·exact absurd rfl (S.nofree _ (PySem.mem_of_lookup hy))
 ·exact Nat.le_of_lt (x.above y c (PySem.mem_of_lookup h))
 ·have hi:i<vs.length:=by
   unfold start at h2;by_cases hi:i<vs.length
   ·exact hi
   ·rw[List.getElem?_append_right (by simpa using hi)]at h2
    rw[List.getElem?_replicate]at h2;split at h2<;>cases h2
  have ha:vs[i]? =some v:=by
   unfold start at h2;rw[List.getElem?_append_left (by simpa using hi),List.getElem?_map]at h2;cases e:vs[i]? with
   |none=>rw[e]at h2;cases h2
   |some a=>rw[e]at h2;cases h2;rfl
  obtain⟨u,hu,rv⟩:=r.get ha;have hp:ps[i]? =some y:=by
   rw[<-S.pre,List.getElem?_take_of_lt (by omega)];exact h1
  have ndP:ps.Nodup:=by rw[<-S.pre];exact S.nd.sublist (List.take_sublist _ _)
  refine⟨u,rv,?_⟩;rcases S.par y (List.mem_of_getElem? hp)with k|k
  ·exact .inl ⟨k,zR ndP hp hu k⟩
  ·obtain⟨c,e⟩:=aBl (n:=s.heap.objs.size+1) k
   refine .inr ⟨.inl k,c,e,?_⟩;have q:=x.cell y c e;rw[zU ndP hp hu (by show scope.names.lookup y≠_;rw[k];decide)]at q;exact q
 ·exact e0.hok.fresh (Nat.le_of_lt (x.above y c (PySem.mem_of_lookup h)))
 ·unfold start
  show _=N.length;rw[List.length_append,List.length_map,List.length_replicate];omega
theorem aLd{CX:CXT}{P:Program}{w:World}{K:PySem.W.Frag}{mg:Str->Option Value}{base:Heap}{k:Nat}{f:Addr}{name qual:Str}{params:Arguments}{body:List Stmt}{scope:Scope}{dV kV doc pm cdv ct oc:Value}{an od:Option Addr}
  {osl:Array (Option Value)}{N ps:List Str}{sp:Sp}(lk:K.lookup f=some ⟨oc,od,.func (PySem.W.fnOf name qual params body scope dV kV doc pm an cdv ct),osl⟩)(hcd:PySem.W.codeIn K cdv qual=true)(S:aa N ps scope)
  (len:∀vs H Q E,sp vs H Q E->vs.length=ps.length)
  (hbody:∀(A:Around) (outer:List Env) (s:Shared) (H:Hp) (vs:List V) (Q:VK) (E:XK),fY k (A.deeper (envOfC qual scope s.heap.objs.size f cdv))->sp vs H Q E->
   ∃t,PSs (ux CX P w K mg base N qual scope f cdv A outer s H E) body t/\t {nx:=λ _ H'=>Q .non H',rt:=Q} (start N vs) H):
  cg P w K mg base CX (k+1) f (PySem.W.fnOf name qual params body scope dV kV doc pm an cdv ct) ps sp:=by
 refine⟨len,λ A outer s H args us vs Q E hr e0 hb r hsp=>?_⟩;have hl:=len _ _ _ _ hsp;have KX:K.In s.heap:=e0.mod.kin.keeps λ b o e=>(e0.bs b o e).1
 have lim:s.heap.NoLimit:=e0.mod.nolimit.keeps λ b o e=>(e0.bs b o e).1
 have hkind:∀y∈ps.zip us,scope.names.lookup y.1=some .local\/(scope.names.lookup y.1=some .cell/\((cellsFrom (s.heap.objs.size+1) scope.names []).lookup y.1).isSome=true):=λ⟨n,v⟩ hy=>by
  rcases S.par n (List.of_mem_zip hy).1 with q|q
  ·exact .inl q
  ·exact .inr ⟨q,PySem.W.cellsFrom_some _ _ _ (.inl q)⟩
 refine codeAny_call_function hr.depth (KX _ _ lk) rfl S.co S.gen rfl (PySem.W.codeRec_of KX hcd) (hb _ _ _ _ ?_);refine wpAny_newFunctionEnv_cells S.kind hkind λ env he s1 x=>?_
 subst he;refine⟨lim.keeps x.toInCall.keep,codeAny_func ?_⟩;obtain⟨t,ht,hq⟩:=hbody A outer s H vs Q E (hr.deeper _) hsp;have I:Inv (ux CX P w K mg base N qual scope f cdv A outer s H E) [] (start N vs) H s1:=tW S hr.hd e0 hl r x;refine wpAny_mono (ht [] s1 (start N vs) H _ I hq) (λ fl s' hs=>?_) λ e s' hs=>hs
 have fin:∀{σ':St} {H':Hp} {v:V} {u:Value},Inv (ux CX P w K mg base N qual scope f cdv A outer s H E) [] σ' H' s'->RelV v u->Q v H'->CE outer P w H s Q u s':=
  λ{σ' H' v u} J rv q=>⟨v,H',J.os,J.bare,J.base,J.hok,rv,q⟩
 cases fl with
 |ret u=>
  obtain⟨v,σ',H',J,rv,q⟩:=hs;exact fin J rv q
 |next=>
  obtain⟨σ',H',J,q⟩:=hs;exact fin (v:=V.non) (u:=Value.none) J rfl q
 |brk=>
  obtain⟨_,_,_,q⟩:=hs;exact False.elim q
 |cont=>
  obtain⟨_,_,_,q⟩:=hs;exact False.elim q
section
variable{X:Cx}{x:Str}{p pos:Pos}{e:Expr}{es:List Expr}{t:TA}{id T:String}{r:List V->Hp->VK->Prop}
def tCB(r:List V->Hp->VK->Prop)(t:TA):TE:=λ σ H Q=>t σ H λ vs H1=>r vs H1 Q
theorem rJ(hc:dG X (.builtin id) r)(hg:Gl X x)(hm:X.mg x=none)(hv:bootBuiltins x=some (.builtin id))(ha:PA X (e::es) t)(hn:x≠"__name__":=by decide)(hdb:(x==("__debug__":Str))=false:=by decide)
  (he:starEach (e::es) X.env=(false,eval e X.env)::starEach es X.env:=by rfl)(hpl:(backTo pos (starEach es X.env)).any (·.1)=false:=by rfl):PE X (.Call (.Name x p) (e::es) [] pos) (tCB r t):=by
 intro pins s σ H Q I h;refine wpAny_Call_Name_kw (tU I hg hm hv ?_ hn hdb);exact PyProof.Rows.callWith_builtin1 (thn (ha pos pins s σ H _ I h) λ us s1 ⟨vs,H1,I1,r1,q1⟩=>hc pins s1 σ H1 vs us Q I1 r1 q1) he hpl
theorem pC(hc:dG X (.type T) r)(hg:Gl X x)(hm:X.mg x=none)(hv:bootBuiltins x=some (.type T))(ha:PA X (e::es) t)(hn:x≠"__name__":=by decide)(hdb:(x==("__debug__":Str))=false:=by decide)
  (he:starEach (e::es) X.env=(false,eval e X.env)::starEach es X.env:=by rfl)(hpl:(backTo pos (starEach es X.env)).any (·.1)=false:=by rfl):PE X (.Call (.Name x p) (e::es) [] pos) (tCB r t):=by
 intro pins s σ H Q I h;refine wpAny_Call_Name_kw (tU I hg hm hv ?_ hn hdb);exact PyProof.Rows.callWith_type1 (thn (ha pos pins s σ H _ I h) λ us s1 ⟨vs,H1,I1,r1,q1⟩=>hc pins s1 σ H1 vs us Q I1 r1 q1) he hpl
end
end L2
namespace HT
open PySem PyProof.Rows
def lexLt:List Int->List Int->Bool
 |[],[]=>false
 |[],_::_=>true
 |_::_,[]=>false
 |x::xs,y::ys=>if x=y then lexLt xs ys else decide (x<y)
theorem kE(x y:Int)(xs ys:List Int):lexLt (x::xs) (y::ys)=if x=y then lexLt xs ys else decide (x<y):=rfl
theorem yL:lexLt [] []=false:=rfl
theorem wR(y:Int)(ys:List Int):lexLt [] (y::ys)=true:=rfl
theorem wU(x:Int)(xs:List Int):lexLt (x::xs) []=false:=rfl
theorem aBe(A:Around)(s:Shared)(a:Int)(t:Tok)(c:Int)(u:Tok):∃e,SeqAt.EqAt A s (.int a t) (.int c u) e/\(e=true↔a=c):=
 ⟨(a==c),SeqAt.EqAt.int_int a t c u,by simp⟩
theorem aFV(A:Around)(s:Shared)(a:Int)(t:Tok)(c:Int)(u:Tok)(prog:Program)(w:World)(E:Value->Shared->Prop)(Q:Value->Shared->Prop)(h:Q (.bool (decide (a<c))) s):
  wpAny (model prog w) A (richCompare .Lt (.int a t) (.int c u)) Q E s:=
 (PyProof.Rows.lt_int h:wpAny (model prog w) A (compareOp .Lt (.int a t) (.int c u)) Q E s)
section
open PySem.SeqAt
open PySem.AutoSeq1(wpAny_loadPart')
open PySem.MeetsSeq PySem.MeetsSeq2 PySem.MeetsSeq3
theorem xr(l b:Addr)(items items2:Array Value)(n n2:Nat)(dd dd2:Option Addr)(sl sl2:Array (Option Value))(ns ms:List Int)(hi:IntsAre items.toList ns)(hj:IntsAre items2.toList ms):
  Meets (Builtin.«tuple.__lt__» ⟨[.ref l,.ref b],[]⟩)
   (λ _ R s=>s.heap.get? l=some {cls:=.type "tuple",dict:=dd,data:=.seq items n,slots:=sl}/\s.heap.get? b=some {cls:=.type "tuple",dict:=dd2,data:=.seq items2 n2,slots:=sl2}/\
    R (.ok (.ret (.bool (lexLt ns ms)))) s):=
 .of_wp λ prog w A R s h=>by
  obtain⟨hp,g,d,tk,os⟩:=s;obtain⟨hl,hb,h⟩:=h;have f2:=AutoSeq1.sub_tuple_tuple;have z1:items.size=ns.length:=by rw[<-hi.length];simp
  have z2:items2.size=ms.length:=by rw[<-hj.length];simp
  wp_walk using wpAny_loadPart' hl,wpAny_loadPart' hb,wpAny_forIn_list _ (λ rest b s'=>b.1=none/\s'=⟨hp,g,d,tk,os⟩/\∃(vs ws:List Value) (ns' ms':List Int),rest=vs.zip ws/\
   IntsAre vs ns'/\IntsAre ws ms'/\ns'.length+items2.size=ms'.length+items.size/\R (.ok (.ret (.bool (lexLt ns' ms')))) ⟨hp,g,d,tk,os⟩) _
  case turn=>
   rintro⟨y,x⟩ rest b s' ⟨hb',rfl,vs,ws,ns',ms',hz,hvi,hwi,hlen,hR⟩;cases hvi with
   |nil=>rw[List.zip_nil_left]at hz;cases hz
   |cons a t hvi'=>
    cases hwi with
    |nil=>rw[List.zip_nil_right]at hz;cases hz
    |cons c u hwi'=>
     rw[List.zip_cons_cons]at hz;injection hz with hyx hrest
     injection hyx with hy hx
     subst hy hx;rw[kE]at hR;simp only[List.length_cons]at hlen;obtain⟨e,he,hiff⟩:=aBe A.in1 ⟨hp,g,d,tk,os⟩ a t c u;refine wpAny_bind (he prog w _ _ ?_);cases e with
     |true=>
      rw[if_pos (hiff.mp rfl)]at hR;wp_walk;exact⟨rfl,rfl,_,_,_,_,hrest,hvi',hwi',by omega,hR⟩
     |false=>
      rw[if_neg (λ q=>absurd (hiff.mpr q) Bool.false_ne_true)]at hR;have hri:=aFV A.in1 ⟨hp,g,d,tk,os⟩ a t c u prog w;wp_walk using hri;exact⟨_,rfl,by simpa using hR⟩
  case fin=>
   rintro⟨b1,b2⟩ s' ⟨hb',rfl,vs,ws,ns',ms',hz,hvi,hwi,hlen,hR⟩;simp only at hb';subst hb';have hv:lexLt ns' ms'=decide (items.size<items2.size):=by
    cases hvi with
    |nil=>
     cases hwi with
     |nil=>
      simp only[List.length_nil]at hlen;rw[yL];exact(decide_eq_false (by omega)).symm
     |cons c u hw=>
      simp only[List.length_nil,List.length_cons]at hlen;rw[wR];exact(decide_eq_true (by omega)).symm
    |cons a t hv=>
     cases hwi with
     |nil=>
      simp only[List.length_nil,List.length_cons]at hlen;rw[wU];exact(decide_eq_false (by omega)).symm
     |cons c u hw=>
      rw[List.zip_cons_cons]at hz;cases hz
   rw[hv]at hR;wp_walk;exact⟨_,rfl,by simpa[Builtin.Tuple.tupleCompareSizes]using hR⟩
  case h=>
   exact⟨rfl,rfl,items.toList,items2.toList,ns,ms,rfl,hi,hj,by omega,h⟩
end
section
variable{prog:Program}{w:World}{A:Around}{E:Value->Shared->Prop}{s:Shared}
theorem wM{l b:Addr}{items items2:Array Value}{ns ms:List Int}{Q:Value->Shared->Prop}(hl:IsTup s.heap l items)(hb:IsTup s.heap b items2)(hi:IntsAre items.toList ns)(hj:IntsAre items2.toList ms)
  (hu:A.units<cLine)(h:Q (.bool (lexLt ns ms)) s):wpAny (model prog w) A (compareOp .Lt (.ref l) (.ref b)) Q E s:=by
 obtain⟨⟨cls,dd,data,sl⟩,ho,hc,n,hd⟩:=id hl;obtain⟨⟨cls2,dd2,data2,sl2⟩,ho2,hc2,n2,hd2⟩:=id hb;simp only at hc hd hc2 hd2;subst hc hd hc2 hd2;exact richCompare_meets_room (op:=.Lt) ⟨_,ho,rfl⟩ ⟨_,ho2,rfl⟩ PySem.F.slot_tuple_lt PySem.F.entry_tuple_lt (PySem.F.args_tuple_lt_2 _ _) (xr l b items items2 n n2 dd dd2 sl sl2 ns ms hi hj)
  ⟨ho,ho2,show Value.bool (lexLt ns ms)≠Value.notImplemented/\Q (.bool (lexLt ns ms)) s from⟨(λ x=>nomatch x),h⟩⟩ hu
theorem aI2{t b:Addr}{vs ws:List Value}{Q:Value->Shared->Prop}(ht:IsTup s.heap t vs.toArray)(hb:IsTup s.heap b ws.toArray)(hv:vs≠[])
  (h1:ws=[]->Q (.ref t) s)(h2:ws≠[]->Q (.ref s.heap.objs.size) {s with heap:=s.heap.push {cls:=.type "tuple",data:=.seq (vs++ws).toArray}})
  (hsz:vs.length+ws.length<=sizeLine):wpAny (model prog w) A (binaryOp .Add (.ref t) (.ref b)) Q E s:=by
 obtain⟨⟨cls,dd,data,sl⟩,ho,hc,n,hd⟩:=id ht;obtain⟨⟨cls2,dd2,data2,sl2⟩,ho2,hc2,n2,hd2⟩:=id hb;simp only at hc hd hc2 hd2;subst hc hd hc2 hd2;have e:vs.toArray++ws.toArray=(vs++ws).toArray:=by simp
 by_cases hw:ws=[]
 ·exact concat_meets ⟨_,ho,rfl⟩ ⟨_,ho2,rfl⟩ noFill_tuple_add seq_tuple_add PySem.F.slot_tuple_add PySem.F.entry_tuple_add (PySem.F.args_tuple_add_2 _ _)
   (tuple_addW1 t b vs.toArray ws.toArray n n2 dd dd2 sl sl2 (by simpa using hv) (by simp[hw])) ⟨ho,ho2,h1 hw⟩
 ·refine concat_meets ⟨_,ho,rfl⟩ ⟨_,ho2,rfl⟩ noFill_tuple_add seq_tuple_add PySem.F.slot_tuple_add PySem.F.entry_tuple_add (PySem.F.args_tuple_add_2 _ _)
   (tuple_addW2 t b vs.toArray ws.toArray n n2 dd dd2 sl sl2 (by simpa using hv) (by simpa using hw) (by rw[List.size_toArray,List.size_toArray];exact hsz)) ⟨ho,ho2,?_⟩
  rw[e];exact h2 hw
def sIx(n d:Nat):Option Int->Nat
 |none=>d
 |some v=>if v<0 then(v+(n:Int)).toNat else min v.toNat n
theorem aJZ(n d:Nat)(hd:d<=n)(o:Option Int):sIx n d o<=n:=by
 cases o with
 |none=>exact hd
 |some v=>
  show(if v<0 then(v+(n:Int)).toNat else min v.toNat n)<=n
  by_cases hv:v<0
  ·rw[if_pos hv];omega
  ·rw[if_neg hv];exact Nat.min_le_right _ _
theorem aDk(v:Int)(n d:Nat):(if v<0 then max (v+(n:Int)) 0 else min v (n:Int))=((sIx n d (some v):Nat):Int):=by
 show(if v<0 then max (v+(n:Int)) 0 else min v (n:Int))=(((if v<0 then(v+(n:Int)).toNat else min v.toNat n):Nat):Int)
 by_cases hv:v<0
 ·simp only[if_pos hv];omega
 ·simp only[if_neg hv];omega
theorem aDD(lo hi:Option Int)(n:Nat):Builtin.Slice.sliceAdjust lo hi 1 (n:Int)=(((sIx n 0 lo:Nat):Int),((sIx n n hi:Nat):Int)):=by
 have h1:¬((1:Int)<0):=by omega
 unfold Builtin.Slice.sliceAdjust;simp only[h1,if_false];refine Prod.ext ?_ ?_
 ·cases lo with
  |none=>rfl
  |some v=>exact aDk v n 0
 ·cases hi with
  |none=>rfl
  |some v=>exact aDk v n n
theorem aC0(i j:Nat):Builtin.Slice.slicePlaces (i:Int) (j:Int) 1=j-i:=by
 unfold Builtin.Slice.slicePlaces;have h1:(1:Int)>0:=by omega
 simp only[h1,if_true,Int.ediv_one];split<;>omega
theorem v9{v:Value}{o:Option Int}{Q:Option Int->Shared->Prop}(p:IsPart v o)(h:Q o s):wpAny (model prog w) A (Builtin.Slice.slicePartIndex v) Q E s:=by
 cases p with
 |none=>exact slicePart_none h
 |int i t=>exact slicePart_int h
theorem lV{sl:Addr}{vl vu:Value}{lo hi:Option Int}{n:Nat}{Q:Int×Int×Nat->Shared->Prop}(hs:s.heap.IsSliceOf sl vl vu .none)(pl:IsPart vl lo)(pu:IsPart vu hi)
  (h:Q (((sIx n 0 lo:Nat):Int),1,sIx n n hi-sIx n 0 lo) s):wpAny (model prog w) A (Builtin.Slice.sliceApplied (.ref sl) (pure (n:Int))) Q E s:=by
 obtain⟨os,hos,hcs,hds⟩:=id hs;unfold Builtin.Slice.sliceApplied Builtin.Slice.sliceFields;refine wpAny_bind (wpAny_bind (wpAny_field hos hds (x:=vl) rfl (wpAny_bind (wpAny_field hos hds (x:=vu) rfl (wpAny_bind (wpAny_field hos hds (x:=.none) rfl (wpAny_pure ?_)))))));refine wpAny_bind (slicePart_none ?_);show wpAny _ _ (if ((1:Int)==0)=true then _ else _) _ _ s;rw[if_neg (by decide)];refine wpAny_bind (v9 pl (wpAny_bind (v9 pu (wpAny_bind (wpAny_pure ?_)))));show wpAny _ _ (match Builtin.Slice.sliceAdjust lo hi 1 (n:Int)with|(lo,hi)=>pure (lo,(1:Int),Builtin.Slice.slicePlaces lo hi 1)) _ _ s;rw[aDD lo hi n];show wpAny _ _ (pure (((sIx n 0 lo:Nat):Int),(1:Int),Builtin.Slice.slicePlaces ((sIx n 0 lo:Nat):Int) ((sIx n n hi:Nat):Int) 1)) _ _ s;rw[aC0];exact wpAny_pure h
theorem aFa(xs:Array Value)(i k:Nat):((List.range k).filterMap λ(m:Nat)=>xs[((i:Int)+(m:Int)*1).toNat]?).toArray=((xs.toList.drop i).take k).toArray:=by
 have e:(λ(m:Nat)=>xs[((i:Int)+(m:Int)*1).toNat]?)=λ m=>xs[i+m]?:=by
  funext m
  have:((i:Int)+(m:Int)*1).toNat=i+m:=by omega
  rw[this]
 rw[e]
 have:=pick_run xs i k
 rw[List.filterMap_map]at this;have e2:((λ x=>xs[x]?)∘λ x=>i+x)=λ m=>xs[i+m]?:=rfl
 rw[e2]at this;rw[this]
theorem rT{t sl:Addr}{items:Array Value}{vl vu:Value}{lo hi:Option Int}{Q:Value->Shared->Prop}(ht:IsTup s.heap t items)(hs:s.heap.IsSliceOf sl vl vu .none)(pl:IsPart vl lo)(pu:IsPart vu hi)
  (hw:¬(sIx items.size 0 lo=0/\sIx items.size items.size hi=items.size))
  (h:Q (.ref s.heap.objs.size) {s with heap:=s.heap.push {cls:=.type "tuple",data:=.seq ((items.toList.drop (sIx items.size 0 lo)).take (sIx items.size items.size hi-sIx items.size 0 lo)).toArray}})
  (hsz:items.size<=sizeLine):wpAny (model prog w) A (getItem (.ref t) (.ref sl)) Q E s:=by
 have htake:sizeOk (.seq ((items.toList.drop (sIx items.size 0 lo)).take (sIx items.size items.size hi-sIx items.size 0 lo)).toArray):=by
  show((items.toList.drop (sIx items.size 0 lo)).take (sIx items.size items.size hi-sIx items.size 0 lo)).toArray.size<=sizeLine
  rw[List.size_toArray,List.length_take,List.length_drop,Array.length_toList];omega
 have hj:sIx items.size items.size hi<=items.size:=aJZ _ _ (Nat.le_refl _) hi;obtain⟨os,hos,hcs,hds⟩:=id hs;have hTs:s.TypeIs (.ref sl) "slice":=⟨os,hos,hcs⟩;unfold getItem
 try with_reducible refine wpAny_holding ?_
 first|refine wpAny_bind (wpAny_pure ?_)|skip
 refine wpAny_bind (wpAny_sequenceKey ht.typeIs (by decide) ?_);refine wpAny_bind (wpAny_callSpecial?_slot (name:=Str.ofString "__getitem__") ht.typeIs PyProof.Rows.slot_tuple_getitem
  (wpAny_call_entry PyProof.Rows.slot_tuple_getitem ht.typeIs entry_tuple_getitem ?_ (args_tuple_getitem _ _)))
 show wpAny _ _ (Builtin.Tuple.tupleItemsOf (.ref t)>>=_) _ _ s;refine wpAny_bind (tupleItemsOf_ ht ?_);refine wpAny_bind (wpAny_typeOf hTs ?_);rw[if_pos (by decide)];refine wpAny_bind (lV hs pl pu ?_);have hno:¬((((sIx items.size 0 lo:Nat):Int)==0&&(1:Int)==1&&(sIx items.size items.size hi-sIx items.size 0 lo)==items.size)=true):=by
  intro q;rw[Bool.and_eq_true,Bool.and_eq_true]at q;have q1:((sIx items.size 0 lo:Nat):Int)=0:=eq_of_beq q.1.1;have q2:sIx items.size items.size hi-sIx items.size 0 lo=items.size:=eq_of_beq q.2;exact hw ⟨by omega,by omega⟩
 show wpAny _ _ (if (((sIx items.size 0 lo:Nat):Int)==0&&(1:Int)==1&&(sIx items.size items.size hi-sIx items.size 0 lo)==items.size)=true then _ else _) _ _ s;rw[if_neg hno,aFa]
 first
  |exact wpAny_bind (m:=Builtin.Tuple.tupleExact _) (wpAny_newObj_type (wpAny_pure ⟨_,rfl,wpAny_pure h⟩) htake)
  |exact wpAny_bind (m:=Builtin.Tuple.tupleExact _) (wpAny_newObj_type (wpAny_bind (wpAny_pure (wpAny_pure ⟨_,rfl,wpAny_pure h⟩))) htake)
  |exact wpAny_bind (wpAny_bind (m:=Builtin.Tuple.tupleExact _) (wpAny_newObj_type (wpAny_pure (wpAny_pure ⟨_,rfl,wpAny_pure h⟩)) htake))
  |exact wpAny_bind (wpAny_bind (m:=Builtin.Tuple.tupleExact _) (wpAny_newObj_type (wpAny_pure ⟨_,rfl,wpAny_pure h⟩) htake))
end
end HT
namespace L2
open PySem PySem.Spec PyProof.Rows
abbrev TO:=St->Hp->(Option Int->Hp->Prop)->Prop
def PO(X:Cx)(e:Option Expr)(t:TO):Prop:=
 ∀(pins:List (Addr×Obj)) (s:Shared) (σ:St) (H:Hp) (Q:Option Int->Hp->Prop),Inv X pins σ H s->t σ H Q->
  wpAny (model X.prog X.w) X.A (evalPart e X.env) (λ u s'=>∃o H',Inv X pins σ H' s'/\IsPart u o/\Q o H') X.xe s
def aHF:TO:=λ _ H Q=>Q none H
def aLA(t:TE):TO:=λ σ H Q=>t σ H λ x H1=>∃i,x= .int i/\Q (some i) H1
theorem intsAre_of{ns:List Int}:∀{us:List Value},Vals (ns.map V.int) us->IntsAre us ns:=by
 induction ns with
 |nil=>intro us r;rw[List.map_nil]at r;cases r;exact .nil
 |cons n ns ih=>
  intro us r;rw[List.map_cons]at r;cases r with
  |cons r1 r2=>
   obtain⟨t,e⟩:=r1;subst e;exact .cons n t (ih r2)
section
variable{X:Cx}{e:Expr}{te:TE}{lo hi:Option Expr}{tl th:TO}{pos p2:Pos}
theorem aH4:PO X none aHF:=by
 intro pins s σ H Q I h;rw[evalPart_none];exact wpAny_pure ⟨none,H,I,.none,h⟩
theorem aH3(h:PE X e te):PO X (some e) (aLA te):=by
 intro pins s σ H Q I hw;rw[evalPart_some];refine thn (h pins s σ H _ I hw) λ u s1 ⟨x,H1,I1,r1,q1⟩=>?_
 obtain⟨i,rfl,q⟩:=q1;obtain⟨t,rfl⟩:=r1;exact⟨some i,H1,I1,.int i t,q⟩
def SlR(X:Cx)(r:V->Option Int->Option Int->Hp->VK->Prop):Prop:=
 ∀(pins:List (Addr×Obj)) (s:Shared) (σ:St) (H:Hp) (x:V) (v vl vu:Value) (lo hi:Option Int) (sl:Addr) (Q:VK),Inv X pins σ H s->RelV x v->s.heap.IsSliceOf sl vl vu .none->IsPart vl lo->IsPart vu hi->r x lo hi H Q->
  ∃T id,typeLookup (.type T) "__getitem__"=pure (some (.builtin id))/\s.TypeIs v T/\wpAny (model X.prog X.w) X.A (getItem v (.ref sl)) (EP X pins σ Q) X.xe s
theorem SlR.or{r r':V->Option Int->Option Int->Hp->VK->Prop}(h:SlR X r)(h':SlR X r'):SlR X (λ x lo hi H Q=>r x lo hi H Q\/r' x lo hi H Q):=by
 intro pins s σ H x v vl vu lo hi sl Q I rx hs pl pu q;rcases q with q|q
 ·exact h pins s σ H x v vl vu lo hi sl Q I rx hs pl pu q
 ·exact h' pins s σ H x v vl vu lo hi sl Q I rx hs pl pu q
def tSl(r:V->Option Int->Option Int->Hp->VK->Prop)(te:TE)(tl th:TO):TE:=λ σ H Q=>te σ H λ x H1=>tl σ H1 λ l H2=>th σ H2 λ u H3=>r x l u H3 Q
theorem aFd{r:V->Option Int->Option Int->Hp->VK->Prop}(hr:SlR X r)(he:PE X e te)(hl:PO X lo tl)(hu:PO X hi th):PE X (.Subscript e (.Slice lo hi none p2) pos) (tSl r te tl th):=by
 intro pins s σ H Q I h;refine Subscript_ (thn (he pins s σ H _ I h) λ v s1 ⟨x,H1,I1,r1,q1⟩=>?_);refine wpAny_Slice (thn (hl pins s1 σ H1 _ I1 q1) λ vl s2 ⟨l,H2,I2,pl,q2⟩=>thn (hu pins s2 σ H2 _ I2 q2) λ vu s3 ⟨u,H3,I3,pu,q3⟩=>?_);rw[evalPart_none];refine wpAny_pure ?_;have I4:Inv X pins σ H3 {s3 with heap:=s3.heap.push {cls:=.type "slice",data:=.fields #[vl,vu,.none]}}:=I3.kept (t':=s3.toks) λ b ob q=>Heap.get?_push_of_some _ q
 obtain⟨T,id,hT,ht,hg⟩:=hr pins {s3 with heap:=s3.heap.push {cls:=.type "slice",data:=.fields #[vl,vu,.none]}} σ H3 x v vl vu l u s3.heap.objs.size Q I4 r1 (Heap.IsSliceOf.new ..) pl pu q3;show wpAny (model X.prog X.w) X.A (subscriptTail e (.Slice lo hi none p2) v (.ref s3.heap.objs.size)) (EP X pins σ Q) X.xe {s3 with heap:=s3.heap.push {cls:=.type "slice",data:=.fields #[vl,vu,.none]}};exact tail_any (ops:=[.ref s3.heap.objs.size,v]) ht hT hg (by with_unfolding_all rfl)
def xV(xs:List V)(lo hi:Option Int):List V:=(xs.drop (HT.sIx xs.length 0 lo)).take (HT.sIx xs.length xs.length hi-HT.sIx xs.length 0 lo)
theorem uf(xs:List V)(lo hi:Option Int):(xV xs lo hi).length<=xs.length:=by
 unfold xV;rw[List.length_take,List.length_drop];omega
def aHU(K:PySem.W.Frag):R2:=λ x y H Q=>∃a b ns ms,x= .ref a/\y= .ref b/\SqT K H a (ns.map V.int)/\SqT K H b (ms.map V.int)/\Q (.bl (HT.lexLt ns ms)) H
theorem aKA(hu:X.A.units<cLine):OpR X (compareOp .Lt) (aHU X.K):=by
 intro pins s σ H x y v u Q I rx ry h;obtain⟨a,b,ns,ms,rfl,rfl,ha,hb,q⟩:=h;cases rx;cases ry;obtain⟨its,r1,p1,_⟩:=I.tuple ha;obtain⟨its2,r2,p2,_⟩:=I.tuple hb;have i1:IntsAre its.toArray.toList ns:=intsAre_of r1;have i2:IntsAre its2.toArray.toList ms:=intsAre_of r2;exact HT.wM p1 p2 i1 i2 hu ⟨.bl (HT.lexLt ns ms),H,I,rfl,q⟩
def aLU(K:PySem.W.Frag):R2:=λ x y H Q=>∃a b xs ys,x= .ref a/\y= .ref b/\SqT K H a xs/\SqT K H b ys/\xs≠[]/\xs.length+ys.length<=sizeLine/\
 (ys=[]->Q (.ref a) H)/\(ys≠[]->∀p,H p=none->Q (.ref p) (upd H p (.tup (xs++ys))))
theorem Vals.nil_iff{xs:List V}{us:List Value}(r:Vals xs us):us=[]↔xs=[]:=by
 cases r with
 |nil=>simp
 |cons _ _=>simp
theorem aHi:OpR X (binaryOp .Add) (aLU X.K):=by
 intro pins s σ H x y v u Q I rx ry h;obtain⟨a,b,xs,ys,rfl,rfl,ha,hb,hx,hz,q1,q2⟩:=h;cases rx;cases ry;obtain⟨its,r1,p1,_⟩:=I.tuple ha;obtain⟨its2,r2,p2,_⟩:=I.tuple hb;refine HT.aI2 p1 p2 (λ z=>hx (r1.nil_iff.mp z)) (λ z=>⟨.ref a,H,I,rfl,q1 (r2.nil_iff.mp z)⟩) (λ z=>?_) (by rw[<-r1.length,<-r2.length];exact hz);refine⟨.ref s.heap.objs.size,_,I.laid (t':=s.toks) (o:=.tup (xs++ys)) (λ b ob q=>Heap.get?_push_of_some _ q) (Nat.le_refl _) ?_,rfl,q2 (λ w=>z (r2.nil_iff.mpr w)) _ (I.hok.fresh (Nat.le_refl _))⟩;exact⟨by rw[List.length_append];exact hz,_,r1.append r2,IsTup.new _ _⟩
end
def ixN(n:Nat)(i:Int):Option Nat:=if 0<=i then(if i<n then some i.toNat else none)else if -(n:Int)<=i then some (i+n).toNat else none
def atI{α:Type}(xs:List α)(i:Int):Option α:=(ixN xs.length i).bind λ j=>xs[j]?
theorem aHz{n:Nat}{i:Int}{j:Nat}(h:ixN n i=some j):seqIndex? i n=some j/\j<n/\-(n:Int)<=i/\i<n:=by
 unfold ixN at h;by_cases h0:0<=i
 ·rw[if_pos h0]at h
  by_cases h1:i<n
  ·rw[if_pos h1]at h
   have e:i.toNat=j:=Option.some.inj h;exact⟨by rw[seqIndex_of h0 h1,e],by omega,by omega,h1⟩
  ·rw[if_neg h1]at h;cases h
 ·rw[if_neg h0]at h
  by_cases h1: -(n:Int)<=i
  ·rw[if_pos h1]at h
   have e:(i+n).toNat=j:=Option.some.inj h;exact⟨by rw[seqIndex_neg (by omega) h1,e],by omega,h1,by omega⟩
  ·rw[if_neg h1]at h;cases h
theorem aAp{α:Type}{xs:List α}{i:Int}{v:α}(h:atI xs i=some v):∃j,seqIndex? i xs.length=some j/\xs[j]? =some v/\j<xs.length/\-(xs.length:Int)<=i/\i<xs.length:=by
 unfold atI at h;cases e:ixN xs.length i with
 |none=>rw[e]at h;cases h
 |some j=>
  rw[e]at h;obtain⟨h1,h2,h3,h4⟩:=aHz e;exact⟨j,h1,h,h2,h3,h4⟩
def aAr(b:Expr):Prop:=∀o i,subscripted b false o i=operate [o,i] (getItem o i)
def IxR(X:Cx)(r:R2):Prop:=
 ∀(value slice:Expr) (pins:List (Addr×Obj)) (s:Shared) (σ:St) (H:Hp) (x y:V) (v u:Value) (Q:VK),Inv X pins σ H s->RelV x v->RelV y u->r x y H Q->
  subscripted slice false v u=operate [v,u] (getItem v u)->wpAny (model X.prog X.w) X.A (subscriptTail value slice v u) (EP X pins σ Q) X.xe s
def MtR(X:Cx)(id:String)(r:V->List V->Hp->VK->Prop):Prop:=
 ∀(pins:List (Addr×Obj)) (s:Shared) (σ:St) (H:Hp) (x:V) (xs:List V) (v:Value) (us:List Value) (Q:VK),Inv X pins σ H s->RelV x v->Vals xs us->r x xs H Q->
  wpAny (model X.prog X.w) X.A (call (.builtin id) (v::us)) (EP X pins σ Q) X.xe s
section
variable{X:Cx}{a b:Expr}{ta tb:TE}{pos:Pos}
theorem IxR.or{r r':R2}(h:IxR X r)(h':IxR X r'):IxR X (λ x y H Q=>r x y H Q\/r' x y H Q):=by
 intro value slice pins s σ H x y v u Q I rx ry q hs;rcases q with q|q
 ·exact h value slice pins s σ H x y v u Q I rx ry q hs
 ·exact h' value slice pins s σ H x y v u Q I rx ry q hs
theorem aFe{r:R2}(hr:IxR X r)(ha:PE X a ta)(hb:PE X b tb)(hs:aAr b):PE X (.Subscript a b pos) (tOp r ta tb):=by
 intro pins s σ H Q I h;exact Subscript_ (aKk ha hb I h λ v u s2 x y H2 I2 rx ry q=>hr a b pins s2 σ H2 x y v u Q I2 rx ry q (hs _ _))
def aJ3(K:PySem.W.Frag):R2:=λ x y H Q=>∃p xs i v,x= .ref p/\y= .int i/\SqL K H p xs/\atI xs i=some v/\Q v H
def aLS(K:PySem.W.Frag):R2:=λ x y H Q=>∃p xs i v,x= .ref p/\y= .int i/\SqT K H p xs/\atI xs i=some v/\Q v H
def aLT:R2:=λ x y H Q=>∃z i c,x= .str z/\y= .int i/\z.length<=sizeLine/\atI z.cps.toList i=some c/\Q (.str ⟨#[c]⟩) H
theorem aA7:IxR X (aJ3 X.K):=by
 intro value slice pins s σ H x y v u Q I rx ry h hs;obtain⟨p,xs,i,z,rfl,rfl,hq,he,q⟩:=h;cases rx;obtain⟨t,rfl⟩:=ry;obtain⟨its,r,pl,hz⟩:=I.list hq;obtain⟨j,h1,h2,h3,h4,h5⟩:=aAp he;obtain⟨w,ew,rw'⟩:=r.get h2;have hl:=r.length;have hn:=wQ;have fin:EP X pins σ Q w s:=⟨z,H,I,rw',q⟩;by_cases h0:0<=i
 ·have hj:i.toNat=j:=by
   rw[seqIndex_of h0 h5]at h1;exact Option.some.inj h1
  exact item_listR pl.isList h0 (by omega) (by rw[hj];simpa using ew) fin hs
 ·have hj:(i+(its.toArray.size:Int)).toNat=j:=by
   rw[seqIndex_neg (by omega) h4]at h1;rw[List.size_toArray,<-hl];exact Option.some.inj h1
  exact subscriptTail_builtinR (x:=w) pl.isList.typeIs slot_list_getitem.lookup
   (wpAny_getItem_list_neg (Q:=λ r s'=>r=w/\EP X pins σ Q r s') pl.isList (by omega) (by rw[List.size_toArray]<;>omega) (by omega) (by rw[hj];simpa using ew) ⟨rfl,fin⟩) hs
theorem aK3:IxR X (aLS X.K):=by
 intro value slice pins s σ H x y v u Q I rx ry h hs;obtain⟨p,xs,i,z,rfl,rfl,hq,he,q⟩:=h;cases rx;obtain⟨t,rfl⟩:=ry;obtain⟨its,r,pl,hz⟩:=I.tuple hq;obtain⟨j,h1,h2,h3,h4,h5⟩:=aAp he;obtain⟨w,ew,rw'⟩:=r.get h2;have hl:=r.length;have hn:=wQ;have fin:EP X pins σ Q w s:=⟨z,H,I,rw',q⟩;exact subscriptTail_builtinR (x:=w) pl.typeIs slot_tuple_getitem.lookup
  (getItem_tuple (j:=j) (Q:=λ r s'=>r=w/\EP X pins σ Q r s') pl (by omega) (by omega) (by rw[List.size_toArray,<-hl];exact h1) (by simpa using ew) ⟨rfl,fin⟩) hs
theorem aK4:IxR X aLT:=by
 intro value slice pins s σ H x y v u Q I rx ry h hs;obtain⟨z,i,c,rfl,rfl,hz,he,q⟩:=h;obtain⟨t,rfl⟩:=rx;obtain⟨t',rfl⟩:=ry;obtain⟨j,h1,h2,h3,h4,h5⟩:=aAp he;have hl:z.cps.toList.length=z.length:=by simp[Str.length]
 rw[hl]at h1 h4 h5;have hn:=wQ;exact tail_any (typeIs_str s z t) slot_str_getitem.lookup (getItem_str (c:=c) (by
  have e1:decide (i < -(2^63:Int))=false:=decide_eq_false (by omega);have e2:decide (i ≥ 2^63)=false:=decide_eq_false (by omega);rw[e1,e2,Bool.or_false]) (by rw[h1];simpa using h2) ⟨.str ⟨#[c]⟩,H,I.tok _,⟨_,rfl⟩,q⟩) hs
def rIx(K:PySem.W.Frag):R2:=λ x y H Q=>aJ3 K x y H Q\/aLS K x y H Q\/aLT x y H Q
theorem aK5:IxR X (rIx X.K):=aA7.or (aK3.or aK4)
theorem zc(lo hi:Option Int)(n:Nat):(sliceBounds lo hi none n).1=((HT.sIx n 0 lo:Nat):Int)/\(sliceBounds lo hi none n).2.1=((HT.sIx n n hi:Nat):Int)/\(sliceBounds lo hi none n).2.2=1:=by
 refine⟨?_,?_,rfl⟩
 ·cases lo with
  |none=>simp[sliceBounds,HT.sIx]
  |some i=>
   simp only[sliceBounds,HT.sIx,Option.getD_none,show(1:Int)>0 by decide,if_true];by_cases h:i<0
   ·simp only[h,if_true]<;>omega
   ·simp only[h,if_false]<;>omega
 ·cases hi with
  |none=>simp[sliceBounds,HT.sIx]
  |some i=>
   simp only[sliceBounds,HT.sIx,Option.getD_none,show(1:Int)>0 by decide,if_true];by_cases h:i<0
   ·simp only[h,if_true]<;>omega
   ·simp only[h,if_false]<;>omega
theorem yC(its:List Value)(lo hi:Option Int):slicePick its.toArray lo hi none=((its.drop (HT.sIx its.length 0 lo)).take (HT.sIx its.length its.length hi-HT.sIx its.length 0 lo)).toArray:=by
 obtain⟨h1,h2,h3⟩:=zc lo hi its.toArray.size;unfold slicePick;rw[h1,h2,h3];simp only[sliceRange_one,pick_run,List.size_toArray]<;>rfl
def aLP(K:PySem.W.Frag):V->Option Int->Option Int->Hp->VK->Prop:=λ x lo hi H Q=>∃a xs,x= .ref a/\SqL K H a xs/\∀p,H p=none->Q (.ref p) (upd H p (.lst (xV xs lo hi)))
theorem aHJ:SlR X (aLP X.K):=by
 intro pins s σ H x v vl vu lo hi sl Q I rx hs pl pu h;obtain⟨a,xs,rfl,hx,q⟩:=h;cases rx;obtain⟨its,r,ht,hz⟩:=I.list hx;have hlen:=r.length;refine⟨"list",_,slot_list_getitem.lookup,ht.isList.typeIs,?_⟩;refine wpAny_getItem_list_slice ht.isList hs pl pu .none (by simp) ?_ (by rw[List.size_toArray]<;>omega);rw[yC,<-hlen];refine⟨.ref s.heap.objs.size,_,I.laid (t':=s.toks) (o:=.lst (xV xs lo hi)) (λ b ob q=>Heap.get?_push_of_some _ q) (Nat.le_refl _) ?_,rfl,q _ (I.hok.fresh (Nat.le_refl _))⟩;exact⟨Nat.le_trans (uf xs lo hi) hz,_,0,(r.drop (HT.sIx xs.length 0 lo)).take (HT.sIx xs.length xs.length hi-HT.sIx xs.length 0 lo),Heap.get?_push_size _ rfl⟩
theorem sO:dG X (.builtin "len") (λ xs H Q=>∃p ys,xs=[.ref p]/\(SqL X.K H p ys\/SqT X.K H p ys)/\Q (.int ys.length) H):=by
 intro pins s σ H xs us Q I r h;obtain⟨p,ys,rfl,hq,q⟩:=h;obtain⟨u,rfl,rx⟩:=vals1 r;cases rx;have hn:=wQ;rcases hq with hq|hq
 ·obtain⟨its,r',pl,hz⟩:=I.list hq
  have hlen:=r'.length;exact Calls.call_len_list pl.isList (by simp only[List.size_toArray]<;>omega) ⟨.int ys.length,H,I.tok _,⟨s.toks+1,by rw[List.size_toArray,hlen]⟩,q⟩
 ·obtain⟨its,r',pl,hz⟩:=I.tuple hq
  have hlen:=r'.length;exact len_tuple pl (by simp only[List.size_toArray]<;>omega) ⟨.int ys.length,H,I.tok _,⟨s.toks+1,by rw[List.size_toArray,hlen]⟩,q⟩
theorem dG.or{f:Value}{r r':List V->Hp->VK->Prop}(h:dG X f r)(h':dG X f r'):dG X f (λ xs H Q=>r xs H Q\/r' xs H Q):=by
 intro pins s σ H xs us Q I rs q;rcases q with q|q
 ·exact h pins s σ H xs us Q I rs q
 ·exact h' pins s σ H xs us Q I rs q
theorem aAk:dG X (.type "list") (λ xs H Q=>∃p ys,xs=[.ref p]/\(SqL X.K H p ys\/SqT X.K H p ys)/\∀l,H l=none->Q (.ref l) (upd H l (.lst ys))):=by
 intro pins s σ H xs us Q I r h;obtain⟨p,ys,rfl,hq,q⟩:=h;obtain⟨u,rfl,rx⟩:=vals1 r;cases rx;have fin:∀(its:List Value),Vals ys its->ys.length<=sizeLine->∀(h':Heap) (c':Nat),(∀b o',s.heap.get? b=some o'->h'.get? b=some o')->
   h'.get? s.heap.objs.size=some {cls:=.type "list",dict:=none,data:=.seq its.toArray c',slots:=#[]}->EP X pins σ Q (.ref s.heap.objs.size) {s with heap:=h'}:=λ its r' hz h' c' kp e=>
  ⟨.ref s.heap.objs.size,_,I.laid (t':=s.toks) kp (Nat.le_refl _) (show dZ X.prog X.w _ h' _ (.lst ys)from⟨hz,its,c',r',e⟩),rfl,q _ (I.hok.fresh (Nat.le_refl _))⟩
 rcases hq with hq|hq
 ·obtain⟨its,r',pl,hz⟩:=I.list hq
  have hlen:=r'.length;obtain⟨o,ho,hc,n,hd⟩:=pl.isList;exact call_list_seq p (.inl rfl) ho hc hd (λ h' c' kp e=>fin its r' hz h' c' kp e) (by simp only[List.size_toArray]<;>omega)
 ·obtain⟨its,r',pl,hz⟩:=I.tuple hq
  have hlen:=r'.length;obtain⟨o,ho,hc,n,hd⟩:=pl;exact call_list_seq p (.inr rfl) ho hc hd (λ h' c' kp e=>fin its r' hz h' c' kp e) (by simp only[List.size_toArray]<;>omega)
theorem yS:dG X (.type "tuple") (λ xs H Q=>∃p ys,xs=[.ref p]/\((SqL X.K H p ys/\∀l,H l=none->Q (.ref l) (upd H l (.tup ys)))\/(SqT X.K H p ys/\Q (.ref p) H))):=by
 intro pins s σ H xs us Q I r h;obtain⟨p,ys,rfl,h⟩:=h;obtain⟨u,rfl,rx⟩:=vals1 r;cases rx;rcases h with ⟨hq,q⟩|⟨hq,q⟩
 ·obtain⟨its,r',pl,hz⟩:=I.list hq
  have hlen:=r'.length;refine call_tuple_list pl.isList (λ h' kp=>?_) (by simp only[List.size_toArray]<;>omega);have I1:Inv X pins σ H {s with heap:=h'}:=I.kept (t':=s.toks) kp;have I2:Inv X pins σ (upd H h'.objs.size (.tup ys)) {s with heap:=h'.push {cls:=.type "tuple",data:=.seq its.toArray}}:=
   I1.laid (t':=s.toks) (λ b o e=>Heap.get?_push_of_some _ e) (Nat.le_refl _) (show dZ X.prog X.w _ _ _ (.tup ys)from⟨hz,its,r',IsTup.new _ _⟩)
  exact⟨.ref h'.objs.size,_,I2,rfl,q _ (I1.hok.fresh (Nat.le_refl _))⟩
 ·obtain⟨its,r',pl,hz⟩:=I.tuple hq
  exact call_tuple_same pl ⟨.ref p,H,I,rfl,q⟩
def tyV(K:PySem.W.Frag)(T:String)(x:V)(H:Hp):Prop:=match x with
 | .str _=>T="str"
 | .int _=>T="int"
 | .ref p=>(T="list"/\∃xs,SqL K H p xs)\/(T="tuple"/\∃o,K.lookup p=some o/\o.cls= .type "tuple"/\o.dict=none)\/
   (T="dict"/\((∃kvs,H p=some (.dK kvs))\/∃kvs,H p=some (.dT kvs)))\/(T="set"/\∃S n,H p=some (.set S n))
 |_=>False
theorem aJH{pins:List (Addr×Obj)}{σ:St}{H:Hp}{s:Shared}{T:String}{x:V}{v:Value}(I:Inv X pins σ H s)(r:RelV x v)(ty:tyV X.K T x H):
  s.TypeIs v T/\∀a,v= .ref a->∃ob,s.heap.get? a=some ob/\ob.dict=none:=by
 cases x with
 |str z=>
  obtain⟨t,rfl⟩:=r;cases (show T="str" from ty);exact⟨typeIs_str s z t,λ _ e=>nomatch e⟩
 |int i=>
  obtain⟨t,rfl⟩:=r;cases (show T="int" from ty);exact⟨typeIs_int s i t,λ _ e=>nomatch e⟩
 |ref p=>
  cases r;rcases ty with ⟨rfl,xs,hq⟩|⟨rfl,o,hk,hc,hd⟩|⟨rfl,hk⟩|⟨rfl,S,n,hk⟩
  ·obtain⟨its,_,pl,_⟩:=I.list hq
   refine⟨pl.isList.typeIs,λ a e=>?_⟩;cases e;obtain⟨o,n,e,c,hd,_⟩:=pl;exact⟨o,e,hd⟩
  ·refine⟨⟨o,I.kIn p o hk,hc⟩,λ a e=>?_⟩
   cases e;exact⟨o,I.kIn _ o hk,hd⟩
  ·have z:∃o,s.heap.get? p=some o/\o.ExactDict:=by
    rcases hk with ⟨kvs,hk⟩|⟨kvs,hk⟩
    ·obtain⟨_,_,_,_,o,_,_,e,ex,_⟩:=I.hok p _ hk
     exact⟨o,e,ex⟩
    ·obtain⟨_,_,_,_,o,_,_,e,ex,_⟩:=I.hok p _ hk
     exact⟨o,e,ex⟩
   obtain⟨o,e,ex⟩:=z;refine⟨⟨o,e,ex.1⟩,λ a e2=>?_⟩;cases e2;exact⟨o,e,ex.2.1⟩
  ·obtain⟨o,_,_,_,e,ex,_⟩:=I.hok p _ hk
   refine⟨⟨o,e,ex.1⟩,λ a e2=>?_⟩;cases e2;exact⟨o,e,ex.2.1⟩
 |_=>exact False.elim ty
def tBM(K:PySem.W.Frag)(T:String)(r:V->List V->Hp->VK->Prop)(to:TE)(t:TA):TE:=λ σ H Q=>to σ H λ x H1=>tyV K T x H1/\t σ H1 λ xs H2=>r x xs H2 Q
variable{o e:Expr}{es:List Expr}{to:TE}{t:TA}{name:Str}{apos cpos:Pos}{T id:String}{r:V->List V->Hp->VK->Prop}
theorem yr(pa:PlainAttrs T)(slot:Slot T name id)(hty:typeOf (.builtin id)=pure (.type "method_descriptor"))(hm:MtR X id r)(ho:PE X o to)(ha:PA X (e::es) t)
  (hbase:attributeBase o name X.env (eval o X.env)=eval o X.env:=by rfl)
  (hfew:((backTo cpos (starEach (e::es) X.env)).all (λ x=>!x.1)&&(backToKw cpos (keywordEach [] X.env)).all (λ x=>x.1.isSome)
   &&decide ((e::es).length+([]:List Keyword).length+(if ([]:List Keyword).isEmpty then 0 else 1)<30))=true:=by rfl)
  (hline:(apos.endLine==cpos.line)=true:=by rfl)(hs:starEach (e::es) X.env=(false,eval e X.env)::starEach es X.env:=by rfl)(hplain:(backTo cpos (starEach es X.env)).any (·.1)=false:=by rfl):
  PE X (.Call (.Attribute o name apos) (e::es) [] cpos) (tBM X.K T r to t):=by
 intro pins s σ H Q I h;refine wpAny_Call_method_late hbase hfew hline rfl (thn (ho pins s σ H _ I h) λ v s1 ⟨x,H1,I1,r1,ty,q1⟩=>?_);obtain⟨h1,h2⟩:=aJH I1 r1 ty;refine⟨T,id,pa,slot,hty,h1,h2,?_⟩;have hA:=ha cpos pins s1 σ H1 _ I1 q1;rw[hs]at hA ⊢;refine Calls.callWith_builtin (by show(false||(backTo cpos (starEach es X.env)).any (·.1))=false;rw[hplain]<;>rfl) (Calls.evalArgs_plain ?_);exact thn hA λ us s2 ⟨vs,H2,I2,r2,q2⟩=>hm pins s2 σ H2 x vs v us Q I2 r1 r2 q2
end
def MtM(X:Cx)(id:String)(r:V->List V->Hp->VK->Prop):Prop:=
 ∀(pins:List (Addr×Obj)) (s:Shared) (σ:St) (H:Hp) (x:V) (xs:List V) (v:Value) (us:List Value) (Q:VK),Inv X pins σ H s->RelV x v->Vals xs us->r x xs H Q->
  wpAny (model X.prog X.w) X.A (call (.builtin id) (v::us)) (EP X pins σ Q) X.xe s
theorem Vals.one:∀{x:V} {us:List Value},Vals [x] us->∃u,us=[u]/\RelV x u
 |_,_,.cons r .nil=>⟨_,rfl,r⟩
theorem Vals.reverse{xs:List V}{us:List Value}(h:Vals xs us):Vals xs.reverse us.reverse:=by
 induction h with
 |nil=>exact .nil
 |cons r t ih=>rw[List.reverse_cons,List.reverse_cons];exact Vals.append ih (.cons r .nil)
theorem Vals.rep{xs:List V}{us:List Value}(h:Vals xs us):∀k:Nat,Vals (List.replicate k xs).flatten (List.replicate k us).flatten
 |0=>.nil
 |k+1=>by
  rw[List.replicate_succ,List.replicate_succ,List.flatten_cons,List.flatten_cons];exact Vals.append h (Vals.rep h k)
theorem foldl_rep(its:List Value):∀(k:Nat) (acc:List Value),
  List.foldl (λ x1 x2=>x1++x2) acc.toArray (List.replicate k its.toArray)=(acc++(List.replicate k its).flatten).toArray
 |0,acc=>by simp
 |k+1,acc=>by
  have e:acc.toArray++its.toArray=(acc++its).toArray:=by simp
  have e2:(acc++its)++(List.replicate k its).flatten=acc++(List.replicate (k+1) its).flatten:=by
   rw[List.replicate_succ,List.flatten_cons,List.append_assoc]
  rw[<-e2,<-foldl_rep its k (acc++its),<-e,List.replicate_succ,List.foldl_cons]
section
variable{X:Cx}{pins:List (Addr×Obj)}{σ:St}{H:Hp}{s:Shared}{l b:Addr}{xs ys zs:List V}
theorem Inv.lset{its its':List Value}{n:Nat}{f:Array Value->Array Value}{t':Nat}(I:Inv X pins σ H s)(hH:H l=some (.lst xs))
  (e:s.heap.get? l=some {cls:=.type "list",data:=.seq its.toArray n})(hf:f its.toArray=its'.toArray)(hv:Vals ys its')(hz:ys.length<=sizeLine):
  Inv X pins σ (upd H l (.lst ys)) {s with heap:=s.heap.update l (Obj.mapSeq f),toks:=t'}:=by
 have q:=PySem.IsL.update e f;rw[hf]at q;refine I.write (x:=l) (e:=l) (by rw[hH];exact trivial) (.inl rfl) (λ b' u hb hu=>(Heap.get?_update_other s.heap (Obj.mapSeq f) (Ne.symm hb)).trans hu) ⟨_,q⟩ ?_;exact⟨hz,its',_,hv,q⟩
theorem Inv.lnew{its:List Value}{t':Nat}(I:Inv X pins σ H s)(hv:Vals ys its)(hz:ys.length<=sizeLine):
  Inv X pins σ (upd H s.heap.objs.size (.lst ys)) {s with heap:=s.heap.push {cls:=.type "list",data:=.seq its.toArray},toks:=t'}:=
 I.laid (λ _ _ q=>Heap.get?_push_of_some _ q) (Nat.le_refl _) ⟨hz,its,0,hv,Heap.get?_push_size _ rfl⟩
theorem Inv.fresh(I:Inv X pins σ H s):H s.heap.objs.size=none:=I.hok.fresh (Nat.le_refl _)
theorem Inv.lstM(I:Inv X pins σ H s)(hH:H l=some (.lst xs)):xs.length<=sizeLine/\∃(its:List Value) (n:Nat),Vals xs its/\xs.length=its.length/\s.heap.get? l=some {cls:=.type "list",data:=.seq its.toArray n}:=by
 obtain⟨z,its,n,r,e⟩:=I.hok l _ hH;exact⟨z,its,n,r,r.length,e⟩
theorem wF{n:Nat}(h:n<=sizeLine):Builtin.List.listTooLong n=false:=by
 unfold Builtin.List.listTooLong;exact decide_eq_false (by omega)
end
section
variable{X:Cx}
def aHZ:V->List V->Hp->VK->Prop:=λ x vs H Q=>∃l xs y,x= .ref l/\vs=[y]/\H l=some (.lst xs)/\xs.length<sizeLine/\Q .non (upd H l (.lst (xs++[y])))
theorem tQ:MtM X "list.append" aHZ:=by
 intro pins s σ H x vs v us Q I rx rv h;obtain⟨l,xs,y,rfl,rfl,hH,hz,q⟩:=h;cases rx;obtain⟨u,rfl,ru⟩:=rv.one;obtain⟨z,its,n,r,hl,e⟩:=I.lstM hH;refine call_meets F.slot_list_append ⟨_,e,rfl⟩ F.entry_list_append (F.args_list_append_2 _ _) (PySem.list_append l its.toArray n u (by rw[List.size_toArray];omega)) ⟨e,?_⟩;refine⟨.non,_,I.lset (its':=its++[u]) hH e (by simp) (r.append (.cons ru .nil)) ?_,rfl,q⟩;rw[List.length_append,List.length_singleton];omega
def aHX:V->List V->Hp->VK->Prop:=λ x vs H Q=>∃l b xs zs,x= .ref l/\vs=[.ref b]/\H l=some (.lst xs)/\H b=some (.lst zs)/\xs.length+zs.length<=sizeLine/\Q .non (upd H l (.lst (xs++zs)))
theorem aEJ:MtM X "list.extend" aHX:=by
 intro pins s σ H x vs v us Q I rx rv h;obtain⟨l,b,xs,zs,rfl,rfl,hH,hB,hz,q⟩:=h;cases rx;obtain⟨u,rfl,ru⟩:=rv.one;cases ru;obtain⟨z,its,n,r,hl,e⟩:=I.lstM hH;obtain⟨z2,its2,n2,r2,hl2,e2⟩:=I.lstM hB;have hsz:its.toArray.size+its2.toArray.size<=sizeLine:=by rw[List.size_toArray,List.size_toArray];omega
 have hlong:¬(!its.toArray.isEmpty&&Builtin.List.listTooLong (its.toArray.size+its2.toArray.size))=true:=by
  rw[wF hsz,Bool.and_false];exact Bool.false_ne_true
 refine call_meets F.slot_list_extend ⟨_,e,rfl⟩ F.entry_list_extend (F.args_list_extend_2 _ _)
  (AutoSeq1.list_extend_list_list_0 l its.toArray n b its2.toArray n2 hlong (by rw[List.size_toArray];omega) (by omega)) ⟨e,e2,?_⟩
 refine⟨.non,_,I.lset (its':=its++its2) hH e (by simp) (r.append r2) ?_,rfl,q⟩;rw[List.length_append];omega
def aLy:R2:=λ x y H Q=>∃l b xs zs,x= .ref l/\y= .ref b/\H l=some (.lst xs)/\H b=some (.lst zs)/\xs.length+zs.length<=sizeLine/\∀p,H p=none->Q (.ref p) (upd H p (.lst (xs++zs)))
theorem aKH:OpR X (binaryOp .Add) aLy:=by
 intro pins s σ H x y v u Q I rx ry h;obtain⟨l,b,xs,zs,rfl,rfl,hH,hB,hz,q⟩:=h;cases rx;cases ry;obtain⟨z,its,n,r,hl,e⟩:=I.lstM hH;obtain⟨z2,its2,n2,r2,hl2,e2⟩:=I.lstM hB;refine PySem.P.add_list e e2 ?_ (by rw[List.size_toArray,List.size_toArray];omega);have ea:its.toArray++its2.toArray=(its++its2).toArray:=by simp
 rw[ea];exact⟨.ref _,_,I.lnew (t':=s.toks) (r.append r2) (by rw[List.length_append];omega),rfl,q _ I.fresh⟩
def aLR:R2:=λ x y H Q=>∃l k xs,x= .ref l/\y= .int k/\H l=some (.lst xs)/\-(2^63)<=k/\k<2^63/\xs.length*k.toNat<=sizeLine/\
 ∀p,H p=none->Q (.ref p) (upd H p (.lst (List.replicate k.toNat xs).flatten))
theorem len_rep{α:Type}(xs:List α)(k:Nat):(List.replicate k xs).flatten.length=k*xs.length:=by
 induction k with
 |zero=>simp
 |succ k ih=>rw[List.replicate_succ,List.flatten_cons,List.length_append,ih,Nat.succ_mul,Nat.add_comm]
theorem aJu:OpR X (binaryOp .Mult) aLR:=by
 intro pins s σ H x y v u Q I rx ry h;obtain⟨l,k,xs,rfl,rfl,hH,h1,h2,hz,q⟩:=h;cases rx;obtain⟨t,rfl⟩:=ry;obtain⟨z,its,n,r,hl,e⟩:=I.lstM hH;have hlen:its.toArray.size*k.toNat<=sizeLine:=by rw[List.size_toArray,<-hl];exact hz
 have hcap:¬its.toArray.size*k.toNat>(2^63-1) / 8:=by
  have:(sizeLine:Nat)<=(2^63-1) / 8:=by decide
  omega
 have hfit:¬(!Builtin.List.listFitsIndex k)=true:=by
  rw[fitsIndex_both h1 h2];exact Bool.false_ne_true
 have hlong:¬Builtin.List.listTooLong (its.toArray.size*k.toNat)=true:=by
  rw[wF hlen];exact Bool.false_ne_true
 have hnew:List.foldl (λ x1 x2=>x1++x2) #[] (List.replicate (if its.toArray.isEmpty=true then 0 else k.toNat) its.toArray)=(List.replicate k.toNat its).flatten.toArray:=by
  have f0:∀m:Nat,List.foldl (λ x1 x2=>x1++x2) #[] (List.replicate m its.toArray)=(List.replicate m its).flatten.toArray:=λ m=>by
   have:=foldl_rep its m []
   rw[List.nil_append]at this;exact this
  rw[f0];cases its with
  |nil=>simp
  |cons a r'=>rw[if_neg (by simp)]
 refine wpAny_binaryOp_repeat_ref (T:="list") (U:="int") (by decide) ⟨_,e,rfl⟩ (λ s'=>typeIs_int s' k t) noFill_list_mul F.fills_int_mul F.slot_int_rmul repeat_list F.slot_int_index.lookup
  (call_meets F.slot_int_rmul (typeIs_int s k t) F.entry_int_rmul (F.args_int_rmul_2 _ _) (int___rmul___int_list k t l its.toArray n)
   ⟨e,rfl,⟨_,e,rfl⟩,call_meets F.slot_list_mul ⟨_,e,rfl⟩ F.entry_list_mul (F.args_list_mul_2 _ _) (AutoListH.list___mul___list_int_3 l its.toArray n k t hfit hcap hlong) ⟨e,?_⟩⟩)
 rw[hnew];exact⟨.ref _,_,I.lnew (t':=s.toks) (r.rep k.toNat) (by rw[len_rep,Nat.mul_comm];exact hz),rfl,q _ I.fresh⟩
end
section
variable{prog:Program}{w:World}{A:Around}{E:Value->Shared->Prop}{s:Shared}
end
section
variable{X:Cx}
end
end L2
namespace Att
open PySem PySem.W PySem.Calls PyProof.Rows
theorem uv{P:Params}{h:Heap}:∀(ns:List Int) (vs:List Value),WellAll P h vs (ns.map WData.int)->IntsAre vs ns:=by
 intro ns;induction ns with
 |nil=>
  intro vs w;rw[List.map_nil]at w;cases w;exact .nil
 |cons n ns ih=>
  intro vs w;rw[List.map_cons]at w;cases w with
  |cons a b=>
   cases a;exact .cons _ _ (ih _ b)
theorem aDx{l:OpenLaw}{n:Nat}(hn:l.most=some n){P:Params}{h:Heap}{args:List WData}{vals:List Value}
  (hpre:l.row.toRowW.claim.pre args=true)(hwl:WellAll P h vals args):
  ∃a vs ns,vals=[Value.ref a]/\args=[WData.list (ns.map WData.int)]/\h.get? a=some {cls:=.type "list",data:=.seq vs.toArray}/\IntsAre vs ns/\ns.length<=n:=by
 have hsh:WShape.hasAll [] args [.list .int]=true:=(pre_splitW hpre).1;have hc:l.pre.holds [] {args:=args}=true:=(pre_splitW hpre).2;obtain⟨d,r,rfl,h1,h2⟩:=hasAllW_cons hsh;obtain rfl:=hasAllW_nil h2;obtain⟨xs,rfl,h3⟩:=hasW_list h1;obtain⟨ns,rfl⟩:=items_int h3;have hlen:ns.length<=n:=by
  unfold OpenLaw.pre at hc;have h4:(WTm.not (.lt (.lit (.int (n:Int))) (.len (.arg 0)))).holds [] {args:=[.list (ns.map .int)]}=true:=by
   have h4:=(holds_andW hc).1;rw[hn]at h4;exact h4
  have h5:=condW_of h4 (w_not (w_lt w_lit (w_len_list (w_arg rfl))));rw[List.length_map]at h5;refine Nat.le_of_not_lt λ q=>?_
  have q':(n:Int)<((ns.length:Nat):Int):=by omega
  first
   |(rw[decide_eq_true q']at h5;exact absurd h5 (by decide))
   |(simp at h5;omega)
 cases hwl with
 |cons w1 w2=>
  cases w2;cases w1 with
  |list ho hall=>exact⟨_,_,ns,rfl,rfl,ho,uv ns _ hall,hlen⟩
theorem aEA(l:OpenLaw)(args:List WData):l.row.toRowW.claim.post args (.bool true) args=true:=
 postW_of (r:=l.row.toRowW) (X:=(true==true))
  (show WShape.has [] (.bool true) .bool=true by first|rfl|decide|simp[WShape.has,WShape.arms,WShape.armsAll])
  (show(WTm.eq .res (.lit (.bool true))).value [] {args:=args,res:=some (.bool true),after:=args}=some (.bool (true==true))from w_eq_bool (w_res rfl) w_lit) rfl
theorem aBn{l:OpenLaw}{n:Nat}{q:Program}{loose:List Str}{XP:(Str->Option Value)->Heap->Prop}{YP:World->Heap->Prop}{d:DefRec}
  (hn:l.most=some n)(hdf:d.params.defaults=[])
  (call:∀(w:World) (s₀ s₁:Shared) (mg mb:Str->Option Value) (fa:Addr) (o:Obj) (pm cd doc:Value) (a:Addr) (vs:List Value) (ns:List Int),
   Ground q loose [] XP w s₀ mg mb s₁.heap->YP w s₁.heap->
   s₁.heap.get? fa=some o->o.data= .func (docDef d.name d.params d.body d.scope pm cd doc)->s₁.heap.CodeRec cd d.name->mg d.name=some (.ref fa)->
   s₁.heap.get? a=some {cls:=.type "list",data:=.seq vs.toArray}->IntsAre vs ns->ns.length<=n->s₁.gens=#[]->
   codeAny (model l.prog w) callerA (.call (.ref fa) ⟨[.ref a],[]⟩) (λ r s'=>r= .ok (.ret (.bool true))/\OldK s₁.heap s'.heap/\s'.os=s₁.os/\AllBare s'.gens) s₁):
  WalkO q loose XP YP l.row.toRowW d [] (λ f vs=>PySem.call f vs):=by
 intro w s₀ s₁ mg mb G Y fa o pm cd doc dV kV ho hd hcd hD hmg hg args vals as hpre hlay hrd hwl hlo;obtain rfl:dV= .none:=Dflts.none hD hdf;obtain rfl:kV= .none:=Dflts.noKw hD;obtain⟨a,vs,ns,rfl,rfl,hobj,hints,hlen⟩:=aDx hn hpre hwl;refine enter_call (codeAny_mono (call w s₀ s₁ mg mb fa o pm cd doc a vs ns G Y ho (fd_plain hd) hcd hmg hobj hints hlen hg) λ r s' hq=>?_);obtain⟨rfl,h2,h3,h4⟩:=hq;exact⟨.inl ⟨.bool true,.bool true,[],rfl,λ _=>rfl,.bool true,aEA l _,λ _=>⟨List.Pairwise.nil,λ _ hm=>(nomatch hm)⟩⟩,h2,h3,h4⟩
section
variable{prog:Program}{w:World}{A:Around}{E:Value->Shared->Prop}{s:Shared}{K:Frag}
theorem make_obj{R:Result->Shared->Prop}{C fI:Addr}{rest:List Value}{kw:List (Str×Value)}
  (X:K.In s.heap)(hm:makesIn K C=true)(hi:findIn K (.ref C) "__init__"=some (some (.ref fI)))(hf:isFn K (.ref fI)=true)
  (h:codeAny (model prog w) (A.under (.builtin "type.__call__" ⟨.ref C::rest,kw⟩)) (.call (.ref fI) ⟨.ref (s.heap.objs.size+1)::rest,kw⟩) (InitBack (s.heap.objs.size+1) R)
   {s with heap:=(s.heap.push emptyDict).push (instObj C s.heap.objs.size)}):codeAny (model prog w) A (.call (.ref C) ⟨rest,kw⟩) R s:=by
 obtain⟨hh,g,d,t,os⟩:=s;exact make_core (makes_of X hm) (looks_findIn X hi) (λ self=>bind_fn X self (beq_iff_eq.mp hf)) (.inl rfl) h
theorem get_field{x C:Addr}{ox:Obj}{es:List DictEntry}{n:Nat}{name:Str}{expr:Bool}{v:Value}{Q:Value->Shared->Prop}
  (X:K.In s.heap)(I:PySem.W.InstAt s.heap x ox C (some (dictOf es n)))(hg:plainGet K C name=true)(hh:hasDictIn K C=true)(ha:findIn K (.ref C) name=some none)
  (hl:getL name es=some (some v))(hv:handedIn v=true)(h:Q v {s with toks:=s.toks+1}):wpAny (model prog w) A (getAttr (.ref x) name expr) Q E s:=
 get_value X I (plainGet_of hg).1 (findObj_own hh ha rfl hl) hv h
def ledger(h:Heap)(L d:Addr):List (Addr×Obj):=(List.range h.objs.size).filterMap λ a=>if a=L\/a=d then none else(h.get? a).map λ o=>(a,o)
end
end Att
namespace L2
open PySem PySem.Spec PyProof.Rows
theorem yX:∀{vs:List Value} {ns:List Int},IntsAre vs ns->Vals (ns.map V.int) vs
 |_,_,.nil=>.nil
 |_,_,.cons n t h=>.cons ⟨t,rfl⟩ (yX h)
def Only(H:Hp):Prop:=∀b,H b=none\/∃o xs,H b=some (.frz o (.lst xs))
def pK(s:Stmt):Arguments:=match s with
 | .FunctionDef _ a _ _ _ _ _ _ _ _=>a
 |_=>{posonlyargs:=[],args:=[],vararg:=none,kwonlyargs:=[],kw_defaults:=[],kwarg:=none,defaults:=[]}
def eE(s:Stmt):List Stmt:=match s with
 | .FunctionDef _ _ b _ _ _ _ _ _ _=>b
 |_=>[]
def aH(s:Stmt):Scope:=match s with
 | .FunctionDef _ _ _ _ _ _ sc _ _ _=>sc
 |_=>{kind:=.function,names:=[],isGenerator:=false,isCoroutine:=false}
abbrev CX0:CXT:=λ _ _ _ _ _ _=>False
abbrev E0:XK:=λ _ _ _=>False
structure Fun(K:PySem.W.Frag)(x qual:Str)(st:Stmt)(f:Addr)(fd:FuncData):Prop where
 ex:∃(oc:Value) (od:Option Addr) (kV doc pm:Value) (an:Option Addr) (cdv ct:Value) (osl:Array (Option Value)),
  fd=PySem.W.fnOf x qual (pK st) (eE st) (aH st) .none kV doc pm an cdv ct/\K.lookup f=some ⟨oc,od,.func fd,osl⟩/\PySem.W.codeIn K cdv qual=true
 kp:PySem.W.keepIn K (.ref f)=true
section
variable{P:Program}{w:World}{K:PySem.W.Frag}{mg:Str->Option Value}{base:Heap}
theorem Fun.binds{x qual:Str}{st:Stmt}{f:Addr}{fd:FuncData}{ps:List Str}(F:Fun K x qual st f fd)
  (h:∀(kV doc pm:Value) (an:Option Addr) (cdv ct:Value) (us:List Value),us.length=ps.length->bindArgs (PySem.W.fnOf x qual (pK st) (eE st) (aH st) .none kV doc pm an cdv ct) ⟨us,[]⟩=pure (ps.zip us)):Binds K fd ps []:=by
 obtain⟨oc,od,kV,doc,pm,an,cdv,ct,osl,rfl,lk,hcd⟩:=F.ex;exact .all (h kV doc pm an cdv ct)
theorem aKd{x qual:Str}{st:Stmt}{f:Addr}{oc:Value}{od an:Option Addr}{osl:Array (Option Value)}{kV doc pm cdv ct:Value}(l:K.lookup f=some ⟨oc,od,.func (PySem.W.fnOf x qual (pK st) (eE st) (aH st) .none kV doc pm an cdv ct),osl⟩)
  (c:PySem.W.codeIn K cdv qual=true)(k:PySem.W.keepIn K (.ref f)=true):Fun K x qual st f (PySem.W.fnOf x qual (pK st) (eE st) (aH st) .none kV doc pm an cdv ct):=⟨⟨oc,od,kV,doc,pm,an,cdv,ct,osl,rfl,l,c⟩,k⟩
end
theorem aLc{A:Around}{k:Nat}(hr:fY k A):A.units+1<cLine:=Nat.lt_of_le_of_lt (Nat.add_le_add_left (by decide:1<=64) _) hr.units
section
variable{X:Cx}
theorem pv(i:Nat){x:Str}{pos:Pos}(hN:X.N[i]? =some x:=by rfl)(hv:Vis X.env.scope x:=by first|exact Or.inl rfl|exact Or.inr (Or.inl rfl)|exact Or.inr (Or.inr rfl))(hd:(x==("__debug__":Str))=false:=by decide)
  (hcd:(x==("__classdict__":Str))=false:=by decide):PE X (.Name x pos) (n8 i):=iK hN hv hd hcd
end
def aV(H H':Hp):Prop:=∀b o,H b=some o->H' b=some o
theorem aV.refl(H:Hp):aV H H:=λ _ _ h=>h
theorem aV.trans{H H1 H2:Hp}(a:aV H H1)(b:aV H1 H2):aV H H2:=λ c o h=>b c o (a c o h)
theorem aV.free{H H':Hp}(e:aV H H'){l:Addr}(h:H' l=Option.none):H l=Option.none:=by
 cases q:H l with
 |none=>rfl
 |some o=>
  rw[e l o q]at h;cases h
end L2
set_option maxHeartbeats 4000000
namespace HT
open PySem PyProof.Rows
def lexLe:List Int->List Int->Bool
 |[],_=>true
 |_::_,[]=>false
 |x::xs,y::ys=>if x=y then lexLe xs ys else decide (x<=y)
theorem aCh(x y:Int)(xs ys:List Int):lexLe (x::xs) (y::ys)=if x=y then lexLe xs ys else decide (x<=y):=rfl
theorem aFW(A:Around)(s:Shared)(a:Int)(t:Tok)(c:Int)(u:Tok)(prog:Program)(w:World)(E:Value->Shared->Prop)(Q:Value->Shared->Prop)(h:Q (.bool (decide (a<=c))) s):
  wpAny (model prog w) A (richCompare .LtE (.int a t) (.int c u)) Q E s:=
 (PyProof.Rows.le_int h:wpAny (model prog w) A (compareOp .LtE (.int a t) (.int c u)) Q E s)
section
open PySem.SeqAt
open PySem.AutoSeq1(wpAny_loadPart')
open PySem.MeetsSeq PySem.MeetsSeq2 PySem.MeetsSeq3
theorem xu(l b:Addr)(items items2:Array Value)(n n2:Nat)(dd dd2:Option Addr)(sl sl2:Array (Option Value))(ns ms:List Int)(hi:IntsAre items.toList ns)(hj:IntsAre items2.toList ms):
  Meets (Builtin.«tuple.__le__» ⟨[.ref l,.ref b],[]⟩)
   (λ _ R s=>s.heap.get? l=some {cls:=.type "tuple",dict:=dd,data:=.seq items n,slots:=sl}/\s.heap.get? b=some {cls:=.type "tuple",dict:=dd2,data:=.seq items2 n2,slots:=sl2}/\
    R (.ok (.ret (.bool (lexLe ns ms)))) s):=
 .of_wp λ prog w A R s h=>by
  obtain⟨hp,g,d,tk,os⟩:=s;obtain⟨hl,hb,h⟩:=h;have f2:=AutoSeq1.sub_tuple_tuple;have z1:items.size=ns.length:=by rw[<-hi.length];simp
  have z2:items2.size=ms.length:=by rw[<-hj.length];simp
  wp_walk using wpAny_loadPart' hl,wpAny_loadPart' hb,wpAny_forIn_list _ (λ rest b s'=>b.1=none/\s'=⟨hp,g,d,tk,os⟩/\∃(vs ws:List Value) (ns' ms':List Int),rest=vs.zip ws/\
   IntsAre vs ns'/\IntsAre ws ms'/\ns'.length+items2.size=ms'.length+items.size/\R (.ok (.ret (.bool (lexLe ns' ms')))) ⟨hp,g,d,tk,os⟩) _
  case turn=>
   rintro⟨y,x⟩ rest b s' ⟨hb',rfl,vs,ws,ns',ms',hz,hvi,hwi,hlen,hR⟩;cases hvi with
   |nil=>rw[List.zip_nil_left]at hz;cases hz
   |cons a t hvi'=>
    cases hwi with
    |nil=>rw[List.zip_nil_right]at hz;cases hz
    |cons c u hwi'=>
     rw[List.zip_cons_cons]at hz;injection hz with hyx hrest
     injection hyx with hy hx
     subst hy hx;rw[aCh]at hR;simp only[List.length_cons]at hlen;obtain⟨e,he,hiff⟩:=aBe A.in1 ⟨hp,g,d,tk,os⟩ a t c u;refine wpAny_bind (he prog w _ _ ?_);cases e with
     |true=>
      rw[if_pos (hiff.mp rfl)]at hR;wp_walk;exact⟨rfl,rfl,_,_,_,_,hrest,hvi',hwi',by lia,hR⟩
     |false=>
      rw[if_neg (λ q=>absurd (hiff.mpr q) Bool.false_ne_true)]at hR;have hri:=aFW A.in1 ⟨hp,g,d,tk,os⟩ a t c u prog w;wp_walk using hri;exact⟨_,rfl,by simpa using hR⟩
  case fin=>
   rintro⟨b1,b2⟩ s' ⟨hb',rfl,vs,ws,ns',ms',hz,hvi,hwi,hlen,hR⟩;simp only at hb';subst hb';have hv:lexLe ns' ms'=decide (items.size<=items2.size):=by
    cases hvi with
    |nil=>
     simp only[List.length_nil]at hlen;have e:lexLe [] ms'=true:=by cases ms'<;>rfl
     rw[e];exact(decide_eq_true (by lia)).symm
    |cons a t hv=>
     cases hwi with
     |nil=>
      simp only[List.length_nil,List.length_cons]at hlen;show false=_;exact(decide_eq_false (by lia)).symm
     |cons c u hw=>
      rw[List.zip_cons_cons]at hz;cases hz
   rw[hv]at hR;wp_walk;exact⟨_,rfl,by simpa[Builtin.Tuple.tupleCompareSizes]using hR⟩
  case h=>
   exact⟨rfl,rfl,items.toList,items2.toList,ns,ms,rfl,hi,hj,by lia,h⟩
end
section
variable{prog:Program}{w:World}{A:Around}{E:Value->Shared->Prop}{s:Shared}
theorem aCi(hl:IsTup s.heap l items)(hb:IsTup s.heap b items2)(hi:IntsAre items.toList ns)(hj:IntsAre items2.toList ms)
  (hu:A.units<cLine)(h:Q (.bool (lexLe ns ms)) s):wpAny (model prog w) A (compareOp .LtE (.ref l) (.ref b)) Q E s:=by
 obtain⟨⟨cls,dd,data,sl⟩,ho,hc,n,hd⟩:=id hl;obtain⟨⟨cls2,dd2,data2,sl2⟩,ho2,hc2,n2,hd2⟩:=id hb;simp only at hc hd hc2 hd2;subst hc hd hc2 hd2;exact richCompare_meets_room (op:=.LtE) ⟨_,ho,rfl⟩ ⟨_,ho2,rfl⟩ PySem.F.slot_tuple_le PySem.F.entry_tuple_le (PySem.F.args_tuple_le_2 _ _) (xu l b items items2 n n2 dd dd2 sl sl2 ns ms hi hj)
  ⟨ho,ho2,show Value.bool (lexLe ns ms)≠Value.notImplemented/\Q (.bool (lexLe ns ms)) s from⟨(λ x=>nomatch x),h⟩⟩ hu
theorem aGh{ws:List Value}(ht:IsTup s.heap t #[])(hb:IsTup s.heap b ws.toArray)(h1:Q (.ref b) s):wpAny (model prog w) A (binaryOp .Add (.ref t) (.ref b)) Q E s:=by
 obtain⟨⟨cls,dd,data,sl⟩,ho,hc,n,hd⟩:=id ht;obtain⟨⟨cls2,dd2,data2,sl2⟩,ho2,hc2,n2,hd2⟩:=id hb;simp only at hc hd hc2 hd2;subst hc hd hc2 hd2;exact concat_meets ⟨_,ho,rfl⟩ ⟨_,ho2,rfl⟩ noFill_tuple_add seq_tuple_add PySem.F.slot_tuple_add PySem.F.entry_tuple_add (PySem.F.args_tuple_add_2 _ _)
   (tuple_addW0 t b #[] ws.toArray n n2 dd dd2 sl sl2 (by simp)) ⟨ho,ho2,h1⟩
theorem rW{lo hi:Option Int}(ht:IsTup s.heap t items)(hs:s.heap.IsSliceOf sl vl vu .none)(pl:IsPart vl lo)(pu:IsPart vu hi)
  (h1:sIx items.size 0 lo=0)(h2:sIx items.size items.size hi=items.size)
  (h:Q (.ref t) s):wpAny (model prog w) A (getItem (.ref t) (.ref sl)) Q E s:=by
 obtain⟨os,hos,hcs,hds⟩:=id hs;have hTs:s.TypeIs (.ref sl) "slice":=⟨os,hos,hcs⟩;obtain⟨ot,hot,hct,hdt⟩:=id ht;unfold getItem
 try with_reducible refine wpAny_holding ?_
 first|refine wpAny_bind (wpAny_pure ?_)|skip
 refine wpAny_bind (wpAny_sequenceKey ht.typeIs (by decide) ?_);refine wpAny_bind (wpAny_callSpecial?_slot (name:=Str.ofString "__getitem__") ht.typeIs PyProof.Rows.slot_tuple_getitem
  (wpAny_call_entry PyProof.Rows.slot_tuple_getitem ht.typeIs entry_tuple_getitem ?_ (args_tuple_getitem _ _)))
 show wpAny _ _ (Builtin.Tuple.tupleItemsOf (.ref t)>>=_) _ _ s;refine wpAny_bind (tupleItemsOf_ ht ?_);refine wpAny_bind (wpAny_typeOf hTs ?_);rw[if_pos (by decide)];refine wpAny_bind (lV hs pl pu ?_);have hyes:(((sIx items.size 0 lo:Nat):Int)==0&&(1:Int)==1&&(sIx items.size items.size hi-sIx items.size 0 lo)==items.size)=true:=by
  rw[h1,h2];simp
 show wpAny _ _ (if (((sIx items.size 0 lo:Nat):Int)==0&&(1:Int)==1&&(sIx items.size items.size hi-sIx items.size 0 lo)==items.size)=true then _ else _) _ _ s;rw[if_pos hyes];unfold Builtin.Tuple.tupleIsExact;refine wpAny_bind (wpAny_bind (wpAny_typeOf ht.typeIs (wpAny_pure ?_)));rw[if_pos (by decide)];exact wpAny_bind (wpAny_rule (wpAny_pure ⟨_,rfl,wpAny_pure h⟩))
theorem aCS(n:Nat):Builtin.Slice.sliceAdjust none none (-1) (n:Int)=((n:Int)-1,-1):=by
 unfold Builtin.Slice.sliceAdjust;rfl
theorem aCR(n:Nat):Builtin.Slice.slicePlaces ((n:Int)-1) (-1) (-1)=n:=by
 unfold Builtin.Slice.slicePlaces;rw[if_neg (by decide)];by_cases h:n=0
 ·subst h;rfl
 ·rw[if_pos (by lia)]
  have e:((n:Int)-1 - -1-1) / (- -1)+1=n:=by
   rw[show(- -1:Int)=1 by decide,Int.ediv_one];lia
  rw[e];simp
theorem aFT(xs:Array Value):((List.range xs.size).filterMap λ(m:Nat)=>xs[(((xs.size:Int)-1)+(m:Int)*(-1)).toNat]?)=xs.toList.reverse:=by
 apply List.ext_getElem?;intro i;have key:∀n,n<=xs.size->((List.range n).filterMap λ(m:Nat)=>xs[(((xs.size:Int)-1)+(m:Int)*(-1)).toNat]?)=xs.toList.reverse.take n:=by
  intro n;induction n with
  |zero=>intro _;simp
  |succ n ih=>
   intro hn;rw[List.range_succ,List.filterMap_append,ih (by lia),List.take_add_one];congr 1;have e:(((xs.size:Int)-1)+(n:Int)*(-1)).toNat=xs.size-1-n:=by lia
   simp only[List.filterMap_cons,List.filterMap_nil,e];rw[List.getElem?_reverse (by rw[Array.length_toList];lia)];have e2:xs.toList.length-1-n=xs.size-1-n:=by simp
   rw[e2,Array.getElem?_toList];have hlt:xs.size-1-n<xs.size:=by lia
   rw[Array.getElem?_eq_getElem hlt];rfl
 rw[key xs.size (Nat.le_refl _),List.take_of_length_le (by simp)]
theorem sY{n:Nat}(hs:s.heap.IsSliceOf sl .none .none (.int (-1) u))
  (h:Q ((n:Int)-1,-1,n) s):wpAny (model prog w) A (Builtin.Slice.sliceApplied (.ref sl) (pure (n:Int))) Q E s:=by
 obtain⟨os,hos,hcs,hds⟩:=id hs;unfold Builtin.Slice.sliceApplied Builtin.Slice.sliceFields;refine wpAny_bind (wpAny_bind (wpAny_field hos hds (x:=.none) rfl (wpAny_bind (wpAny_field hos hds (x:=.none) rfl (wpAny_bind (wpAny_field hos hds (x:=.int (-1) u) rfl (wpAny_pure ?_)))))));refine wpAny_bind (slicePart_int ?_);show wpAny _ _ (if ((-1:Int)==0)=true then _ else _) _ _ s;rw[if_neg (by decide)];refine wpAny_bind (slicePart_none (wpAny_bind (slicePart_none (wpAny_bind (wpAny_pure ?_)))));show wpAny _ _ (match Builtin.Slice.sliceAdjust none none (-1) (n:Int)with|(lo,hi)=>pure (lo,(-1:Int),Builtin.Slice.slicePlaces lo hi (-1))) _ _ s;rw[aCS n];show wpAny _ _ (pure ((n:Int)-1,(-1:Int),Builtin.Slice.slicePlaces ((n:Int)-1) (-1) (-1))) _ _ s;rw[aCR];exact wpAny_pure h
theorem rR(ht:IsTup s.heap t items)(hs:s.heap.IsSliceOf sl .none .none (.int (-1) u))
  (h:Q (.ref s.heap.objs.size) {s with heap:=s.heap.push {cls:=.type "tuple",data:=.seq items.toList.reverse.toArray}})
  (hsz:items.size<=sizeLine):wpAny (model prog w) A (getItem (.ref t) (.ref sl)) Q E s:=by
 have htake:sizeOk (.seq items.toList.reverse.toArray):=by
  show items.toList.reverse.toArray.size<=sizeLine;rw[List.size_toArray,List.length_reverse,Array.length_toList];lia
 obtain⟨os,hos,hcs,hds⟩:=id hs;have hTs:s.TypeIs (.ref sl) "slice":=⟨os,hos,hcs⟩;unfold getItem
 try with_reducible refine wpAny_holding ?_
 first|refine wpAny_bind (wpAny_pure ?_)|skip
 refine wpAny_bind (wpAny_sequenceKey ht.typeIs (by decide) ?_);refine wpAny_bind (wpAny_callSpecial?_slot (name:=Str.ofString "__getitem__") ht.typeIs PyProof.Rows.slot_tuple_getitem
  (wpAny_call_entry PyProof.Rows.slot_tuple_getitem ht.typeIs entry_tuple_getitem ?_ (args_tuple_getitem _ _)))
 show wpAny _ _ (Builtin.Tuple.tupleItemsOf (.ref t)>>=_) _ _ s;refine wpAny_bind (tupleItemsOf_ ht ?_);refine wpAny_bind (wpAny_typeOf hTs ?_);rw[if_pos (by decide)];refine wpAny_bind (sY hs ?_);show wpAny _ _ (if (((items.size:Int)-1==0&&(-1:Int)==1&&items.size==items.size))=true then _ else _) _ _ s;rw[if_neg (by simp)];rw[show((List.range items.size).filterMap λ(k:Nat)=>items[(((items.size:Int)-1)+(k:Int)*(-1)).toNat]?)=items.toList.reverse from aFT items]
 first
  |exact wpAny_bind (m:=Builtin.Tuple.tupleExact _) (wpAny_newObj_type (wpAny_pure ⟨_,rfl,wpAny_pure h⟩) htake)
  |exact wpAny_bind (m:=Builtin.Tuple.tupleExact _) (wpAny_newObj_type (wpAny_bind (wpAny_pure (wpAny_pure ⟨_,rfl,wpAny_pure h⟩))) htake)
  |exact wpAny_bind (wpAny_bind (m:=Builtin.Tuple.tupleExact _) (wpAny_newObj_type (wpAny_pure (wpAny_pure ⟨_,rfl,wpAny_pure h⟩)) htake))
  |exact wpAny_bind (wpAny_bind (m:=Builtin.Tuple.tupleExact _) (wpAny_newObj_type (wpAny_pure ⟨_,rfl,wpAny_pure h⟩) htake))
end
end HT
namespace L2
open PySem PySem.Spec PyProof.Rows
def aIA(t T:String):Bool:=decide (t=T)||(decide (t="bool")&&decide (T="int"))
theorem aHy{K:PySem.W.Frag}(ht:t∈["NoneType","bool","int","str","list","tuple","dict"])(hT:T∈["bool","int","str","list","tuple","dict"]):
  PySem.W.kitOne K (.type t) (.type T)=some (aIA t T):=by
 simp only[List.mem_cons,List.not_mem_nil,or_false]at ht hT;rcases ht with rfl|rfl|rfl|rfl|rfl|rfl|rfl<;>rcases hT with rfl|rfl|rfl|rfl|rfl|rfl<;>kernel_rfl
def pZ(t T:String)(b:Bool):Bool:=decide (t∈["NoneType","bool","int","str","list","tuple","dict"])&&decide (T∈["bool","int","str","list","tuple","dict"])&&(aIA t T==b)
theorem aCn{K:PySem.W.Frag}(h:pZ t T b=true):PySem.W.kitOne K (.type t) (.type T)=some b:=by
 unfold pZ at h;rw[Bool.and_eq_true,Bool.and_eq_true]at h;rw[aHy (of_decide_eq_true h.1.1) (of_decide_eq_true h.1.2),eq_of_beq h.2]
theorem bL(h:H p=none)(o:HO):aV H (upd H p o):=λ b u q=>by rw[aZ (bU q h)];exact q
section
variable{X:Cx}
def aLx(K:PySem.W.Frag):List V->Hp->VK->Prop:=λ xs H Q=>∃x T t b,xs=[x,.ty T]/\uF K H x (.type t)/\pZ t T b=true/\Q (.bl b) H
theorem mO:dG X (.builtin "isinstance") (aLx X.K):=by
 intro pins s σ H xs us Q I r h;obtain⟨x,T,t,b,rfl,ty,ok,q⟩:=h;obtain⟨u,w',rfl,r1,r2⟩:=vals2 r;obtain rfl:w'=Value.type T:=r2;exact aEY I r1 ty (aCn ok) λ tk=>⟨.bl b,H,I.tok tk,rfl,q⟩
def aHV(K:PySem.W.Frag):R2:=λ x y H Q=>∃a b ns ms,x= .ref a/\y= .ref b/\SqT K H a (ns.map V.int)/\SqT K H b (ms.map V.int)/\Q (.bl (HT.lexLe ns ms)) H
theorem aKC(hu:X.A.units<cLine):OpR X (compareOp .LtE) (aHV X.K):=by
 intro pins s σ H x y v u Q I rx ry h;obtain⟨a,b,ns,ms,rfl,rfl,ha,hb,q⟩:=h;cases rx;cases ry;obtain⟨its,r1,p1,_⟩:=I.tuple ha;obtain⟨its2,r2,p2,_⟩:=I.tuple hb;have i1:IntsAre its.toArray.toList ns:=intsAre_of r1;have i2:IntsAre its2.toArray.toList ms:=intsAre_of r2;exact HT.aCi p1 p2 i1 i2 hu ⟨.bl (HT.lexLe ns ms),H,I,rfl,q⟩
theorem aFl:OpR X (compareOp .Is) (λ x y H Q=>∃b c,x= .bl b/\y= .bl c/\Q (.bl (b==c)) H):=by
 intro pins s σ H x y v u Q I rx ry h;obtain⟨b,c,rfl,rfl,q⟩:=h;cases rx;cases ry;exact is_bool (aG4 I q rfl)
end
def mW(l:Addr)(H H':Hp):Prop:=∀b o,b≠l->H b=some o->H' b=some o
theorem aV.sqt{K:PySem.W.Frag}(e:aV H H')(h:SqT K H a xs):SqT K H' a xs:=by
 rcases h with (h|⟨o,h⟩)|h
 ·exact .inl (.inl (e _ _ h))
 ·exact .inl (.inr ⟨o,e _ _ h⟩)
 ·exact .inr h
inductive D where
 |non|bl (b:Bool)|int (i:Int)|str (x:Str)|tup (l:List D)|lst (l:List D)|dct
mutual
inductive Rep(H:Hp):V->D->Prop where
 |non:Rep H .non .non
 |bl (b:Bool):Rep H (.bl b) (.bl b)
 |int (i:Int):Rep H (.int i) (.int i)
 |str (x:Str):Rep H (.str x) (.str x)
 |tup {a:Addr} {xs:List V} {ds:List D} (h:H a=some (.tup xs)) (r:iC H xs ds):Rep H (.ref a) (.tup ds)
 |lst {a:Addr} {xs:List V} {ds:List D} (h:H a=some (.lst xs)) (r:iC H xs ds):Rep H (.ref a) (.lst ds)
 |dct {a:Addr} (h:H a=some (.dK [])):Rep H (.ref a) .dct
inductive iC(H:Hp):List V->List D->Prop where
 |nil:iC H [] []
 |cons {x:V} {d:D} {xs:List V} {ds:List D} (h:Rep H x d) (r:iC H xs ds):iC H (x::xs) (d::ds)
end
mutual
theorem Rep.mono(s:aV H H'):∀{x:V} {d:D},Rep H x d->Rep H' x d
 |_,_,.non=>.non
 |_,_,.bl b=>.bl b
 |_,_,.int i=>.int i
 |_,_,.str x=>.str x
 |_,_,.tup h r=>.tup (s _ _ h) (iC.mono s r)
 |_,_,.lst h r=>.lst (s _ _ h) (iC.mono s r)
 |_,_,.dct h=>.dct (s _ _ h)
theorem iC.mono(s:aV H H'):∀{xs:List V} {ds:List D},iC H xs ds->iC H' xs ds
 |_,_,.nil=>.nil
 |_,_,.cons h r=>.cons (Rep.mono s h) (iC.mono s r)
end
theorem iC.length:∀{xs:List V} {ds:List D},iC H xs ds->xs.length=ds.length
 |_,_,.nil=>rfl
 |_,_,.cons _ r=>by rw[List.length_cons,List.length_cons,iC.length r]
theorem iC.get:∀{xs:List V} {ds:List D} {i:Nat} {x:V},iC H xs ds->xs[i]? =some x->∃d,ds[i]? =some d/\Rep H x d
 |_,_,_,_,.nil,e=>by simp at e
 |_,_,0,_,.cons h _,e=>by simp at e;subst e;exact⟨_,rfl,h⟩
 |_,_,i+1,x,.cons _ r,e=>by
  obtain⟨d,h1,h2⟩:=iC.get (i:=i) (x:=x) r (by simpa using e);exact⟨d,by simpa using h1,h2⟩
def tyD:D->String
 | .non=>"NoneType"| .bl _=>"bool"| .int _=>"int"| .str _=>"str"| .tup _=>"tuple"| .lst _=>"list"| .dct=>"dict"
theorem PE.weaken(h:PE X e t)(imp:∀σ H Q,t' σ H Q->t σ H Q):PE X e t':=λ pins s σ H Q I q=>h pins s σ H Q I (imp σ H Q q)
theorem OpR.weaken(h:OpR X f r)(imp:∀x y H Q,r' x y H Q->r x y H Q):OpR X f r':=λ pins s σ H x y v u Q I rx ry q=>h pins s σ H x y v u Q I rx ry (imp x y H Q q)
def New(H:Hp)(o:HO)(Q:VK):Prop:=∀p H',aV H H'->H' p=some o->H p=none->Q (.ref p) H'
theorem New.at(n:New H o Q)(hp:H p=none):Q (.ref p) (upd H p o):=n p _ (bL hp o) bA hp
section
variable{X:Cx}{e:Expr}{es:List Expr}{te:TE}{t:TA}{pos:Pos}
def aKy(t:TA):TE:=λ σ H Q=>t σ H λ xs H1=>xs.length<=sizeLine/\New H1 (.tup xs) Q
def aEx(t:TA):TE:=λ σ H Q=>t σ H λ xs H1=>xs.length<=sizeLine/\New H1 (.lst xs) Q
theorem aH7{x1}(h:PA X es t):PE X (.Tuple es x1 pos) (aKy t):=by
 have h':PA X es (λ σ H Q=>∃R:List V->Hp->Prop,t σ H R/\∀xs H',R xs H'->Q xs H'):=by
  intro pos pins s σ H Q I ⟨R,q,imp⟩;exact thn (h pos pins s σ H R I q) λ us s' ⟨vs,H',I',r,q'⟩=>⟨vs,H',I',r,imp _ _ q'⟩
 exact(aJe h').weaken λ σ H Q q=>⟨_,q,λ xs H' ⟨z,n⟩=>⟨z,λ p hp=>n.at hp⟩⟩
theorem nF(h:PA X es t):PE X (.List es pos) (aEx t):=by
 have h':PA X es (λ σ H Q=>∃R:List V->Hp->Prop,t σ H R/\∀xs H',R xs H'->Q xs H'):=by
  intro pos pins s σ H Q I ⟨R,q,imp⟩;exact thn (h pos pins s σ H R I q) λ us s' ⟨vs,H',I',r,q'⟩=>⟨vs,H',I',r,imp _ _ q'⟩
 exact(aJi h').weaken λ σ H Q q=>⟨_,q,λ xs H' ⟨z,n⟩=>⟨z,λ p hp=>n.at hp⟩⟩
def aF0:R2:=λ x y H Q=>∃l b xs zs,x= .ref l/\y= .ref b/\H l=some (.lst xs)/\H b=some (.lst zs)/\xs.length+zs.length<=sizeLine/\New H (.lst (xs++zs)) Q
theorem aAK:OpR X (binaryOp .Add) aF0:=aKH.weaken λ x y H Q ⟨l,b,xs,zs,e1,e2,h1,h2,z,n⟩=>⟨l,b,xs,zs,e1,e2,h1,h2,z,λ p hp=>n.at hp⟩
def wB:V->List V->Hp->VK->Prop:=λ x vs H Q=>∃l xs y,x= .ref l/\vs=[y]/\H l=some (.lst xs)/\xs.length<sizeLine/\∀H',mW l H H'->H' l=some (.lst (xs++[y]))->Q .non H'
theorem wK:MtM X "list.append" wB:=λ pins s σ H x xs v us Q I rx rv ⟨l,ys,y,e1,e2,h,z,n⟩=>
 tQ pins s σ H x xs v us Q I rx rv ⟨l,ys,y,e1,e2,h,z,n _ (λ b o ne hb=>by rw[aZ ne];exact hb) bA⟩
end
section
variable{X:Cx}{a b c:Expr}{ta tb:TE}{tt:TT}{pos:Pos}
end
def bD(scope:Scope)(env:Env):List (Str×Addr):=(scope.names.filterMap λ y=>if y.2== .free then(env.cells.lookup y.1).map λ c=>(y.1,c)else none).reverse
theorem xY(env:Env):∀(names:List (Str×NameKind)) (acc:List (Str×Addr)),(∀y∈names,y.2= .free->∃c,env.cells.lookup y.1=some c)->
  (forIn names acc λ(x:Str×NameKind) r=>if (x.2== .free)=true then do let c <-cellOf env x.1;pure (ForInStep.yield ((x.1,c)::r))else pure (ForInStep.yield r):Sem (List (Str×Addr)))=
   pure ((names.filterMap λ y=>if y.2== .free then(env.cells.lookup y.1).map λ c=>(y.1,c)else none).reverse++acc)
 |[],acc,_=>rfl
 |(n,k)::r,acc,h=>by
  rw[List.forIn_cons];have ih:=λ acc'=>xY env r acc' λ y hy=>h y (List.mem_cons_of_mem _ hy)
  by_cases hk:k= .free
  ·subst hk
   obtain⟨c,hc⟩:=h (n,.free) List.mem_cons_self rfl;have hc':env.cells.lookup n=some c:=hc;simp only[beq_self_eq_true,if_true,cellOf,hc',List.filterMap_cons,Option.map_some,List.reverse_cons,List.append_assoc,List.singleton_append];exact ih _
  ·have hb:(k==NameKind.free)=false:=by simpa using hk
   simp only[hb,Bool.false_eq_true,if_false,List.filterMap_cons];exact ih _
theorem jM(h:∀y∈scope.names,y.2= .free->∃c,env.cells.lookup y.1=some c):closureFor scope env=pure (bD scope env):=by
 have e:=xY env scope.names [] h;rw[List.append_nil]at e;have e2:closureFor scope env=((forIn scope.names ([]:List (Str×Addr)) λ(x:Str×NameKind) r=>if (x.2== .free)=true then do let c <-cellOf env x.1;pure (ForInStep.yield ((x.1,c)::r))else pure (ForInStep.yield r):Sem (List (Str×Addr)))>>=λ r=>pure r):=rfl;rw[e2,e];rfl
theorem gn(h:(bD scope env).lookup x=some c):env.cells.lookup x=some c:=by
 have hm:=PySem.mem_of_lookup h;unfold bD at hm;rw[List.mem_reverse,List.mem_filterMap]at hm;obtain⟨y,hy,e⟩:=hm;split at e
 ·cases q:env.cells.lookup y.1 with
  |none=>rw[q]at e;cases e
  |some c'=>
   rw[q]at e;have e':=Option.some.inj e;injection e' with e1 e2
   subst e1 e2;exact q
 ·cases e
theorem sI(hx:scope.names.lookup x=some .free)(h:env.cells.lookup x=some c):(bD scope env).lookup x=some c:=by
 have hm:(x,NameKind.free)∈scope.names:=PySem.mem_of_lookup hx
 have:(x,c)∈bD scope env:=by
  unfold bD;rw[List.mem_reverse,List.mem_filterMap];exact⟨_,hm,by simp[h]⟩
 cases q:(bD scope env).lookup x with
 |none=>
  exact absurd this (by
   intro hm'
   have:=List.lookup_eq_none_iff.mp q _ hm'
   simp at this)
 |some c'=>
  have:=gn q
  rw[h]at this;exact this.symm▸rfl
def Cx.block(X:Cx)(scope:Scope)(C:Addr)(N:List Str)(fp:List Addr)(s₀:Shared)(H₀:Hp):Cx:=
  {prog:=X.prog,w:=X.w,K:=X.K,mg:=X.mg,base:=X.base,A:=X.A,N:=N,s₀:=s₀,H₀:=H₀,env:=compEnvC scope (bD scope X.env) C X.env,outer:=X.stack,stack:=X.stack,ex:=fp,
    fn:=λ _=>false,calm:=X.calm,pn:=[],xe:=λ _ _=>False}
structure fZ(X:Cx)(scope:Scope)(N:List Str)(st:St->St)(ks:List Nat):Prop where
 kind:scope.kind= .function
 cell:∀y∈scope.names,y.2≠.cell
 loc:∀y∈scope.names,y.2= .local->scope.names.lookup y.1=some .local
 free:∀y∈scope.names,y.2= .free->X.env.kindOf y.1=some .cell\/X.env.kindOf y.1=some .free
 len:∀σ,(st σ).length=N.length
 val:∀σ (i:Nat) x v,N[i]? =some x->(st σ)[i]? =some (some v)->scope.names.lookup x=some .free/\i∉ks/\∃j:Nat,X.N[j]? =some x/\σ[j]? =some (some v)
theorem aAF(h:(relabel scope env).names.lookup x=some .cell\/(relabel scope env).names.lookup x=some .free)(hc:∀y∈scope.names,y.2≠.cell):scope.names.lookup x=some .free:=by
 have go:∀names:List (Str×NameKind),(∀y∈names,y.2≠.cell)->((names.map λ(n,k)=>if (k==NameKind.free&&env.scope.kind== .function&&env.kindOf n==some .cell)then(n,NameKind.cell)else(n,k)).lookup x=some .cell\/
   (names.map λ(n,k)=>if (k==NameKind.free&&env.scope.kind== .function&&env.kindOf n==some .cell)then(n,NameKind.cell)else(n,k)).lookup x=some .free)->names.lookup x=some .free:=by
  intro names;induction names with
  |nil=>intro _ h;simp at h
  |cons y r ih=>
   obtain⟨n,k⟩:=y;intro hc h;have hr:=ih λ y hy=>hc y (List.mem_cons_of_mem _ hy)
   have hk:k≠.cell:=hc (n,k) List.mem_cons_self;rw[List.map_cons]at h;by_cases hx:x==n
   ·rw[List.lookup_cons,hx]
    show some k=some .free;by_cases hcc:(k==NameKind.free&&env.scope.kind== .function&&env.kindOf n==some .cell)=true
    ·rw[Bool.and_eq_true,Bool.and_eq_true]at hcc
     rw[eq_of_beq hcc.1.1]
    ·simp only[if_neg hcc,List.lookup_cons,hx]at h
     rcases h with h|h
     ·exact absurd (Option.some.inj h) hk
     ·exact h
   ·have hx':(x==n)=false:=by simpa using hx
    rw[List.lookup_cons,hx'];refine hr ?_;by_cases hcc:(k==NameKind.free&&env.scope.kind== .function&&env.kindOf n==some .cell)=true
    ·simp only[if_pos hcc,List.lookup_cons,hx']at h
     exact h
    ·simp only[if_neg hcc,List.lookup_cons,hx']at h
     exact h
 exact go scope.names hc h
theorem aAG(h:scope.names.lookup x=some .free):(relabel scope env).names.lookup x=some .cell\/(relabel scope env).names.lookup x=some .free:=by
 have go:∀names:List (Str×NameKind),names.lookup x=some .free->((names.map λ(n,k)=>if (k==NameKind.free&&env.scope.kind== .function&&env.kindOf n==some .cell)then(n,NameKind.cell)else(n,k)).lookup x=some .cell\/
   (names.map λ(n,k)=>if (k==NameKind.free&&env.scope.kind== .function&&env.kindOf n==some .cell)then(n,NameKind.cell)else(n,k)).lookup x=some .free):=by
  intro names;induction names with
  |nil=>intro h;simp at h
  |cons y r ih=>
   obtain⟨n,k⟩:=y;intro h;rw[List.map_cons];by_cases hx:x==n
   ·rw[List.lookup_cons,hx]at h
    have hk:k= .free:=Option.some.inj h;by_cases hcc:(k==NameKind.free&&env.scope.kind== .function&&env.kindOf n==some .cell)=true
    ·simp only[if_pos hcc,List.lookup_cons,hx]
     exact .inl trivial
    ·simp only[if_neg hcc,List.lookup_cons,hx]
     exact .inr (by rw[hk])
   ·have hx':(x==n)=false:=by simpa using hx
    rw[List.lookup_cons,hx']at h;by_cases hcc:(k==NameKind.free&&env.scope.kind== .function&&env.kindOf n==some .cell)=true
    ·simp only[if_pos hcc,List.lookup_cons,hx']
     exact ih h
    ·simp only[if_neg hcc,List.lookup_cons,hx']
     exact ih h
 exact go scope.names h
section
variable{X:Cx}{pins:List (Addr×Obj)}{σ:St}{H H':Hp}{s:Shared}
theorem Inv.block{st:St->St}{D C:Addr}(I:Inv X pins σ H s)(B:fZ X scope N st ks)
  (hfp:∀b∈fp,pQ X pins H b)(hob:∀b∈fp,∃ob,s.heap.get? b=some ob)
  (hD:s.heap.objs.size<=D)(hC:s.heap.objs.size<=C)(hDC:D≠C)(keep:∀b u,s.heap.get? b=some u->h'.get? b=some u)(hns:h'.Ns C λ _=>none)(hacc:dZ X.prog X.w (upd H D o) h' D o):
  Inv (X.block scope C N fp s H) [] (st σ) (upd H D o) {s with heap:=h',toks:=tk}:=by
 have hHD:H D=none:=I.hok.fresh hD;have hcl:∀x c,(bD scope X.env).lookup x=some c->X.env.cells.lookup x=some c:=λ x c e=>gn e
 have hfresh:∀b∈fp,b<s.heap.objs.size:=λ b hb=>by
  obtain⟨ob,e⟩:=hob b hb;exact Heap.lt_size e
 refine⟨⟨I.mod,?_,I.ok.glob,I.ok.blt,hC,λ x y c e1 e2=>I.ok.inj x y c (hcl x c e1) (hcl y c e2),λ x hx=>?_,λ x c hf=>absurd (show false=true from hf) Bool.false_ne_true,I.ok.hd,I.ok.frames,.inl rfl,λ b hb=>⟨?_,λ x c e z=>?_⟩,
  I.bs,?_,λ b ob e hb=>?_,λ b hb hs=>?_,I.stack,I.stkFree⟩,rfl,I.bare,Un.laid keep hD hHD,⟨_,hns,λ i x v e1 e2 hv=>?_⟩,λ x c e=>?_,?_,λ x c e=>?_,λ p hp=>absurd (show p∈([]:List (Addr×Obj))from hp) (by simp),I.hok.laid keep hD hacc,B.len σ,λ p hp=>absurd (show p∈([]:List (Addr×Obj))from hp) (by simp)⟩
 ·show(relabel scope X.env).kind= .function
  exact B.kind
 ·have hfree:=aAF hx B.cell
  obtain⟨c,hc⟩:=I.ok.has x (B.free (x,.free) (PySem.mem_of_lookup hfree) rfl);exact⟨c,sI hfree hc⟩
 ·exact Nat.ne_of_lt (Nat.lt_of_lt_of_le (hfresh b hb) hC)
 ·exact(hfp b hb).2.2.2.2.1 x c (hcl x c e) z
 ·exact Nat.le_trans I.ok.bsz I.sz
 ·rcases(hfp b hb).2.2.2.1 with z|z
  ·exact I.ok.noex b ob e z
  ·exact absurd (Nat.lt_of_lt_of_le (Heap.lt_size (I.ok.bs b ob e).1) z) (Nat.lt_irrefl _)
 ·rcases List.mem_cons.mp (I.stkSub b hs)with z|z
  ·exact(hfp b hb).2.1 z
  ·exact(hfp b hb).2.2.1 z
 ·obtain⟨hfree,_,j,f1,f2⟩:=B.val σ i x v e1 e2
  obtain⟨m,hn,hl⟩:=I.loc;have hk:=B.free (x,.free) (PySem.mem_of_lookup hfree) rfl;obtain⟨u,ru,hu⟩:=hl j x v f1 f2 (hk.elim (λ z=>.inr (.inl z)) λ z=>.inr (.inr z));rcases hu with ⟨k,_⟩|⟨_,c,ec,ic⟩
  ·rcases hk with z|z
   ·exact absurd (k.symm.trans z) (by decide)
   ·exact absurd (k.symm.trans z) (by decide)
  ·refine⟨u,ru,.inr ⟨?_,c,sI hfree ec,ic.keeps keep⟩⟩
   rcases hv with z|z|z
   ·have z':(relabel scope X.env).names.lookup x=some .local:=z
    rcases aAG (env:=X.env) hfree with y|y
    ·exact absurd (z'.symm.trans y) (by decide)
    ·exact absurd (z'.symm.trans y) (by decide)
   ·exact .inl z
   ·exact .inr z
 ·obtain⟨v,ic⟩:=I.cell x c (hcl x c e)
  exact⟨v,ic.keeps keep⟩
 ·show upd H D o C=none
  rw[aZ (Ne.symm hDC)];exact I.hok.fresh hC
 ·show upd H D o c=none
  obtain⟨v,ic⟩:=I.cell x c (hcl x c e);rw[aZ (Nat.ne_of_lt (Nat.lt_of_lt_of_le ic.lt hD))];exact I.freeC x c (hcl x c e)
end
section
variable{prog:Program}{w:World}{A:Around}{R:Result->Shared->Prop}{s:Shared}
theorem aAg(I:Nat->Shared->Prop)
  (turn:∀n s,I n s->wpAny (model prog w) A (pyNext it) (λ r s₁=>match r with
   |none=>R (.ok .next) s₁
   |some v=>wpAny (model prog w) A (letOwnedTupleGo target it v) (λ _ s₁=>wpAny (model prog w) A (assign target env v) (λ _ s₂=>
     wpAny (model prog w) A (forIn ifs true λ c r=>if r=true then do let ok <-isTrue c env (eval c env);pure (ForInStep.yield ok)else pure (ForInStep.yield r)) (λ ok s₃=>
      if ok=true then wpAny (model prog w) A (eval elt env) (λ x s₄=>
       wpAny (model prog w) A (call (.builtin "list.append") [acc,x]) (λ _ s₅=>∃m,m<n/\I m s₅) (λ _ _=>False) s₄) (λ _ _=>False) s₃
      else∃m,m<n/\I m s₃) (λ _ _=>False) s₂) (λ _ _=>False) s₁) (λ _ _=>False) s₁) (λ _ _=>False) s)
  (n:Nat)(h:I n s):codeAny (model prog w) A (.compLoop (.ListComp elt [⟨target,iter,ifs,0⟩] scope pos) 0 it acc env) R s:=by
 refine codeAny_loop rfl I (λ n s hI=>?_) n h;show wpAny _ A ((compTurn (.ListComp elt [⟨target,iter,ifs,0⟩] scope pos) 0 it acc env).onRaise (λ x=>do noteFrame x env;theTreesLotGoes x)) _ _ s;refine wpAny_noted ?_;rw[compTurn_list];refine wpAny_bind (wpAny_standAt (wpAny_bind (wpAny_mono (turn n s hI) (λ r s₁ h₁=>?_) λ _ _ h'=>h'.elim)));cases r with
 |none=>exact wpAny_pure h₁
 |some v=>
  refine wpAny_bind (wpAny_mono h₁ (λ _ s₁ h₁=>?_) λ _ _ h'=>h'.elim);refine wpAny_bind (wpAny_mono h₁ (λ _ s₂ h₂=>wpAny_bind (wpAny_mono h₂ (λ ok s₃ h₃=>?_) λ _ _ h'=>h'.elim)) λ _ _ h'=>h'.elim);cases ok with
  |false=>exact wpAny_pure ⟨rfl,h₃⟩
  |true=>
   exact wpAny_bind (wpAny_bind (wpAny_mono h₃ (λ x s₄ h₄=>wpAny_bind (wpAny_mono h₄ (λ _ s₅ h₅=>wpAny_pure (wpAny_pure ⟨rfl,h₅⟩)) λ _ _ h'=>h'.elim)) λ _ _ h'=>h'.elim))
end
def nZ(g:TG)(ks:List Nat):Prop:=∀v σ H (Q:St->Hp->Prop),g v σ H Q->g v σ H (λ σ' H'=>Q σ' H'/\σ'.length=σ.length/\∀k,k∉ks->σ'[k]? =σ[k]?)
def xn(g:TGs)(ks:List Nat):Prop:=∀vs σ H (Q:St->Hp->Prop),g vs σ H Q->g vs σ H (λ σ' H'=>Q σ' H'/\σ'.length=σ.length/\∀k,k∉ks->σ'[k]? =σ[k]?)
theorem aIM(h:i∈ks):nZ (qD i) ks:=λ v σ H Q q=>⟨q,List.length_set,λ k hk=>List.getElem?_set_ne (λ(e:i=k)=>hk (e▸h))⟩
theorem aIL:xn aKc ks:=λ vs σ H Q ⟨e,q⟩=>⟨e,q,rfl,λ _ _=>rfl⟩
def zW(g:TG):Prop:=∀v σ H (Q Q':St->Hp->Prop),(∀σ' H',Q σ' H'->Q' σ' H')->g v σ H Q->g v σ H Q'
def uH(g:TGs):Prop:=∀v σ H (Q Q':St->Hp->Prop),(∀σ' H',Q σ' H'->Q' σ' H')->g v σ H Q->g v σ H Q'
theorem aIO:zW (qD i):=λ v σ H Q Q' imp q=>imp _ _ q
theorem aIN:uH aKc:=λ v σ H Q Q' imp ⟨e,q⟩=>⟨e,imp _ _ q⟩
theorem aGY(h1:zW t)(h2:uH u):uH (aG0 t u):=λ vs σ H Q Q' imp ⟨v,r,e,q⟩=>⟨v,r,e,h1 _ _ _ _ _ (λ σ' H' q'=>h2 _ _ _ _ _ imp q') q⟩
theorem aGW(h1:nZ t ks)(m1:zW t)(h2:xn u ks)(m2:uH u):xn (aG0 t u) ks:=λ vs σ H Q ⟨v,r,e,q⟩=>
 ⟨v,r,e,m1 _ _ _ _ _ (λ σ' H' ⟨q',l',k'⟩=>m2 _ _ _ _ _ (λ σ2 H2 ⟨q2,l2,k2⟩=>⟨q2,l2.trans l',λ k hk=>(k2 k hk).trans (k' k hk)⟩) (h2 _ _ _ _ q')) (h1 _ _ _ _ q)⟩
theorem aKa{K:PySem.W.Frag}(h:xn t ks):nZ (aIP K n t) ks:=λ v σ H Q ⟨a,xs,e1,e2,e3,q⟩=>⟨a,xs,e1,e2,e3,h _ _ _ _ q⟩
theorem aKb{K:PySem.W.Frag}(h:uH t):zW (aIP K n t):=λ v σ H Q Q' imp ⟨a,xs,e1,e2,e3,q⟩=>⟨a,xs,e1,e2,e3,h _ _ _ _ _ imp q⟩
def aAs(X:Cx)(ifs:List Expr)(t:TT):Prop:=
 ∀(pins:List (Addr×Obj)) (s:Shared) (σ:St) (H:Hp) (Q:Bool->Hp->Prop),Inv X pins σ H s->t σ H Q->
  wpAny (model X.prog X.w) X.A (forIn ifs true λ c r=>if r=true then do let ok <-isTrue c X.env (eval c X.env);pure (ForInStep.yield ok)else pure (ForInStep.yield r)) (TP X pins σ Q) X.xe s
def aLm:TT:=λ _ H Q=>Q true H
theorem aJd:aAs X [] aLm:=λ _ _ _ H _ I h=>wpAny_tests_nil ⟨H,I,h⟩
theorem aJc(h:PT X c t):aAs X [c] t:=λ pins s σ H Q I q=>wpAny_tests_one (h pins s σ H Q I q)
def tLC(wi:TI)(st:St->St)(g:TG)(tt:TT)(te:TE):TE:=λ σ H Q=>wi σ H λ J H1=>∀l,H1 l=none->∃W:Nat->Nat->List V->Hp->Prop,(∃m,W 0 m [] (upd H1 l (.lst [])))/\
 ∀i m acc H2,W i m acc H2->H2 l=some (.lst acc)/\acc.length<sizeLine/\((J.stop i H2/\Q (.ref l) H2)\/(J.go i H2/\∀x H3,J.yld i H2 x H3->g x (st σ) H3 λ σ4 H4=>tt σ4 H4 λ ok H5=>
  if ok=true then te σ4 H5 λ y H6=>H6 l=some (.lst acc)/\∃m',m'<m/\W (i+1) m' (acc++[y]) (upd H6 l (.lst (acc++[y])))else∃m',m'<m/\W (i+1) m' acc H5))
section
variable{X:Cx}{elt tg iter:Expr}{ifs:List Expr}{scope:Scope}{pos:Pos}{N:List Str}{st:St->St}{ks:List Nat}{wi:TI}{g:TG}{tt:TT}{te:TE}
theorem aB0(B:fZ X scope N st ks)(hc:X.calm=true)(hg:∀C fp s₀ H₀,PG (X.block scope C N fp s₀ H₀) tg g)(hgo:nZ g ks)(ht:∀C fp s₀ H₀,aAs (X.block scope C N fp s₀ H₀) ifs tt)
  (he:∀C fp s₀ H₀,PE (X.block scope C N fp s₀ H₀) elt te){H1:Hp}{Q:VK}{RR:Value->Addr->Result->Shared->Prop}
  (I:Inv X pins σ H1 s₂)(T:Turn X.prog X.w X.K tg J fp it tn)(h0:tn 0 s₂.heap)(hfp:∀b∈fp,pQ X pins H1 b)
  (h:∀l,H1 l=none->∃W:Nat->Nat->List V->Hp->Prop,(∃m,W 0 m [] (upd H1 l (.lst [])))/\
   ∀i m acc H2,W i m acc H2->H2 l=some (.lst acc)/\acc.length<sizeLine/\((J.stop i H2/\Q (.ref l) H2)\/(J.go i H2/\∀x H3,J.yld i H2 x H3->g x (st σ) H3 λ σ4 H4=>tt σ4 H4 λ ok H5=>
    if ok=true then te σ4 H5 λ y H6=>H6 l=some (.lst acc)/\∃m',m'<m/\W (i+1) m' (acc++[y]) (upd H6 l (.lst (acc++[y])))else∃m',m'<m/\W (i+1) m' acc H5)))
  (hRR:∀D C H' s',(∃σ',Inv (X.block scope C N fp s₂ H1) [] σ' H' s')->s₂.heap.objs.size<=C->Q (.ref D) H'->RR (.ref D) C (.ok .next) s'):
  wpAny (model X.prog X.w) X.A (newList []) (λ acc s₃=>wpAny (model X.prog X.w) X.A (newFunctionEnv scope X.env.globals (bD scope X.env) [] X.env.qual none .none (some X.env)) (λ cenv s₄=>
   codeAny (model X.prog X.w) X.A (.compStart (.ListComp elt [⟨tg,iter,ifs,0⟩] scope pos) 0 (.ref it) acc {cenv with scope:=relabel scope X.env}) (RR acc cenv.locals) s₄) E s₃) E s₂:=by
 refine wpAny_newObj_type (wpAny_newFunctionEnv B.cell (by intro y hy;simp at hy) (λ h₁ hns₁ hsb₁=>?_) B.kind);dsimp only at hns₁ hsb₁ ⊢;generalize hH2:s₂.heap.push {cls:=.type "list",dict:=none,data:=.seq ([]:List Value).toArray}=P2 at hns₁ hsb₁ ⊢;have hC:P2.objs.size=s₂.heap.objs.size+1:=by rw[<-hH2,Heap.size_push]
 have hDC:s₂.heap.objs.size≠P2.objs.size:=by rw[hC];exact Nat.ne_of_lt (Nat.lt_succ_self _)
 have hCle:s₂.heap.objs.size<=P2.objs.size:=by rw[hC];exact Nat.le_succ _
 have old:∀b o,s₂.heap.get? b=some o->h₁.get? b=some o:=λ b o e=>
  hsb₁.extBut b o (by rw[hC];exact Nat.ne_of_lt (Nat.lt_succ_of_lt (Heap.lt_size e))) (Heap.get?_push_of_some _ (hH2▸Heap.get?_push_of_some _ e))
 have hacc:h₁.get? s₂.heap.objs.size=some {cls:=.type "list",dict:=none,data:=.seq ([]:List Value).toArray}:=hsb₁.extBut _ _ hDC (Heap.get?_push_of_some _ (hH2▸Heap.get?_push_size _ rfl));generalize hCe:P2.objs.size=C at hns₁ hsb₁ hDC hCle ⊢;have hHD:H1 s₂.heap.objs.size=none:=I.hok.fresh (Nat.le_refl _);have I0:Inv (X.block scope C N fp s₂ H1) [] (st σ) (upd H1 s₂.heap.objs.size (.lst [])) {s₂ with heap:=h₁,toks:=s₂.toks+([]:List (Str×Value)).length}:=
  I.block B hfp (λ b hb=>by obtain⟨o,e,_⟩:=T.obj 0 _ h0 b hb;exact⟨o,e⟩) (Nat.le_refl _) hCle hDC old (by simpa using hns₁) ⟨Nat.zero_le _,[],0,.nil,hacc⟩
 obtain⟨W,⟨m0,w0⟩,step⟩:=h _ hHD;have h01:tn 0 h₁:=T.keep 0 _ _ h0 λ b _ o e=>old b o e
 have stat:∀{H':Hp},(∀b∈fp,H' b=none)->∀b∈fp,pQ (X.block scope C N fp s₂ H1) [] H' b:=λ{H'} hn b hb=>
  ⟨hn b hb,(I0.ok.exf b hb).1,I0.ok.exfs b hb,.inl hb,λ x c e=>(I0.ok.exf b hb).2 x c e,λ p hp=>absurd (show p∈([]:List (Addr×Obj))from hp) (by simp)⟩
 have fr0:∀b∈fp,upd H1 s₂.heap.objs.size (.lst []) b=none:=λ b hb=>by
  obtain⟨o,e,_⟩:=T.obj 0 _ h0 b hb;rw[aZ (Nat.ne_of_lt (Heap.lt_size e))];exact(hfp b hb).1
 have loop:∀s₃:Shared,s₃={s₂ with heap:=h₁,toks:=s₂.toks+([]:List (Str×Value)).length}->
   codeAny (model X.prog X.w) X.A (.compLoop (.ListComp elt [⟨tg,iter,ifs,0⟩] scope pos) 0 (.ref it) (.ref s₂.heap.objs.size) (X.block scope C N fp s₂ H1).env) (RR (.ref s₂.heap.objs.size) C) s₃:=by
  rintro s₃ rfl;refine aAg (λ n s'=>∃i acc H2,Inv (X.block scope C N fp s₂ H1) [] (st σ) H2 s'/\tn i s'.heap/\(∀b∈fp,H2 b=none)/\W i n acc H2) ?_ m0 ⟨0,[],_,I0,h01,fr0,w0⟩;rintro n s3 ⟨i,acc,H2,I2,st2,fr2,w2⟩;obtain⟨hl,hz,alt⟩:=step i n acc H2 w2;rcases alt with ⟨stop,q⟩|⟨go,nxt⟩
  ·refine thn (T.done (X.block scope C N fp s₂ H1) rfl rfl rfl hc i [] s3 (st σ) H2 _ I2 (stat fr2) st2 stop) λ r s4 ⟨hr,I4⟩=>?_
   subst hr;exact hRR _ C H2 s4 ⟨_,I4⟩ hCle q
  ·refine thn (T.item (X.block scope C N fp s₂ H1) rfl rfl rfl hc i [] s3 (st σ) H2 _ I2 (stat fr2) st2 go) λ r s4 ⟨u,hr,h4⟩=>?_
   subst hr;refine thn h4 λ _ s5 ⟨x,H5,I5,r5,y5,st5,fr5⟩=>?_
   have I5':=I5.pinned (stat fr5) (T.obj _ _ st5);refine thn (hg C fp s₂ H1 _ s5 (st σ) H5 x u _ I5' r5 (hgo _ _ _ _ (nxt x H5 y5))) λ _ s6 ⟨σ6,H6,I6,q6,aER,ag6⟩=>?_
   refine thn (ht C fp s₂ H1 _ s6 σ6 H6 _ I6 q6) λ ok s7 ⟨H7,I7,q7⟩=>?_
   have again:∀{H9:Hp} {s9:Shared} {acc':List V},Inv (X.block scope C N fp s₂ H1) ([]++qg fp s5.heap) σ6 H9 s9->(∃m',m'<n/\W (i+1) m' acc' H9)->
     ∃m,m<n/\∃i acc H2,Inv (X.block scope C N fp s₂ H1) [] (st σ) H2 s9/\tn i s9.heap/\(∀b∈fp,H2 b=none)/\W i m acc H2:=λ{H9 s9 acc'} I9 ⟨m',hm,w9⟩=>by
    have pin9:∀b∈fp,∀o,s5.heap.get? b=some o->s9.heap.get? b=some o/\H9 b=none:=λ b hb o e=>by
     have z:=I9.pin (b,o) (List.mem_append_right _ (List.mem_append_right _ (jz hb e)));exact⟨z.1,z.2.1⟩
    refine⟨m',hm,i+1,acc',H9,I9.unpinned.weak (by rw[aER]) (λ k v e=>?_),T.keep _ _ _ st5 λ b hb o e=>(pin9 b hb o e).1,λ b hb=>?_,w9⟩
    ·have hk:k<(st σ).length:=(List.getElem?_eq_some_iff.mp e).1
     have hkN:k<N.length:=by rw[<-B.len σ];exact hk
     obtain⟨_,hks,_⟩:=B.val σ k _ v (List.getElem?_eq_getElem hkN) e;rw[ag6 k hks];exact e
    ·obtain⟨o,e,_⟩:=T.obj _ _ st5 b hb
     exact(pin9 b hb o e).2
   cases ok with
   |false=>
    rw[if_neg Bool.false_ne_true]at q7 ⊢;exact again I7 q7
   |true=>
    rw[if_pos rfl]at q7 ⊢;refine thn (he C fp s₂ H1 _ s7 σ6 H7 _ I7 q7) λ u8 s8 ⟨y,H8,I8,r8,hl8,q8⟩=>?_
    refine thn (tQ _ s8 σ6 H8 (.ref s₂.heap.objs.size) [y] (.ref s₂.heap.objs.size) [u8] (λ _ H9=>H9=upd H8 s₂.heap.objs.size (.lst (acc++[y]))) I8 rfl (.cons r8 .nil) ⟨_,acc,y,rfl,rfl,hl8,hz,rfl⟩) λ _ s9 ⟨_,H9,I9,_,e9⟩=>?_
    subst e9;exact again I9 q8
 exact codeAny_compStart_list (loop _ rfl) (T.self X.A 0 _ _ _ h01 (loop _ rfl))
theorem aAo(I:Inv X pins σ H1 s₂)(hfp:∀b∈fp,pQ X pins H1 b)(h:∃σ',Inv (X.block scope C N fp s₂ H1) [] σ' H' s'):Inv X pins σ H' s':=by
 obtain⟨σ',J⟩:=h;exact I.call' (ch:=fp) J.os J.base J.hok J.bare λ b hb=>⟨(hfp b hb).2.2.2.1,(hfp b hb).2.1,(hfp b hb).2.2.2.2.1,(hfp b hb).2.2.2.2.2⟩
theorem aLV(B:fZ X scope N st ks)(hc:X.calm=true)(hi:PI X tg iter wi)(hg:∀C fp s₀ H₀,PG (X.block scope C N fp s₀ H₀) tg g)(hgo:nZ g ks)(ht:∀C fp s₀ H₀,aAs (X.block scope C N fp s₀ H₀) ifs tt)
  (he:∀C fp s₀ H₀,PE (X.block scope C N fp s₀ H₀) elt te)(hs:∀x,foldedSetIterable iter X.env x=pure x:=by intro _;rfl):PE X (.ListComp elt [⟨tg,iter,ifs,0⟩] scope pos) (tLC wi st g tt te):=by
 intro pins s σ H Q I h;have hcl:closureFor scope X.env=pure (bD scope X.env):=jM λ y hy hk=>I.ok.has _ (B.free y hy hk)
 rw[eval_ListComp];refine wpAny_comprehension_free (use:=none) rfl hs hcl B.kind B.loc (thn (hi pins s σ H _ I h) λ v s1 h1=>thn h1 λ itv s2 h2=>?_);obtain⟨it,fp,tn,J,H2,e,I2,T,st2,f2,hq⟩:=h2;subst e;refine aB0 (RR:=λ acc C=>compPost (model X.prog X.w) X.A X.xe none (EP X pins σ Q) acc C) B hc hg hgo ht he I2 T st2 f2 hq ?_;intro D C H' s' hJ hCle q;have I3:=aAo I2 f2 hJ;obtain⟨σ',J'⟩:=hJ;obtain⟨m,hn,_⟩:=id J'.loc;have hHC:H' C=none:=J'.free;refine⟨m,hn,λ h'' hs''=>⟨.ref D,H',?_,rfl,q⟩⟩;exact I3.turned (t':=s'.toks) (λ b o ne e=>(hs''.2 b ne).trans e) hHC (Nat.ne_of_gt (Nat.lt_of_lt_of_le I2.lt hCle)) (.inr (Nat.le_trans I2.sz hCle))
  (λ x c e z=>by obtain⟨v,ic⟩:=I2.cell x c e;exact absurd (Nat.lt_of_lt_of_le ic.lt (by rw[z];exact hCle)) (Nat.lt_irrefl _))
  (λ p hp z=>absurd (Nat.lt_of_lt_of_le (I2.pinL hp) (by rw[z];exact hCle)) (Nat.lt_irrefl _))
theorem aBQ(hN:X.N.Nodup)(hx1:X.N[i]? =some x)(hx2:Loc X.env.scope x)(B:fZ X scope N st ks)(hc:X.calm=true)(hi:PI X tg iter wi)(hg:∀C fp s₀ H₀,PG (X.block scope C N fp s₀ H₀) tg g)(hgo:nZ g ks)
  (ht:∀C fp s₀ H₀,aAs (X.block scope C N fp s₀ H₀) ifs tt)(he:∀C fp s₀ H₀,PE (X.block scope C N fp s₀ H₀) elt te)(hsw:swapsWith (.ListComp elt [⟨tg,iter,ifs,0⟩] scope pos) (some (.Name x pos')) spos.line X.env=pure true)
  (hs:∀x,foldedSetIterable iter X.env x=pure x:=by intro _;rfl)(hf:X.fn x=true\/X.env.scope.names.lookup x=some .local:=by first|exact .inl rfl|exact .inr rfl|assumption):
  PS X (.Assign [.Name x pos'] (.ListComp elt [⟨tg,iter,ifs,0⟩] scope pos) spos) (aCF (tLC wi st g tt te) (qD i)):=by
 intro pins s σ H D I h;have hcl:closureFor scope X.env=pure (bD scope X.env):=jM λ y hy hk=>I.ok.has _ (B.free y hy hk)
 rw[exec_Assign_Name_used _ _ _ _ hsw];refine wpAny_bind (wpAny_standAt (wpAny_bind ?_));show wpAny _ _ (do let _ <-comprehension (.ListComp elt [⟨tg,iter,ifs,0⟩] scope pos) scope X.env _ (newList []) false (eval iter X.env) (some (assign (.Name x pos') X.env))) _ _ s;refine wpAny_bind (wpAny_mono (wpAny_comprehension_free (use:=some (assign (.Name x pos') X.env)) (Q:=λ _ s'=>SP X pins D .next s') rfl hs hcl B.kind B.loc (thn (hi pins s σ H _ I h) λ v s1 h1=>thn h1 λ itv s2 h2=>?_)) (λ _ s' hq=>wpAny_pure (wpAny_pure hq)) λ _ _ e=>e);obtain⟨it,fp,tn,J,H2,e,I2,T,st2,f2,hq⟩:=h2;subst e;refine aB0 (Q:=λ x H1=>qD i x σ H1 D.nx) (RR:=λ acc C=>compPost (model X.prog X.w) X.A X.xe (some (assign (.Name x pos') X.env)) (λ _ s'=>SP X pins D .next s') acc C) B hc hg hgo ht he I2 T st2 f2 hq ?_;intro DD C H' s' hJ hCle q;have I3:=aAo I2 f2 hJ;obtain⟨σ',J'⟩:=hJ;obtain⟨m,hn,_⟩:=id J'.loc;have hHC:H' C=none:=J'.free;have neL:C≠X.env.locals:=Nat.ne_of_gt (Nat.lt_of_lt_of_le I2.lt hCle);have neC:∀x c,X.env.cells.lookup x=some c->c≠C:=λ x c e z=>by obtain⟨v,ic⟩:=I2.cell x c e;exact absurd (Nat.lt_of_lt_of_le ic.lt (by rw[z];exact hCle)) (Nat.lt_irrefl _)
 show wpAny _ _ (assign (.Name x pos') X.env (.ref DD)) _ _ _;refine wpAny_assign_Name ?_;refine ye I3 hN hx1 hx2 (show RelV (.ref DD) (.ref DD)from rfl) (λ s4 I4 ⟨a,hsa,ha⟩=>?_) hf;have nea:C≠a:=by
  rcases ha with z|z
  ·rw[z];exact neL
  ·exact Ne.symm (neC _ _ z)
 refine⟨m,hn.sameBut hsa nea,λ h'' hs''=>⟨_,H',?_,q⟩⟩;exact I4.turned (t':=s4.toks) (λ b o ne e=>(hs''.2 b ne).trans e) hHC neL (.inr (Nat.le_trans I2.sz hCle)) neC
  (λ p hp z=>absurd (Nat.lt_of_lt_of_le (I2.pinL hp) (by rw[z];exact hCle)) (Nat.lt_irrefl _))
end
def CX1(P:Program)(w:World):CXT:=λ outer H s E e s'=>∃(ea:Addr) (cls a0:Value) (B:Heap) (H':Hp),e= .ref ea/\s'.os=s.os/\AllBare s'.gens/\Un (frs outer) [] H H' s.heap s'.heap/\HOk P w H' B/\Heap.FlyingW B outer ea cls a0 s'.heap/\
 (∀b o,s.heap.get? b=some o->H b=none->b∉frs outer->B.get? b=some o)/\(∀b o,s.heap.get? b=some o->b∉frs outer->∃o',B.get? b=some o')/\E cls none H'
structure eQ(X:Cx)(E:XK):Prop where
 stk:X.stack=X.env::X.outer
 fr:X.env.frame=some X.env.locals
 ex:X.ex=[]
 xe:X.xe=λ e s'=>wpAny (model X.prog X.w) X.A (leaving X.env e) (λ _ s''=>CX1 X.prog X.w X.outer X.H₀ X.s₀ E e s'') (λ e' s''=>CX1 X.prog X.w X.outer X.H₀ X.s₀ E e' s'') s'
theorem eQ.of{K:PySem.W.Frag}:
  eQ (ux (CX1 P w) P w K mg base N qual scope f cd A outer s₀ H₀ E) E:=⟨rfl,rfl,rfl,rfl⟩
section
variable{X:Cx}{E:XK}
theorem aG3{B h':Heap}(hX:X.ex=[])(I:Inv X pins σ H s)
  (a1:∀b o,s.heap.get? b=some o->H b=none->b∉frs X.stack->B.get? b=some o)(a2:∀b o,s.heap.get? b=some o->b∉frs X.stack->∃o',B.get? b=some o')
  (a3:B.StaysIn h')(a4:∀b o,b∈frs X.outer->s.heap.get? b=some o->H b=none->(∀vs,o.data≠.fields vs)->∃sl,h'.get? b=some {o with slots:=sl})
  (a5:∀b o,s.heap.get? b=some o->H b=none->H' b=none)(a6:∀b xs,H b=some (.tup xs)->H' b=some (.tup xs))(a7:∀b o u,H b=some (.frz o u)->H' b=some (.frz o u))(a8:∀b ps,H b=some (.tbl ps)->∃more,H' b=some (.tbl (ps++more))):
  Un (frs X.outer) [] X.H₀ H' X.s₀.heap h'/\(∀b o,X.s₀.heap.get? b=some o->X.H₀ b=none->b∉frs X.outer->B.get? b=some o)/\(∀b o,X.s₀.heap.get? b=some o->b∉frs X.outer->∃o',B.get? b=some o'):=by
 have nx:∀b,b∉X.ex:=λ b z=>by rw[hX]at z;cases z
 have noS:∀b o,X.s₀.heap.get? b=some o->b∉frs X.outer->b∉frs X.stack:=λ b o e nf hb=>by
  rcases List.mem_cons.mp (I.stkSub b hb)with z|z
  ·exact absurd z (Nat.ne_of_lt (Nat.lt_of_lt_of_le (Heap.lt_size e) I.ok.above))
  ·exact nf z
 have bk:∀b o,X.s₀.heap.get? b=some o->X.H₀ b=none->b∉frs X.outer->B.get? b=some o:=λ b o e n nf=>
  a1 b o (I.base.keep b o e n nf (nx b)) (I.base.free b o e n (nx b)) (noS b o e nf)
 have ba:∀b o,X.s₀.heap.get? b=some o->b∉frs X.outer->∃o',B.get? b=some o':=λ b o e nf=>by
  obtain⟨o1,e1⟩:=I.base.there b o e (nx b);exact a2 b o1 e1 (noS b o e nf)
 have sl:∀b o,X.s₀.heap.get? b=some o->X.H₀ b=none->b∈frs X.outer->∃sl,h'.get? b=some {o with slots:=sl}:=λ b o e n hb=>by
  obtain⟨sl1,e1⟩:=I.base.slot b o e n hb (nx b);obtain⟨_,o2,ho2,hnf⟩:=I.ok.funs.mem hb;rw[e]at ho2;cases ho2;obtain⟨sl2,e2⟩:=a4 b _ hb e1 (I.base.free b o e n (nx b)) hnf;exact⟨sl2,e2⟩
 refine⟨⟨λ b o e n nf _=>a3 b o (bk b o e n nf),λ b o e n hb _=>sl b o e n hb,λ b o e n _=>?_,λ b o e _=>?_,λ b xs e=>a6 b xs (I.base.tups b xs e),λ b o u e=>a7 b o u (I.base.frzs b o u e),λ b ps e=>?_⟩,bk,ba⟩
 ·obtain⟨o1,e1⟩:=I.base.there b o e (nx b)
  exact a5 b o1 e1 (I.base.free b o e n (nx b))
 ·by_cases hb:b∈frs X.outer
  ·obtain⟨s2,e2⟩:=sl b o e (I.ok.frf b hb) hb
   exact⟨_,e2⟩
  ·obtain⟨o',e'⟩:=ba b o e hb
   exact⟨o',a3 b o' e'⟩
 ·obtain⟨m1,e1⟩:=I.base.tbls b ps e
  obtain⟨m2,e2⟩:=a8 b _ e1;exact⟨m1++m2,by rw[e2,Array.append_assoc]⟩
theorem eQ.pass(D:eQ X E):qu (CX1 X.prog X.w) X E:=by
 intro pins σ H s e s' I h;obtain⟨ea,cls,a0,B,H',rfl,os,bare,un,hok,fly,bk,ba,hE⟩:=h;rw[D.xe];have fly':=fly;rw[D.stk]at fly';have hfr:=I.ok.frames;rw[D.stk]at hfr;refine wpAny_leaves_onW (L:=X.env.locals) hfr D.fr fly' λ h' fl up=>?_
 have a4:∀b o,b∈frs X.outer->s.heap.get? b=some o->H b=none->(∀vs,o.data≠.fields vs)->∃sl,h'.get? b=some {o with slots:=sl}:=λ b o hb e n nf=>by
  have hb':b∈frs X.stack:=by
   rw[D.stk];unfold frs;rw[List.filterMap_cons,D.fr];exact List.mem_cons_of_mem _ hb
  obtain⟨s1,e1⟩:=un.slot b o e n hb' (λ z=>nomatch z);obtain⟨s2,e2⟩:=up b _ e1 nf;exact⟨s2,e2⟩
 obtain⟨u1,u2,u3⟩:=aG3 (B:=B) (h':=h') (H':=H') D.ex I bk ba fl.1 a4 (λ b o e n=>un.free b o e n (λ z=>nomatch z)) un.tups un.frzs un.tbls;exact⟨ea,cls,a0,B,H',rfl,os.trans I.os,bare,u1,hok,fl,u2,u3,hE⟩
theorem eQ.raise(D:eQ X E){ea:Addr}(I:Inv X pins σ H s)
  (hx:Heap.MadeExcOf s.heap h1 ea cls vs)(hE:E cls none H):X.xe (.ref ea) {s with heap:=h1}:=by
 rw[D.xe];have stk:s.heap.FunFrames X.base X.stack:=I.stack;have hin:∀env∈X.stack,∀a,env.frame=some a->a∈frs X.stack:=λ env he a ha=>List.mem_filterMap.mpr ⟨env,he,ha⟩
 have stk2:=PySem.W.funFrames_hide stk hin;have hfr:=I.ok.frames;rw[D.stk]at hfr;have stk3:s.heap.FunFrames (PySem.W.hideAll s.heap (frs X.stack)) (X.env::X.outer):=by rw[<-D.stk];exact stk2
 refine wpAny_leaves_madeW (L:=X.env.locals) (base:=PySem.W.hideAll s.heap (frs X.stack)) hfr D.fr (λ b o q=>PySem.W.of_hideAll _ q) stk3 hx λ h' t fl tup bn up=>?_
 have hok:HOk X.prog X.w H (PySem.W.hideAll s.heap (frs X.stack)):=λ a o e=>by
  refine(I.hok a o e).stay (λ b u hb q=>PySem.W.hideAll_get _ q λ hm=>?_) (λ _ z=>z) λ _ _ z=>z
  have hn:=I.stkFree b hm;rcases hb with z|z
  ·rw[z,e]at hn;cases hn
  ·rw[z]at hn;cases hn
 obtain⟨u1,u2,u3⟩:=aG3 (B:=PySem.W.hideAll s.heap (frs X.stack)) (h':=h') (H':=H) D.ex I (λ b o e n nf=>PySem.W.hideAll_get _ e nf) (λ b o e nf=>⟨o,PySem.W.hideAll_get _ e nf⟩) fl.1
  (λ b o hb e n nf=>up b o (hx.keeps b o e) nf) (λ b o e n=>n) (λ _ _ e=>e) (λ _ _ _ e=>e) (λ b ps e=>⟨#[],by rw[e];simp⟩)
 exact⟨ea,cls,.ref t,_,H,rfl,I.os,I.bare,u1,hok,fl,u2,u3,hE⟩
theorem eQ.own(D:eQ X E):PassesOwn (model X.prog X.w) X.A X.env X.xe:=λ e s' h=>by
 rw[D.xe]at h ⊢;exact wpAny_leaving_again (SameStack.refl _) h
end
section
variable{P:Program}{w:World}{K:PySem.W.Frag}{mg:Str->Option Value}{base:Heap}
theorem Fun.okX{st:Stmt}(F:Fun K x q st f fd)(S:aa N ps (aH st))(len:∀vs H Q E,sp vs H Q E->vs.length=ps.length)
  (hbody:∀(cdv:Value) (A:Around) (outer:List Env) (s:Shared) (H:Hp) (vs:List V) (Q:VK) (E:XK),fY k (A.deeper (envOfC q (aH st) s.heap.objs.size f cdv))->sp vs H Q E->
   ∃t,PSs (ux (CX1 P w) P w K mg base N q (aH st) f cdv A outer s H E) (eE st) t/\t {nx:=λ _ H'=>Q .non H',rt:=Q} (start N vs) H):cg P w K mg base (CX1 P w) (k+1) f fd ps sp:=by
 obtain⟨oc,od,kV,doc,pm,an,cdv,ct,osl,rfl,lk,hcd⟩:=F.ex;exact aLd lk hcd S len λ A outer s H vs Q E hr hsp=>hbody cdv A outer s H vs Q E hr hsp
end
def jU(K:PySem.W.Frag)(C:Addr):Prop:=PySem.W.excIn K C [.type "ValueError",.type "Exception",.type "BaseException",.type "object"] "ValueError.__new__"=true
theorem tO{K:PySem.W.Frag}(X:K.In h)(hm:mg x=some (.ref C))(q:jU K C):OwnCls x C [.type "ValueError",.type "Exception",.type "BaseException",.type "object"] "ValueError.__new__" mg h:=by
 refine⟨hm,?_⟩;unfold jU PySem.W.excIn at q;split at q
 ·rename_i dd cd sl ho
  split at q
  ·rename_i C' bm k0 k1 k2 k3 n k5 hm' hs
   simp only[Bool.and_eq_true,beq_iff_eq,Bool.not_eq_true']at q;obtain⟨⟨⟨⟨⟨rfl,rfl⟩,hdel⟩,ht⟩,hok⟩,hni⟩:=q;obtain⟨nm,bs,mro,ns,qn,hd,sn,sub,ab,col,del⟩:=cd;dsimp only at hm' hdel hok hni;subst hm' hdel;have hsl:sl=#[k0,k1,k2,k3,some (.builtin "ValueError.__new__"),k5]:=by
    obtain⟨l⟩:=sl;simp only at hs;rw[hs]
   subst hsl;exact⟨bm,ns,nm,qn,bs,hd,sn,sub,ab,col,dd,k0,k1,k2,k3,k5,_,X _ _ ho,.of_isNs (PySem.W.isNs_of_in X hok),PySem.W.nsMap_none_of_in X hok hni,PySem.W.tail_of_in X ht⟩
  ·cases q
 ·cases q
def aJO(C:Addr)(E:XK)(ta:TA):TS:=λ _ σ H=>ta σ H λ vs H1=>vs.length<=sizeLine/\E (.ref C) none H1
section
variable{X:Cx}{E:XK}
theorem aF7(D:eQ X E)(hc:X.calm=true){rest:List Expr}(hm:X.mg x=some (.ref C))(hC:jU X.K C)(hg:Gl X x)
  (ha:PA X (e₀::rest) ta)(he:starEach (e₀::rest) X.env=(false,eval e₀ X.env)::starEach rest X.env:=by rfl)
  (hplain:(backTo cpos (starEach rest X.env)).any (·.1)=false:=by rfl)(hd:(x==("__debug__":Str))=false:=by decide):
  PS X (.Raise (some (.Call (.Name x np) (e₀::rest) [] cpos)) none pos) (aJO C E ta):=by
 intro pins s σ H DD I h;obtain⟨tl,NN,nm,q,bs,hdct,sn,sub,ab,col,dd,k0,k1,k2,k3,k5,mN,hCo,hN,hni,T⟩:=(tO (h:=X.base) I.mod.kin hm hC).obj;have FB:=PySem.F.excBase_ValueError;refine wpAny_Raise_call_subU (C:=C) (nm:=nm) (q:=q) (N:=NN) (bs:=bs) (bm:=tl) (hdct:=hdct) (sn:=sn) (sub:=sub) (ab:=ab) (col:=col) (dd:=dd) (k0:=k0) (k1:=k1) (k2:=k2) (k3:=k3) (k5:=k5)
  FB FB.hasB FB (mN:=mN) (T.hasType FB.hasBase) (I.ok.hd hc) (by rw[he];show(false||(backTo cpos (starEach rest X.env)).any (·.1))=false;rw[hplain];rfl) hni
  (pG I hg hm ⟨rfl,?_⟩ hd)
 have harg:=ha cpos pins s σ H _ I h;rw[he]at harg ⊢;refine Calls.evalArgs_plain (wpAny_mono harg (λ vs s₂ h₂=>?_) λ _ _ y=>y);obtain⟨xs,H2,I2,rv,hz,hE⟩:=h₂;refine⟨rfl,by show vs.length<=sizeLine;rw[<-rv.length];exact hz,I2.bk _ _ hCo,hN.keeps I2.bk,T.keeps I2.bk,λ h' ea hx=>D.raise I2 hx hE⟩
end
theorem yQ{pos:Pos}{a b:Int}{c cv:Value}(l:List Value)(h:TriplesOk l)(e:codeAmong pos (l++[rawInt a,rawInt b,c])=some cv):codeAmong pos l=some cv\/cv=c:=by
 fun_induction TriplesOk l with
 |case1=>
  simp only[List.nil_append,codeAmong,rawInt]at e;split at e
  ·exact .inr (Option.some.inj e).symm
  ·cases e
 |case2 a' t b' u x rest ih=>
  simp only[List.cons_append,codeAmong]at e ⊢;split at e
  ·rename_i hc;rw[if_pos hc];exact .inl e
  ·rename_i hc;rw[if_neg hc];exact ih h e
 |case3 l h1 h2=>exact h.elim
abbrev Cx.noT(X:Cx):Cx:={X with ta:=[]}
section
variable{X:Cx}{pins:List (Addr×Obj)}{σ:St}{H:Hp}{s:Shared}
theorem Inv.noT(I:Inv X pins σ H s):Inv X.noT pins σ H s:=
 ⟨⟨I.ok.mod,I.ok.kind,I.ok.glob,I.ok.blt,I.ok.above,I.ok.inj,I.ok.has,I.ok.cab,I.ok.hd,I.ok.frames,I.ok.stk,I.ok.exf,I.ok.bs,I.ok.bsz,I.ok.noex,I.ok.exfs,I.ok.funs,I.ok.frf⟩,
  I.os,I.bare,I.base,I.loc,I.cell,I.free,I.freeC,I.pin,I.hok,I.len,λ p hp=>absurd (show p∈([]:List (Addr×Obj))from hp) (by simp)⟩
theorem Inv.ofT{H':Hp}{s':Shared}(I:Inv X pins σ H s)(J:Inv X.noT pins σ H' s')(t:∀p∈X.ta,H' p.1=none/\p.1≠X.env.locals/\p.1∉X.fs/\(∀q∈X.pn++pins,q.1≠p.1)/\∃ps,s'.heap.get? p.1=some {cls:=.none,data:=.fields ps}/\TabOk X.tq H' ps):Inv X pins σ H' s':=
 ⟨I.ok,J.os,J.bare,J.base,J.loc,J.cell,J.free,J.freeC,J.pin,J.hok,J.len,t⟩
structure um(X:Cx)(P:Addr):Prop where
 ta:∃o,X.ta=[(P,o)]
 ex:P∈X.ex
 tq:X.tq=X.env.qual++"<lambda>"
 code:∃c,X.env.code= .ref c/\PySem.W.CodeHd X.base c P
 blt:X.base.BuiltinsAt X.mg P
 gne:mainGlobals≠P
def aBt(q:Str)(params:Arguments)(body:Expr)(scope:Scope)(cl:List (Str×Addr))(pm:Value)(H:Hp)(f c':Addr)(ctv:Value):Prop:=
 H f=some (.frz (PySem.W.kla_obj "<lambda>" q params body scope cl pm c' ctv) (.own f))/\∃oc,H c'=some (.frz oc (.own c'))/\aJF q oc
theorem aGE{P:Addr}{params:Arguments}{body:Expr}{scope:Scope}{pos:Pos}{Q:Value->Shared->Prop}{E:Value->Shared->Prop}(Lx:um X P)(I:Inv X pins σ H s)(hdef:defaultsOf params X.env=([],[]))
  (hfree:∀y∈scope.names,y.2= .free->X.env.kindOf y.1=some .cell\/X.env.kindOf y.1=some .free)
  (h:∀(f c':Addr) (ctv:Value) (H':Hp) (s':Shared),Inv X pins σ H' s'->aV H H'->aBt X.tq params body scope (bD scope X.env) ((X.mg "__name__").getD .none) H' f c' ctv->Q (.ref f) s'):
  wpAny (model X.prog X.w) X.A (eval (.Lambda params body scope pos) X.env) Q E s:=by
 obtain⟨o0,hta⟩:=Lx.ta;obtain⟨c,hcode,hC⟩:=Lx.code;obtain⟨hPn,hPL,hPf,hPp,ps,hP,ht⟩:=I.tab (P,o0) (by rw[hta];exact List.mem_cons_self);dsimp only at hPn hPL hPf hPp hP;have hcl:closureFor scope X.env=pure (bD scope X.env):=jM λ y hy hk=>I.ok.has _ (hfree y hy hk)
 have hgs:s.heap.Ns mainGlobals X.mg:=by
  obtain⟨o,es,ep,e,r⟩:=I.ok.mod.glob;exact⟨o,es,ep,I.bk _ _ e,r⟩
 have hC':PySem.W.CodeHd s.heap c P:=hC.keeps I.bk;have hb:s.heap.BuiltinsAt X.mg P:=by
  obtain⟨bm,ob,b1,b2,b3,b4,b5,b6⟩:=Lx.blt;exact⟨bm,ob,b1,b2,b3,b4,I.bk _ _ b5,b6⟩
 refine PySem.W.kla_eval hdef ?_;rw[<-Lx.tq];cases hf:codeAmong pos ps.toList with
 |some cv=>
  obtain⟨c',oc,rfl,hc',hco⟩:=ht.2 pos cv hf;refine PySem.W.kla_makeFunctionHit hcl I.ok.glob hgs hcode hC' hP ht.1 hf hb λ ctv h' tk k hsz=>?_
  have hfr:H h'.objs.size=none:=I.hok.fresh hsz;have sm:aV H (upd H h'.objs.size (.frz (PySem.W.kla_obj "<lambda>" X.tq params body scope (bD scope X.env) ((X.mg "__name__").getD .none) c' ctv) (.own h'.objs.size))):=λ b u e=>by rw[aZ (bU e hfr)];exact e
  have I':=I.laid (h':=h'.push (PySem.W.kla_obj "<lambda>" X.tq params body scope (bD scope X.env) ((X.mg "__name__").getD .none) c' ctv)) (t':=tk) (a:=h'.objs.size) (o:=.frz (PySem.W.kla_obj "<lambda>" X.tq params body scope (bD scope X.env) ((X.mg "__name__").getD .none) c' ctv) (.own h'.objs.size)) (λ b u e=>Heap.get?_push_of_some _ (k b u e)) hsz
   ⟨Heap.get?_push_size _ rfl,_,Heap.get?_push_size _ rfl⟩
  exact h _ c' ctv _ _ I' sm ⟨bA,oc,sm _ _ hc',hco⟩
 |none=>
  refine PySem.W.kla_makeFunction hcl I.ok.glob hgs hcode hC' hP ht.1 hf Lx.gne hb λ c' ctv h' tk hx hge hlt hrec htb=>?_
  obtain⟨c2,oc,vs,t,e2,hoc,hd,hv⟩:=hrec;cases e2;have hcn:H c'=none:=I.hok.fresh hge;have hfn:H h'.objs.size=none:=I.hok.fresh (Nat.le_trans hge (Nat.le_of_lt hlt));have neT:∀b u,H b=some u->b≠c':=λ b u e=>bU e hcn
  have neP:∀b u,H b=some u->b≠P:=λ b u e=>bU e hPn
  have sm:aV H (upd H c' (.frz oc (.own c'))):=λ b u e=>by rw[aZ (neT b u e)];exact e
  have hcne:∀x a,X.env.cells.lookup x=some a->a≠P:=λ x a e z=>by
   obtain⟨v,o,ho,hdd⟩:=I.cell x a e;rw[z,hP]at ho;cases ho;cases hdd
  have J:Inv X.noT pins σ (upd H c' (.frz oc (.own c'))) {s with heap:=h',toks:=tk}:=by
   refine I.noT.step (g':=s.gens) (d':=s.drawn) (ch:=[P]) (λ b hb'=>?_) (λ b o _ _ hc e _=>hx b o (λ z=>hc (by simp[z])) e) (λ b o _ _ hc e _=>⟨o.slots,hx b o (λ z=>hc (by simp[z])) e⟩)
    (λ b o _ e n=>by rw[aZ (Nat.ne_of_lt (Nat.lt_of_lt_of_le (Heap.lt_size e) hge))];exact n) (λ b o hc e=>⟨o,hx b o (λ z=>hc (by simp[z])) e⟩)
    (λ b xs e=>sm _ _ e) (λ b o u e=>sm _ _ e) (λ b ps e=>⟨#[],by rw[sm _ _ e];simp⟩) (λ m hm=>hm.extBut hx (λ z=>hPL z.symm)) (λ b u e=>?_) I.bare
   ·have e:b=P:=by simpa using hb'
    subst e;exact⟨.inl Lx.ex,hPL,λ x c e=>hcne x c e,λ p hp=>hPp p hp⟩
   ·by_cases hbc:b=c'
    ·subst hbc
     rw[bA]at e;cases e;exact⟨hoc,oc,hoc⟩
    ·rw[aZ hbc]at e
     refine(I.hok b u e).stay (λ d v hd' q=>hx d v ?_ q) (λ d q=>sm _ _ q) λ d xs q=>sm _ _ q
     rcases hd' with z|z
     ·rw[z];exact neP b u e
     ·exact neP d _ z
  have I':=I.ofT J λ p hp=>by
   rw[hta]at hp;have e:p=(P,o0):=by simpa using hp
   subst e;refine⟨by rw[aZ (Nat.ne_of_lt (Nat.lt_of_lt_of_le (Heap.lt_size hP) hge))];exact hPn,hPL,hPf,hPp,_,htb,?_⟩;refine⟨?_,λ pos2 cv e=>?_⟩
   ·rw[Array.toList_append]
    exact TriplesOk_snoc _ _ _ _ ht.1
   ·rw[Array.toList_append]at e
    rcases yQ _ ht.1 e with z|z
    ·obtain⟨c2,oc2,z1,z2,z3⟩:=ht.2 pos2 cv z
     exact⟨c2,oc2,z1,sm _ _ z2,z3⟩
    ·exact⟨c',oc,z,bA,vs,t,hd,hv⟩
  have hfr:upd H c' (.frz oc (.own c')) h'.objs.size=none:=by rw[aZ (Nat.ne_of_gt hlt)];exact hfn
  have sm2:aV (upd H c' (.frz oc (.own c'))) (upd (upd H c' (.frz oc (.own c'))) h'.objs.size (.frz (PySem.W.kla_obj "<lambda>" X.tq params body scope (bD scope X.env) ((X.mg "__name__").getD .none) c' ctv) (.own h'.objs.size))):=λ b u e=>by rw[aZ (bU e hfr)];exact e
  have I2:=I'.laid (h':=h'.push (PySem.W.kla_obj "<lambda>" X.tq params body scope (bD scope X.env) ((X.mg "__name__").getD .none) c' ctv)) (t':=tk) (a:=h'.objs.size) (o:=.frz (PySem.W.kla_obj "<lambda>" X.tq params body scope (bD scope X.env) ((X.mg "__name__").getD .none) c' ctv) (.own h'.objs.size)) (λ b u e=>Heap.get?_push_of_some _ e) (Nat.le_refl _)
   ⟨Heap.get?_push_size _ rfl,_,Heap.get?_push_size _ rfl⟩
  exact h _ c' ctv _ _ I2 (sm.trans sm2) ⟨bA,oc,sm2 _ _ bA,vs,t,hd,hv⟩
def aLs(q:Str)(params:Arguments)(body:Expr)(scope:Scope)(cl:List (Str×Addr))(pm:Value):TE:=λ σ H Q=>∀f c' ctv H',aV H H'->aBt q params body scope cl pm H' f c' ctv->Q (.ref f) H'
theorem aJj{P:Addr}{params:Arguments}{body:Expr}{scope:Scope}{pos:Pos}(Lx:um X P)(hdef:defaultsOf params X.env=([],[]))
  (hfree:∀y∈scope.names,y.2= .free->X.env.kindOf y.1=some .cell\/X.env.kindOf y.1=some .free):PE X (.Lambda params body scope pos) (aLs X.tq params body scope (bD scope X.env) ((X.mg "__name__").getD .none)):=
 λ pins s σ H Q I h=>aGE Lx I hdef hfree λ f c' ctv H' s' I' sm l=>⟨.ref f,H',I',rfl,h f c' ctv H' sm l⟩
end
def aCC(X:Cx)(k0:Nat)(i:Nat)(E:XK):TE:=λ σ H Q=>∃f cls dd sl fd k sp,σ[i]? =some (some (.ref f))/\H f=some (.frz ⟨cls,dd,.func fd,sl⟩ (.own f))/\cg X.prog X.w X.K X.mg X.base (CX1 X.prog X.w) k f fd [] sp/\k<=k0/\Binds X.K fd [] []/\sp [] H Q E
theorem aFc{X:Cx}{k0 i:Nat}{y:Str}{p pos:Pos}{E:XK}(hr:fY k0 X.A)(hx:qu (CX1 X.prog X.w) X E)(hN:X.N[i]? =some y)(hv:Vis X.env.scope y)(hd:(y==("__debug__":Str))=false:=by decide)(hcd:(y==("__classdict__":Str))=false:=by decide):
  PE X (.Call (.Name y p) [] [] pos) (aCC X k0 i E):=by
 intro pins s σ H Q I ⟨f,cls,dd,sl,fd,k,sp,hs,hf,F,hk,hb,h⟩;have fin:wpAny (model X.prog X.w) X.A (eval (.Name y p) X.env) (λ v s'=>v= .ref f/\s'=s) X.xe s:=by
  obtain⟨mm,hnn,hl⟩:=I.loc;obtain⟨u,ru,l⟩:=hl i y _ hN hs hv;cases ru;rcases l with ⟨hk2,hm⟩|⟨hk2,c,hc,hcell⟩
  ·exact wpAny_Name (wpAny_loadName_local I.ok.kind hk2 hnn hm ⟨rfl,rfl⟩) hd
  ·rcases hk2 with hk2|hk2
   ·exact wpAny_Name (wpAny_loadName_cell I.ok.kind hk2 hc hcell ⟨rfl,rfl⟩) hd
   ·exact wpAny_Name (wpAny_loadName_free I.ok.kind hk2 hc hcell ⟨rfl,rfl⟩ hcd) hd
 refine wpAny_Call_Name_kw (thn fin λ v s' ⟨ev,es'⟩=>?_);subst ev es';obtain⟨ho,_⟩:s'.heap.get? f=some _/\_:=I.hok f _ hf;have KX:PySem.W.Frag.In [(f,⟨cls,dd,.func fd,sl⟩)] s'.heap:=λ b o e=>by
  rw[List.lookup_cons]at e;by_cases hbf:b=f
  ·subst hbf
   simp only[beq_self_eq_true]at e;cases e;exact ho
  ·simp only[beq_eq_false_iff_ne.mpr hbf]at e
   cases e
 exact PySem.W.callWith_K0 (K:=[(f,⟨cls,dd,.func fd,sl⟩)]) KX (by simp[PySem.W.keepIn,List.lookup_cons]) (aCP (us:=[]) F (hr.mono hk) hb .nil hx I .nil h)
def cxL(P:Program)(w:World)(K:PySem.W.Frag)(mg:Str->Option Value)(base:Heap)(N:List Str)(q:Str)(scope:Scope)(cl:List (Str×Addr))(f:Addr)(cd:Value)(A:Around)(outer:List Env)(s:Shared)(H:Hp)(E:XK):Cx where
 prog:=P
 w:=w
 K:=K
 mg:=mg
 base:=base
 A:=A.deeper (PySem.W.envX q scope s.heap.objs.size f cd cl)
 N:=N
 s₀:=s
 H₀:=H
 env:=PySem.W.envX q scope s.heap.objs.size f cd cl
 outer:=outer
 stack:=PySem.W.envX q scope s.heap.objs.size f cd cl::outer
 ex:=[]
 calm:=true
 fn:=λ _=>false
 pn:=[]
 xe:=λ e s'=>wpAny (model P w) (A.deeper (PySem.W.envX q scope s.heap.objs.size f cd cl)) (leaving (PySem.W.envX q scope s.heap.objs.size f cd cl) e) (λ _ s''=>CX1 P w outer H s E e s'') (λ e' s''=>CX1 P w outer H s E e' s'') s'
theorem eQ.ofL{P:Program}{w:World}{K:PySem.W.Frag}{mg:Str->Option Value}{base:Heap}{N:List Str}{q:Str}{scope:Scope}{cl:List (Str×Addr)}{f:Addr}{cd:Value}{A:Around}{outer:List Env}{s:Shared}{H:Hp}{E:XK}:
  eQ (cxL P w K mg base N q scope cl f cd A outer s H E) E:=⟨rfl,rfl,rfl,rfl⟩
structure xm(scope:Scope):Prop where
 kind:scope.kind= .function
 co:scope.isCoroutine=false
 gen:scope.isGenerator=false
 cell:∀y∈scope.names,y.2≠.cell
 loc:∀y∈scope.names,y.2≠.local
structure aGw(base:Heap)(N:List Str)(σ:St)(scope:Scope)(cl:List (Str×Addr)):Prop where
 inj:∀x y c,cl.lookup x=some c->cl.lookup y=some c->x=y
 has:∀x,scope.names.lookup x=some .free->∃c,cl.lookup x=some c
 cell:∀x c,cl.lookup x=some c->∃v,base.IsCell c v
 val:∀(i:Nat) x v,N[i]? =some x->σ[i]? =some (some v)->scope.names.lookup x=some .free->∃c u,cl.lookup x=some c/\RelV v u/\base.IsCell c (some u)
 len:σ.length=N.length
theorem aKS{P:Program}{w:World}{K:PySem.W.Frag}{mg:Str->Option Value}{base:Heap}{N:List Str}{q:Str}{params:Arguments}{scope:Scope}{cl:List (Str×Addr)}{f c':Addr}{pm ctv:Value}{body:Expr}{k:Nat}{σ:St}{H1:Hp}{sp:Sp}
  (la:aBt q params body scope cl pm H1 f c' ctv)(S:xm scope)(cp:aGw base N σ scope cl)
  (len:∀vs H Q E,sp vs H Q E->vs=[]/\aV H1 H)
  (hbody:∀(A:Around) (outer:List Env) (s:Shared) (H:Hp) (Q:VK) (E:XK),fY k (A.deeper (PySem.W.envX q scope s.heap.objs.size f (.ref c') cl))->sp [] H Q E->∃te,PE (cxL P w K mg base N q scope cl f (.ref c') A outer s H E) body te/\te σ H Q):
  cg P w K mg base (CX1 P w) (k+1) f (PySem.W.kla_fn "<lambda>" q params body scope cl pm (.ref c') ctv) [] sp:=by
 refine⟨λ vs H Q E h=>by rw[(len vs H Q E h).1];rfl,λ A outer s H args us vs Q E hr e0 hb r hsp=>?_⟩;obtain⟨rfl,hsm⟩:=len _ _ _ _ hsp;obtain⟨te,hpe,hte⟩:=hbody A outer s H Q E (hr.deeper _) hsp;have hlim:s.heap.NoLimit:=e0.mod.nolimit.keeps λ b o e=>(e0.bs b o e).1
 obtain⟨hf,oc,hc,hco⟩:=la;obtain⟨ho,_⟩:s.heap.get? f=some _/\_:=e0.hok f _ (hsm _ _ hf);obtain⟨hoc,_⟩:s.heap.get? c'=some oc/\_:=e0.hok c' _ (hsm _ _ hc);obtain⟨vs,t,hd,hv⟩:=hco;refine PySem.W.kla_callFunE hr.depth ho rfl S.co S.gen rfl ⟨c',oc,vs,t,rfl,hoc,hd,hv⟩ (hb _ _ _ _ ?_);refine wpAny_newFunctionEnv S.cell (by intro y hy;simp at hy) (λ h₁ hns hsb=>?_) S.kind;have hk₁:∀b o,s.heap.get? b=some o->h₁.get? b=some o:=λ b o e=>hsb.extBut b o (Nat.ne_of_lt (Heap.lt_size e)) (Heap.get?_push_of_some _ e)
 refine⟨hlim.keeps hk₁,?_⟩;show codeAny _ _ (.expr body (PySem.W.envX q scope s.heap.objs.size f (.ref c') cl)) _ _;have kb:∀b o,base.get? b=some o->h₁.get? b=some o:=λ b o e=>hk₁ b o (e0.bs b o e).1
 have I:Inv (cxL P w K mg base N q scope cl f (.ref c') A outer s H E) [] σ H {s with heap:=h₁,toks:=s.toks+(([]:List Str).zip us).length}:=by
  refine⟨⟨e0.mod,S.kind,rfl,rfl,Nat.le_refl _,cp.inj,λ x hx=>?_,λ x c z=>absurd z Bool.false_ne_true,λ _=>hr.hd,Around.frames_deeper e0.frames,.inr ⟨rfl,rfl⟩,λ b z=>(nomatch z),e0.bs,e0.bsz,λ b _ _=>λ z=>(nomatch z),λ b z=>(nomatch z),e0.funs,e0.frf⟩,
   rfl,e0.bare,Un.kept hk₁,⟨_,hns,λ i x v e1 e2 e3=>?_⟩,λ x c e=>?_,e0.hok.fresh (Nat.le_refl _),λ x c e=>?_,λ p hp=>(nomatch hp),e0.hok.kept hk₁,cp.len,λ p hp=>(nomatch hp)⟩
  ·rcases hx with z|z
   ·exact absurd rfl (S.cell _ (PySem.mem_of_lookup z))
   ·exact cp.has x z
  ·rcases e3 with z|z|z
   ·exact absurd rfl (S.loc _ (PySem.mem_of_lookup z))
   ·exact absurd rfl (S.cell _ (PySem.mem_of_lookup z))
   ·obtain⟨c,u,c1,c2,c3⟩:=cp.val i x v e1 e2 z
    exact⟨u,c2,.inr ⟨.inr z,c,c1,c3.keeps kb⟩⟩
  ·obtain⟨v,z⟩:=cp.cell x c e
   exact⟨v,z.keeps kb⟩
  ·obtain⟨v,o,z,_⟩:=cp.cell x c e
   exact(e0.bs c o z).2
 refine PySem.W.kla_codeExpr (wpAny_mono (hpe [] _ σ H _ I hte) (λ u s' hq=>?_) λ e s' hq=>hq);obtain⟨v,H',J,rv,q⟩:=hq;exact⟨v,H',J.os,J.bare,J.base,J.hok,rv,q⟩
def bse(X:Cx)(s:Shared)(H:Hp):Heap:=PySem.W.hideAll s.heap (trk s.heap H++frs X.stack)
section
variable{X:Cx}{pins:List (Addr×Obj)}{σ:St}{H:Hp}{s:Shared}
theorem aDl{b:Addr}{o:Obj}(e:s.heap.get? b=some o)(n:H b=none)(nf:b∉frs X.stack):(bse X s H).get? b=some o:=
 PySem.W.hideAll_get _ e λ hm=>by
  rcases List.mem_append.mp hm with z|z
  ·have q:(H b).isSome=true:=(List.mem_filter.mp z).2
   rw[n]at q;cases q
  ·exact nf z
theorem aKi{b:Addr}{o:Obj}(e:(bse X s H).get? b=some o):s.heap.get? b=some o/\H b=none:=by
 have e1:=PySem.W.of_hideAll _ e;refine⟨e1,?_⟩;cases q:H b with
 |none=>rfl
 |some u=>
  have hm:b∈trk s.heap H++frs X.stack:=List.mem_append_left _ (List.mem_filter.mpr ⟨List.mem_range.mpr (Heap.lt_size e1),by rw[q];rfl⟩);have z:(PySem.W.hideAll s.heap (trk s.heap H++frs X.stack)).get? b=none:=PySem.W.hideAll_none _ hm;have e2:(PySem.W.hideAll s.heap (trk s.heap H++frs X.stack)).get? b=some o:=e;rw[z]at e2;cases e2
theorem Inv.env1(I:Inv X pins σ H s):aBv X.prog X.w X.K X.mg (bse X s H) X.A X.stack s H:=by
 have kb:∀b o,X.base.get? b=some o->(bse X s H).get? b=some o:=λ b o e=>aDl (I.bs b o e).1 (I.bs b o e).2 λ hb=>by
  have z:=(I.stack.mem hb).1;rw[e]at z;cases z
 have ns:∀{b:Addr} {m:Str->Option Value},X.base.Ns b m->(bse X s H).Ns b m:=λ{b m} ⟨o,es,ep,e,r⟩=>⟨o,es,ep,kb _ _ e,r⟩
 refine⟨I.ok.frames,⟨I.mod.kin.keeps kb,ns I.mod.glob,?_,I.mod.nolimit.keeps kb⟩,λ b o e=>aKi e,Nat.le_of_eq (PySem.W.hideAll_size _ _),PySem.W.funFrames_hide I.stack λ env he a ha=>List.mem_append_right _ (List.mem_filterMap.mpr ⟨env,he,ha⟩),I.stkFree,I.hok,I.bare⟩;obtain⟨mb,h1,h2⟩:=I.mod.blt;exact⟨mb,ns h1,h2⟩
theorem aHQ{CX:CXT}{k:Nat}{f:Addr}{fd:FuncData}{ps:List Str}{sp:Sp}{E:XK}{Q:VK}{vs:List V}{us:List Value}(I:Inv X pins σ H s)(F:cg X.prog X.w X.K X.mg (bse X s H) CX k f fd ps sp)(hr:fY k X.A)(hb:Binds X.K fd ps [])(hx:qu CX X E)
  (r:Vals vs us)(h:sp vs H Q E):wpAny (model X.prog X.w) X.A (call (.ref f) us) (EP X pins σ Q) X.xe s:=by
 have hl:(us++[]).length=ps.length:=by rw[List.append_nil,<-r.length];exact F.len _ _ _ _ h
 have hb':=hb s us I.kIn hl;rw[List.append_nil]at hb';refine wpAny_call (codeAny_mono (F.run X.A X.stack s H ⟨us,[]⟩ us vs Q E hr I.env1 hb' r h) λ r s' hq=>?_);cases r with
 |error e=>exact hx pins σ H s e s' I hq
 |ok fl=>
  cases fl with
  |ret u=>exact I.after hq
  |next=>exact False.elim hq
  |brk=>exact False.elim hq
  |cont=>exact False.elim hq
theorem aKh{scope:Scope}(I:Inv X pins σ H s)(ho:X.outer=[])(S:xm scope)(hfree:∀y∈scope.names,y.2= .free->X.env.kindOf y.1=some .cell\/X.env.kindOf y.1=some .free):aGw (bse X s H) X.N σ scope (bD scope X.env):=by
 have cb:∀x c v,X.env.cells.lookup x=some c->s.heap.IsCell c v->(bse X s H).IsCell c v:=λ x c v e ⟨o,h1,h2⟩=>⟨o,aDl h1 (I.freeC x c e) λ hb=>by
  rcases List.mem_cons.mp (I.stkSub c hb)with z|z
  ·exact I.cne x c e z
  ·have z2:c∈frs X.outer:=z
   rw[ho]at z2;exact absurd z2 (by simp[frs]),h2⟩
 have hk:∀x,scope.names.lookup x=some .free->X.env.kindOf x=some .cell\/X.env.kindOf x=some .free:=λ x hx=>hfree (x,.free) (PySem.mem_of_lookup hx) rfl
 refine⟨λ x y c e1 e2=>I.ok.inj x y c (gn e1) (gn e2),λ x hx=>?_,λ x c e=>?_,λ i x v e1 e2 hx=>?_,I.len⟩
 ·obtain⟨c,hc⟩:=I.ok.has x (hk x hx)
  exact⟨c,sI hx hc⟩
 ·obtain⟨v,z⟩:=I.cell x c (gn e)
  exact⟨v,cb x c v (gn e) z⟩
 ·obtain⟨m,hn,hl⟩:=I.loc
  obtain⟨u,ru,hu⟩:=hl i x v e1 e2 ((hk x hx).elim (λ z=>.inr (.inl z)) λ z=>.inr (.inr z));rcases hu with ⟨k,_⟩|⟨_,c,ec,ic⟩
  ·rcases hk x hx with z|z
   ·exact absurd (k.symm.trans z) (by decide)
   ·exact absurd (k.symm.trans z) (by decide)
  ·exact⟨c,u,sI hx ec,ru,cb x c _ ec ic⟩
end
abbrev bmV:List Value:=[.type "ValueError",.type "Exception",.type "BaseException",.type "object"]
section
variable{prog:Program}{w:World}{A:Around}{E:Value->Shared->Prop}{h:Heap}{g:Array GenState}{d:Drawn}{t:Nat}{os:OsState}{a:Addr}{o:Obj}
 {nm q:Str}{C N:Addr}{bs bm:List Value}{hdct:Bool}{sn:List Str}{sub:List Value}{ab:Bool}{col:Option Bool}{dd:Option Addr}{k0 k1 k2 k3 k5:Option Value}{newId:String}{K:PySem.W.Frag}
theorem aBj{R:Result->Shared->Prop}(hC:h.get? C=some (excClassObj nm q C N bs bm hdct sn sub ab col dd k0 k1 k2 k3 k5 newId))(T:OwnTail h bmV bm)
  (hx:h.get? a=some o)(hc:o.cls= .ref C)(hq:R (.ok (.ret (.ref C))) ⟨h,g,d,t,os⟩):
  codeAny (model prog w) A (.call (.builtin "getset_descriptor.__get__") ⟨[.builtin "object.__class__",.ref a,.ref C],[]⟩) R ⟨h,g,d,t,os⟩:=by
 have hT5:(⟨h,g,d,t,os⟩:Shared).TypeIs (.builtin "object.__class__") "getset_descriptor":=F.typeOf_object_class;have hcB:(Value.ref C::bm).contains (.type (".".intercalate ("object.__class__".cutAt '.').dropLast))=true:=by
  rw[F.owner_object_class,List.contains_cons,T.hasType (X:="object") (b:=true) (by decide+kernel)];rfl
 refine codeAny_call_builtin F.slot_gs_get.plain F.entry_gs_get (F.slot_gs_get.check _ _ _ _ _ _ _ _ hT5 (F.args_gs_get _ _ _) ?_)
 repeat (any_goals (first|assumption|(with_reducible refine wpAny_loadPart_at hx ?_;rw[hc])|(with_reducible refine wpAny_isSubtype_exc hC ?_;rw[hcB])|wp_step))
 refine⟨Code.quiet_builtin _ (by decide+kernel),codeAny_builtin F.entry_object_class ?_⟩
 repeat (any_goals (first|assumption|(with_reducible refine wpAny_loadPart_at hx ?_;rw[hc])|wp_step))
theorem aAj{M:Model}{nameV:Value}{Q:Unit->Shared->Prop}(hC:h.get? C=some (excClassObj nm q C N bs bm hdct sn sub ab col dd k0 k1 k2 k3 k5 newId))(T:OwnTail h bmV bm)
  (hx:h.get? a=some o)(hc:o.cls= .ref C)(hq:Q () ⟨h,g,d,t,os⟩):wpAny M A (checkBuiltinCall "BaseException.__getattribute__" ⟨[.ref a,nameV],[]⟩) Q E ⟨h,g,d,t,os⟩:=by
 have hk:builtinKind "BaseException.__getattribute__"=some .slot:=by decide+kernel
 have hsplit:splitId "BaseException.__getattribute__"=some ("BaseException","__getattribute__"):=by decide+kernel
 have hcB:(Value.ref C::bm).contains (.type "BaseException")=true:=by rw[List.contains_cons,T.hasType (X:="BaseException") (b:=true) (by decide+kernel)];rfl
 have ha:=F.args_bexc_ga (.ref a) nameV;simp only[checkBuiltinCall,hk,hsplit];refine wpAny_bind ?_
 ·unfold isInstance
  repeat (first|(with_reducible refine wpAny_loadPart_at hx ?_;rw[hc])|(with_reducible refine wpAny_isSubtype_exc hC ?_;rw[hcB])|wp_step)
  exact hq
theorem yR{tk:Tok}{Q:Fin->Shared->Prop}(hC:h.get? C=some (excClassObj nm q C N bs bm hdct sn sub ab col dd k0 k1 k2 k3 k5 newId))(T:OwnTail h bmV bm)(lk:∀M:Model,PySem.W.Looks M h (typeLookup (.ref C) "__class__") (some (.builtin "object.__class__")))
  (hx:h.get? a=some o)(hc:o.cls= .ref C)(hq:Q (.done (.ret (.ref C))) ⟨h,g,d,t,os⟩):
  wpAny (model prog w) A (Builtin.«object.__getattribute__» ⟨[.ref a,.str "__class__" tk],[]⟩) Q E ⟨h,g,d,t,os⟩:=by
 have hT5:(⟨h,g,d,t,os⟩:Shared).TypeIs (.builtin "object.__class__") "getset_descriptor":=F.typeOf_object_class;have f5:=F.typeOf_object_class;have f6:=F.slot_gs_get.lookup;have f7:=F.slot_gs_set.lookup
 repeat (any_goals (first|assumption|(with_reducible refine wpAny_loadPart_at hx ?_;rw[hc])|with_reducible refine(lk _).here ?_|wp_step))
 refine aBj hC T hx hc ?_
 repeat (any_goals (first|assumption|wp_step))
theorem aAh{Q:Option Value->Shared->Prop}(hC:h.get? C=some (excClassObj nm q C N bs bm hdct sn sub ab col dd k0 k1 k2 k3 k5 newId))(T:OwnTail h bmV bm)(lk:∀M:Model,PySem.W.Looks M h (typeLookup (.ref C) "__class__") (some (.builtin "object.__class__")))
  (lg:∀M:Model,PySem.W.Looks M h (typeLookup (.ref C) "__getattribute__") (some (.builtin "BaseException.__getattribute__")))(ln:∀M:Model,PySem.W.Looks M h (typeLookup (.ref C) "__getattr__") none)
  (hx:h.get? a=some o)(hc:o.cls= .ref C)(hq:Q (some (.ref C)) ⟨h,g,d,t+1,os⟩):wpAny (model prog w) A (getAttr? (.ref a) "__class__") Q E ⟨h,g,d,t,os⟩:=by
 have by_exc:∀{E:Value->Shared->Prop} {t:Nat} {tk:Tok} {Q:Value->Shared->Prop},Q (.ref C) ⟨h,g,d,t,os⟩->wpAny (model prog w) A (getAttrBy (.ref a) (.str "__class__" tk) false) Q E ⟨h,g,d,t,os⟩:=by
  intro E t tk Q hq;have FB:=PySem.F.excAttr_ValueError;have f3:=FB.ga.bind (.ref a);have hx0:(false&&onTheHeap (Value.builtin "BaseException.__getattribute__"))=false:=rfl;have hx2:(Value.builtin "BaseException.__getattribute__"==Value.builtin "object.__getattribute__")=false:=by decide+kernel
  have hx1:(onTheHeap (Value.ref C)&&Value.builtin "BaseException.__getattribute__"==Value.builtin "object.__getattribute__")=false:=by rw[hx2];rfl
  repeat (any_goals (first|assumption|(with_reducible refine wpAny_loadPart_at hx ?_;rw[hc])|with_reducible refine(lg _).here ?_|with_reducible refine(ln _).here ?_|wp_step))
  refine codeAny_call_builtin FB.ga.plain F.entry_bexc_ga (aAj hC T hx hc (yR hC T lk hx hc ?_))
  repeat (any_goals (first|assumption|wp_step))
 unfold getAttr? getAttrBy?
 repeat (any_goals (first|assumption|with_reducible apply by_exc|wp_step))
theorem aGJ(hE:jU K C)(ha:PySem.W.findIn K (.ref C) "__class__"=some (some (.builtin "object.__class__")))(hgt:PySem.W.findIn K (.ref C) "__getattribute__"=some (some (.builtin "BaseException.__getattribute__")))
  (hga:PySem.W.findIn K (.ref C) "__getattr__"=some none):PySem.W.KitX K (.ref a) (.ref C) (λ h=>∃o,h.get? a=some o/\o.cls= .ref C) where
 ty:=λ M h _ ⟨o,h1,h2⟩=>h2▸(PySem.W.Looks.ld h1).andThen .now
 it:=λ M h X _=>by
  obtain⟨bm,NN,nm,q,bs,hdct,sn,sub,ab,col,dd,k0,k1,k2,k3,k5,mN,hC,_⟩:=(tO (h:=h) (mg:=λ _=>some (.ref C)) (x:="x") X rfl hE).obj;intro A' Q' E' s' k q;unfold isType loadHead;exact wpAny_bind (wpAny_loadPart (k _ _ hC) (wpAny_pure q))
 ne:=λ h tp dd its n sl X htp=>by
  obtain⟨bm,NN,nm,q,bs,hdct,sn,sub,ab,col,dd,k0,k1,k2,k3,k5,mN,hC,_⟩:=(tO (h:=h) (mg:=λ _=>some (.ref C)) (x:="x") X rfl hE).obj;refine Bool.eq_false_iff.mpr λ z=>?_
  have e:C=tp:=Value.ref.inj (beq_iff_eq.mp z);subst e;rw[hC]at htp;exact absurd (congrArg Obj.cls (Option.some.inj htp)) (by show Value.type "type"≠Value.type "tuple";decide+kernel)
 ca:=λ{prog w A E Q s} X ⟨o,h1,h2⟩ k=>by
  obtain⟨h,g,d,t,os⟩:=s;obtain⟨bm,NN,nm,q,bs,hdct,sn,sub,ab,col,dd,k0,k1,k2,k3,k5,mN,hC,hN,hni,T⟩:=(tO (h:=h) (mg:=λ _=>some (.ref C)) (x:="x") X rfl hE).obj;exact aAh hC T (λ M=>PySem.W.looks_findIn X ha) (λ M=>PySem.W.looks_findIn X hgt) (λ M=>PySem.W.looks_findIn X hga) h1 h2 k
end
def excφ(a C:Addr):Heap->Prop:=λ h=>∃o,h.get? a=some o/\o.cls= .ref C
theorem excφ_stay{a C:Addr}:∀h1 h2:Heap,excφ a C h1->(∀o,h1.get? a=some o->h2.get? a=some o)->excφ a C h2:=λ h1 h2 ⟨o,e,c⟩ k=>⟨o,k o e,c⟩
structure aIc(K:PySem.W.Frag)(C:Addr):Prop where
 ex:jU K C
 ca:PySem.W.findIn K (.ref C) "__class__"=some (some (.builtin "object.__class__"))
 gt:PySem.W.findIn K (.ref C) "__getattribute__"=some (some (.builtin "BaseException.__getattribute__"))
 ga:PySem.W.findIn K (.ref C) "__getattr__"=some none
section
variable{X:Cx}
def aIn(K:PySem.W.Frag):List V->Hp->VK->Prop:=λ xs H Q=>∃a C y c b,xs=[.ref a,y]/\RelV y c/\H a=some (.ext (excφ a C))/\aIc K C/\PySem.W.kitOne K (.ref C) c=some b/\Q (.bl b) H
theorem aEd:dG X (.builtin "isinstance") (aIn X.K):=by
 intro pins s σ H xs us Q I r h;obtain⟨a,C,y,c,b,rfl,ry,ha,kc,e,q⟩:=h;obtain⟨u,w',rfl,r1,r2⟩:=vals2 r;cases r1;have hc:w'=c:=by
  cases y<;>first
   |(cases r2;cases ry;rfl)
   |(obtain⟨t1,rfl⟩:=r2;obtain⟨t2,rfl⟩:=ry;exact absurd e (by simp[PySem.W.kitOne,PySem.W.kitCls]))
 subst hc;obtain⟨p,_⟩:excφ a C s.heap/\_:=I.hok a _ ha;exact PySem.W.kia_one (aGJ kc.ex kc.ca kc.gt kc.ga) I.kIn p e (λ z=>nomatch z) λ tk=>⟨.bl b,H,I.tok tk,rfl,q⟩
end
abbrev Cx.re(X:Cx)(A:Around)(c:Bool)(pl:List (Addr×Obj))(E:Value->Shared->Prop):Cx:={X with A:=A,calm:=c,pn:=X.pn++pl,xe:=E}
section
variable{X:Cx}{pins:List (Addr×Obj)}{σ:St}{H:Hp}{s:Shared}
theorem Inv.re{A:Around}{c:Bool}{E:Value->Shared->Prop}(I:Inv X pins σ H s)(hf:A.frames=X.A.frames)(hd:c=true->A.handled=none):Inv (X.re A c pins E) [] σ H s:=
 ⟨⟨I.ok.mod,I.ok.kind,I.ok.glob,I.ok.blt,I.ok.above,I.ok.inj,I.ok.has,I.ok.cab,hd,hf.trans I.ok.frames,I.ok.stk,I.ok.exf,I.ok.bs,I.ok.bsz,I.ok.noex,I.ok.exfs,I.ok.funs,I.ok.frf⟩,
  I.os,I.bare,I.base,I.loc,I.cell,I.free,I.freeC,λ p hp=>I.pin p (by rw[List.append_nil]at hp;exact hp),I.hok,I.len,λ p hp=>let⟨a,b,c,d,e⟩:=I.tab p hp;⟨a,b,c,λ q hq=>d q (by rw[List.append_nil]at hq;exact hq),e⟩⟩
theorem Inv.unre{A:Around}{c:Bool}{E:Value->Shared->Prop}{pins2:List (Addr×Obj)}{σ2:St}{H2:Hp}{s2:Shared}(ok:X.Ok)(J:Inv (X.re A c pins E) pins2 σ2 H2 s2):Inv X pins σ2 H2 s2:=
 ⟨ok,J.os,J.bare,J.base,J.loc,J.cell,J.free,J.freeC,λ p hp=>J.pin p (List.mem_append_left _ hp),J.hok,J.len,λ p hp=>let⟨a,b,c,d,e⟩:=J.tab p hp;⟨a,b,c,λ q hq=>d q (List.mem_append_left _ hq),e⟩⟩
theorem Inv.track{a:Addr}{o:HO}(I:Inv X pins σ H s)(ha:H a=none)(h0:X.s₀.heap.get? a=none)(hL:X.env.locals≠a)(hc:∀x c,X.env.cells.lookup x=some c->c≠a)(hp:∀p∈X.ta++(X.pn++pins),p.1≠a)
  (new:dZ X.prog X.w (upd H a o) s.heap a o):Inv X pins σ (upd H a o) s:=by
 have ne:∀b u,H b=some u->b≠a:=λ b u e=>bU e ha
 refine⟨I.ok,I.os,I.bare,⟨I.base.keep,I.base.slot,λ b ob e n nx=>?_,I.base.there,λ b xs e=>?_,λ b ob u e=>?_,λ b ps e=>?_⟩,I.loc,I.cell,?_,λ x c e=>?_,λ p hp'=>?_,λ b u e=>?_,I.len,λ p hp'=>?_⟩
 ·rw[aZ (λ z=>by rw[z,h0]at e;cases e)]
  exact I.base.free b ob e n nx
 ·have e1:=I.base.tups b xs e
  rw[aZ (ne b _ e1)];exact e1
 ·have e1:=I.base.frzs b ob u e
  rw[aZ (ne b _ e1)];exact e1
 ·obtain⟨m,e1⟩:=I.base.tbls b ps e
  exact⟨m,by rw[aZ (ne b _ e1)];exact e1⟩
 ·rw[aZ hL];exact I.free
 ·rw[aZ (hc x c e)];exact I.freeC x c e
 ·obtain⟨p1,p2,p3⟩:=I.pin p hp'
  exact⟨p1,by rw[aZ (hp p (List.mem_append_right _ hp'))];exact p2,p3⟩
 ·by_cases hb:b=a
  ·subst hb;rw[bA]at e;cases e;exact new
  ·rw[aZ hb]at e
   exact(I.hok b u e).stay (λ c v _ q=>q) (λ c q=>by rw[aZ (ne c _ q)];exact q) λ c xs q=>by rw[aZ (ne c _ q)];exact q
 ·obtain⟨n1,n2,n3,n0,ps,n4,n5⟩:=I.tab p hp'
  exact⟨by rw[aZ (hp p (List.mem_append_left _ hp'))];exact n1,n2,n3,n0,ps,n4,n5.mono λ b o u e=>by rw[aZ (ne b _ e)];exact e⟩
theorem Inv.gone{i:Nat}{n:Str}{h':Heap}{m:Str->Option Value}{v:Option Value}{tk:Nat}(I:Inv X pins σ H s)(hN:X.N.Nodup)(hi:X.N[i]? =some n)(hm:s.heap.Ns X.env.locals m)(hn:h'.Ns X.env.locals λ x=>if x=n then v else m x)(hs:Heap.SameBut X.env.locals s.heap h'):
  Inv X pins (σ.set i none) H {s with heap:=h',toks:=tk}:=by
 obtain⟨m0,hm0,hl⟩:=id I.loc;have cne:=I.cne;have em:m0=m:=by
  obtain⟨o1,es1,ep1,e1,d1,k1⟩:=hm0;obtain⟨o2,es2,ep2,e2,d2,k2⟩:=hm;rw[e1]at e2;cases e2;rw[d1]at d2;cases d2;funext x;exact(k1.2 x).symm.trans (k2.2 x)
 subst em;obtain⟨oL,_,_,hoL,_⟩:=id hm0;have keep:∀b o,b≠X.env.locals->s.heap.get? b=some o->h'.get? b=some o:=λ b o nb e=>(hs.2 b nb).trans e
 refine⟨I.ok,I.os,I.bare,⟨λ b o e n' hb hx=>?_,λ b o e n' hb hx=>?_,I.base.free,λ b o e hx=>?_,I.base.tups,I.base.frzs,I.base.tbls⟩,⟨_,hn,λ j y v' e1 e2 e3=>?_⟩,λ y c e=>?_,I.free,I.freeC,λ p hp=>?_,λ b u e=>?_,by simpa using I.len,λ p hp=>?_⟩
 ·exact keep b o (Nat.ne_of_lt (Nat.lt_of_lt_of_le (Heap.lt_size e) I.ok.above)) (I.base.keep b o e n' hb hx)
 ·obtain⟨sl,e1⟩:=I.base.slot b o e n' hb hx
  exact⟨sl,keep b _ (Nat.ne_of_lt (Nat.lt_of_lt_of_le (Heap.lt_size e) I.ok.above)) e1⟩
 ·obtain⟨o',e1⟩:=I.base.there b o e hx
  exact⟨o',keep b _ (Nat.ne_of_lt (Nat.lt_of_lt_of_le (Heap.lt_size e) I.ok.above)) e1⟩
 ·have hj:j≠i:=λ z=>by
   subst z;rw[List.getElem?_set]at e2;simp at e2
  rw[List.getElem?_set_ne (Ne.symm hj)]at e2;obtain⟨u,r,q⟩:=hl j y v' e1 e2 e3;refine⟨u,r,?_⟩;have yn:y≠n:=λ z=>hj (wG hN e1 (z▸hi))
  rcases q with ⟨k,e⟩|⟨k,c,e,z⟩
  ·exact .inl ⟨k,by simp[yn,e]⟩
  ·exact .inr ⟨k,c,e,z.sameBut hs (cne y c e)⟩
 ·obtain⟨v',z⟩:=I.cell y c e
  exact⟨v',z.sameBut hs (cne y c e)⟩
 ·obtain⟨p1,p2,p3,p4⟩:=I.pin p hp
  exact⟨keep _ _ p3 p1,p2,p3,p4⟩
 ·refine(I.hok b u e).stay (λ c v' hc q=>keep c v' ?_ q) (λ _ q=>q) λ _ _ q=>q
  rintro rfl;rcases hc with z|z
  ·rw[<-z,I.free]at e;cases e
  ·rw[I.free]at z;cases z
 ·obtain⟨n1,n2,n3,n0,ps,n4,n5⟩:=I.tab p hp
  exact⟨n1,n2,n3,n0,ps,keep _ _ n2 n4,n5⟩
end
section
variable{M:Model}{A:Around}{E:Value->Shared->Prop}{h:Heap}{g:Array GenState}{d:Drawn}{t:Nat}{os:OsState}
variable{nm q:Str}{C N:Addr}{bs bm:List Value}{hdct:Bool}{sn:List Str}{sub:List Value}{ab:Bool}{col:Option Bool}{dd:Option Addr}{k0 k1 k2 k3 k5:Option Value}{newId:String}
variable{nm' q':Str}{C' N':Addr}{bs' bm':List Value}{hdct':Bool}{sn':List Str}{sub':List Value}{ab':Bool}{col':Option Bool}{dd':Option Addr}{k0' k1' k2' k3' k5':Option Value}{newId':String}
theorem xM{e:Addr}{oe:Obj}{Q:Bool->Shared->Prop}(hC:h.get? C=some (excClassObj nm q C N bs bm hdct sn sub ab col dd k0 k1 k2 k3 k5 newId))(hC':h.get? C'=some (excClassObj nm' q' C' N' bs' bm' hdct' sn' sub' ab' col' dd' k0' k1' k2' k3' k5' newId'))
  (he:h.get? e=some oe)(hcls:oe.cls= .ref C)(hb':bm'.contains (.type "BaseException")=true)(hs:(Value.ref C::bm).contains (.ref C')=true)
  (hq:Q true ⟨h,g,d,t,os⟩):wpAny M A (excMatches (.ref e) (.ref C')) Q E ⟨h,g,d,t,os⟩:=by
 have hcB:(Value.ref C'::bm').contains (.type "BaseException")=true:=by rw[List.contains_cons,hb',Bool.or_true]
 have f:=tc_notTuple;unfold excMatches
 repeat (first|(with_reducible refine wpAny_loadPart_at he ?_;rw[hcls])|with_reducible refine wpAny_loadPart_at hC' ?_|(with_reducible refine wpAny_isSubtype_exc hC' ?_;rw[hcB])|(with_reducible refine wpAny_isSubtype_exc hC ?_;rw[hs])|wp_step)
 exact hq
end
theorem dZ.there{P:Program}{w:World}{H:Hp}{h:Heap}{a:Addr}{o:HO}(x:dZ P w H h a o):∃ob,h.get? a=some ob:=by
 cases o with
 |lst xs=>obtain⟨_,_,_,_,e⟩:=x;exact⟨_,e⟩
 |tup xs=>
  obtain⟨_,_,_,p⟩:=x;obtain⟨o,e,_⟩:=p;exact⟨_,e⟩
 |dK kvs=>obtain⟨_,_,_,_,o,_,_,e,_⟩:=x;exact⟨_,e⟩
 |dT kvs=>obtain⟨_,_,_,_,o,_,_,e,_⟩:=x;exact⟨_,e⟩
 |set S n=>obtain⟨o,_,_,_,e,_⟩:=x;exact⟨_,e⟩
 |ins C dx fs=>obtain⟨_,_,_,e,_⟩:=x;exact⟨_,e⟩
 |own y=>exact x
 |xd fs=>obtain⟨_,⟨_,_,_,e,_⟩,_⟩:=x;exact⟨_,e⟩
 |rng lo hi=>obtain⟨_,_,_,e⟩:=x;exact⟨_,e⟩
 |frz ob u=>obtain⟨e,_⟩:=x;exact⟨_,e⟩
 |tbl ps=>exact⟨_,show h.get? a=some _ from x⟩
 |met f y=>exact⟨_,show h.get? a=some _ from x⟩
 |ext φ=>obtain⟨_,e,_⟩:=x;exact e
def uC(K:PySem.W.Frag)(C C':Addr):Bool:=
 match K.lookup C with
 |some ⟨_,_,.cls cd,_⟩=>cd.mro.contains (.ref C')
 |_=>false
abbrev Cx.tr(X:Cx)(pins:List (Addr×Obj))(E':XK):Cx:=X.re X.A true pins λ e s'=>∃σ H s,Inv X pins σ H s/\CX1 X.prog X.w X.stack H s E' e s'
abbrev Cx.ha(X:Cx)(pins:List (Addr×Obj))(ea:Addr):Cx:=X.re (X.A.mark (some (.ref ea))) false pins λ _ _=>False
def aEv(X:Cx)(i:Nat)(C':Addr)(E':XK)(tb th:TS):TS:=λ D σ H=>tb D σ H/\∀cls H1,E' cls none H1->∃C,cls= .ref C/\jU X.K C/\uC X.K C C'=true/\∀(σ1:St) (ea:Addr),σ1.length=X.N.length->H1 ea=none->
 th {nx:=λ σ' H'=>D.nx (σ'.set i none) H',rt:=D.rt,bk:=λ σ' H'=>D.bk (σ'.set i none) H',ct:=λ σ' H'=>D.ct (σ'.set i none) H'} (σ1.set i (some (.ref ea))) (upd H1 ea (.ext (excφ ea C)))
section
variable{X:Cx}{E E':XK}
theorem Cx.tr_ok{pins:List (Addr×Obj)}(J:(X.tr pins E').Ok):X.Ok:=
 ⟨J.mod,J.kind,J.glob,J.blt,J.above,J.inj,J.has,J.cab,λ _=>J.hd rfl,J.frames,J.stk,J.exf,J.bs,J.bsz,J.noex,J.exfs,J.funs,J.frf⟩
theorem Cx.tr_pass{pins:List (Addr×Obj)}:qu (CX1 X.prog X.w) (X.tr pins E') E':=λ pins2 σ H s e s' I h=>⟨σ,H,s,Inv.unre (Cx.tr_ok I.ok) I,h⟩
theorem aF6(D:eQ X E)(hc:X.calm=true)(hN:X.N.Nodup){i:Nat}{n:Str}(hi:X.N[i]? =some n)(hl:X.env.scope.names.lookup n=some .local){x:Str}{C':Addr}(hm:X.mg x=some (.ref C'))(hg:Gl X x)(hC':jU X.K C')
  {body suite:List Stmt}{b₀:Stmt}{tb th:TS}{np hpos pos:Pos}(hb:∀pins,PSs (X.tr pins E') body tb)(hs:∀pins ea,PSs (X.ha pins ea) (b₀::suite) th)(hdb:(x==("__debug__":Str))=false:=by decide):
  PS X (.Try body [.ExceptHandler (some (.Name x np)) (some n) (b₀::suite) hpos] [] [] pos) (aEv X i C' E' tb th):=by
 intro pins s σ H DD I hh;obtain⟨h1,h2⟩:=hh;refine wpAny_Try_except (wpAny_mono (hb pins [] s σ H DD (I.re rfl λ _=>I.ok.hd hc) h1) (λ f s1 q=>?_) λ e s1 q=>?_)
 ·cases f with
  |next=>
   obtain⟨σ',H',J,q⟩:=q;exact wpAny_execs_nil ⟨σ',H',Inv.unre I.ok J,q⟩
  |brk=>obtain⟨σ',H',J,q⟩:=q;exact⟨σ',H',Inv.unre I.ok J,q⟩
  |cont=>obtain⟨σ',H',J,q⟩:=q;exact⟨σ',H',Inv.unre I.ok J,q⟩
  |ret u=>obtain⟨v,σ',H',J,r,q⟩:=q;exact⟨v,σ',H',Inv.unre I.ok J,r,q⟩
 ·obtain⟨σ1,H1,s0,J,ea,cls,a0,B,H2,rfl,os,bare,un,hok,fly,bk,ba,hE⟩:=q
  obtain⟨C,rfl,hC,hsub,hth⟩:=h2 cls H2 hE;have hfr:=I.ok.frames;rw[D.stk]at hfr;have fly':=fly;rw[D.stk]at fly';have mk:∀hh:Heap,Heap.FlyingW B X.stack ea (.ref C) a0 hh->s1.heap.UpToSlots hh->Inv X pins σ1 H2 {s1 with heap:=hh}:=λ hh fl up=>by
   refine J.call' (ch:=[]) os ⟨λ b o e n nf _=>fl.1 b o (bk b o e n nf),λ b o e n hb _=>?_,un.free,λ b o e _=>?_,un.tups,un.frzs,un.tbls⟩ (λ a o e=>(hok a o e).stay (λ b u _ q=>fl.1 b u q) (λ _ z=>z) λ _ _ z=>z) bare (λ b z=>nomatch z)
   ·obtain⟨s2,e2⟩:=un.slot b o e n hb (λ z=>nomatch z)
    obtain⟨_,o3,e3,nf⟩:=fly.2.2.1.mem hb;rw[e2]at e3;cases e3;obtain⟨s4,e4⟩:=up b _ e2 nf;exact⟨s4,e4⟩
   ·by_cases hb:b∈frs X.stack
    ·obtain⟨_,o3,e3,nf⟩:=fl.2.2.1.mem hb
     exact⟨o3,e3⟩
    ·obtain⟨o',e'⟩:=ba b o e hb
     exact⟨o',fl.1 b o' e'⟩
  refine wpAny_looks_onW hfr D.fr fly' λ h3 held up3=>?_
  refine wpAny_landsW held λ h4 fly4 up4=>?_
  rw[<-D.stk]at fly4;have J4:=mk h4 fly4 (up3.trans up4);have K4:Inv (X.ha pins ea) [] σ1 H2 {s1 with heap:=h4}:=J4.re rfl (λ z=>nomatch z);obtain⟨ob4,he4,hc4⟩:=fly4.there;obtain⟨tl,NN,nm,q,bs,hdct,sn,sub,ab,col,dd,k0,k1,k2,k3,k5,mN,hCo,hNn,hni,T⟩:=(tO (h:=h4) (mg:=λ _=>some (.ref C)) (x:="x") J4.kIn rfl hC).obj;obtain⟨tl',NN',nm',q',bs',hdct',sn',sub',ab',col',dd',k0',k1',k2',k3',k5',mN',hCo',hNn',hni',T'⟩:=(tO (h:=h4) (mg:=λ _=>some (.ref C')) (x:="x") J4.kIn rfl hC').obj;have hmro:(Value.ref C::tl).contains (.ref C')=true:=by
   unfold uC at hsub;split at hsub
   ·rename_i oc od cd sl ho
    have e:=J4.kIn _ _ ho;have e2:(some _:Option Obj)=some _:=e.symm.trans hCo;injection e2 with e2
    have e3:=congrArg Obj.data e2;injection e3 with e3
    subst e3;exact hsub
   ·cases hsub
  refine wpAny_handleBy_cons (codeAny_handlers_test (pG (X:=X.ha pins ea) K4 hg hm ?_ hdb)) (by intro q;cases q);refine xM hCo hCo' he4 hc4 (T'.hasType (X:="BaseException") (b:=true) (by decide+kernel)) hmro ?_;refine codeAny_handlers_suite_as ?_;refine lands_againW fly4 λ h5 fly5 up5=>?_
  have J5:=mk h5 fly5 ((up3.trans up4).trans up5);obtain⟨f1,f2,f3,oe,vs,T5,oT,ts,he5,⟨hcl5,h05⟩,hd5,_⟩:=id fly5;have nof:ea∉frs X.stack:=λ z=>by
   obtain⟨_,o3,e3,nf⟩:=f3.mem z;rw[he5]at e3;cases e3;exact nf vs hd5
  have inB:∀b o,s0.heap.get? b=some o->b∉frs X.stack->b≠ea:=λ b o e nf z=>by
   obtain⟨o',e'⟩:=ba b o e nf;rw[z,f2]at e';cases e'
  have hL:X.env.locals∈frs X.stack:=by
   rw[D.stk];unfold frs;rw[List.filterMap_cons,D.fr];exact List.mem_cons_self
  have h2n:H2 ea=none:=by
   cases e:H2 ea with
   |none=>rfl
   |some o=>
    obtain⟨ob,e'⟩:=(hok ea o e).there;rw[f2]at e';cases e'
  have J6:Inv X pins σ1 (upd H2 ea (.ext (excφ ea C))) {s1 with heap:=h5}:=by
   refine J5.track h2n ?_ (λ z=>nof (z▸hL)) (λ y c e z=>?_) (λ p hp z=>?_) ⟨⟨oe,he5,hcl5⟩,⟨oe,he5⟩,excφ_stay⟩
   ·cases e:X.s₀.heap.get? ea with
    |none=>rfl
    |some o=>
     obtain⟨o',e'⟩:=J.base.there ea o e (by rw[D.ex];exact λ z=>nomatch z);exact absurd rfl (inB ea o' e' nof)
   ·obtain⟨v,o,ho,hd⟩:=J5.cell y c e
    rw[z]at ho;have e2:some o=some oe:=ho.symm.trans he5;cases e2;rw[hd]at hd5;cases hd5
   ·have hh:∃o,s0.heap.get? p.1=some o/\p.1≠X.env.locals/\p.1∉X.fs:=by
     rcases List.mem_append.mp hp with z|z
     ·obtain⟨_,a,b,_,_,c,_⟩:=J.tab p z
      exact⟨_,c,a,b⟩
     ·obtain⟨p1,p2,p3,p4,_⟩:=J.pin p z
      exact⟨_,p1,p3,p4⟩
    obtain⟨o,p1,p3,p4⟩:=hh;refine inB p.1 o p1 (λ w=>?_) z;rcases List.mem_cons.mp (J.stkSub p.1 w)with z|z
    ·exact p3 z
    ·exact p4 z
  have K6:Inv (X.ha pins ea) [] σ1 (upd H2 ea (.ext (excφ ea C))) {s1 with heap:=h5}:=J6.re rfl (λ z=>nomatch z);refine v6 (X:=X.ha pins ea) (v:=.ref ea) K6 hN hi (.inl hl) rfl (λ s7 I7=>?_) (.inr hl);refine wpAny_mono (hs pins ea [] s7 _ _ _ I7 (hth σ1 ea J.len h2n)) (λ f s8 q8=>?_) λ _ _ z=>z.elim
  have goes:∀{σ':St} {H':Hp} {Q:Shared->Prop},Inv (X.ha pins ea) [] σ' H' s8->(∀s9,Inv X pins (σ'.set i none) H' s9->Q s9)->
    wpAny (model X.prog X.w) X.A (do bindName X.env n .none;unbindBehindTheSuite X.env n hpos) (λ _ s9=>Q s9) X.xe s8:=λ{σ' H' Q} K8 k=>by
   have J8:Inv X pins σ' H' s8:=Inv.unre I.ok K8;obtain⟨m,hmm,_⟩:=id J8.loc;refine wpAny_nameGoes_keeps hl hmm (by rw[I.ok.kind];rfl) λ h' v hn hsb=>k _ (Inv.gone J8 hN hi hmm hn hsb)
  cases f with
  |next=>obtain⟨σ',H',K8,q⟩:=q8;exact goes K8 λ s9 J9=>⟨_,_,J9,q⟩
  |brk=>obtain⟨σ',H',K8,q⟩:=q8;exact goes K8 λ s9 J9=>⟨_,_,J9,q⟩
  |cont=>obtain⟨σ',H',K8,q⟩:=q8;exact goes K8 λ s9 J9=>⟨_,_,J9,q⟩
  |ret u=>obtain⟨v,σ',H',K8,r,q⟩:=q8;exact goes K8 λ s9 J9=>⟨v,_,_,J9,r,q⟩
end
structure lB(k:Nat)(A:Around):Prop where
 dp:A.depth+3*k+5<recursionLimit
 un:A.units+16*k+200<cLine
theorem fY.h{k:Nat}{A:Around}(r:fY k A):lB k A:=⟨r.dp,r.un⟩
theorem lB.mark{k:Nat}{A:Around}{v:Option Value}(r:lB k A):lB k (A.mark v):=⟨r.dp,r.un⟩
theorem lB.mono{j k:Nat}{A:Around}(r:lB k A)(h:j<=k):lB j A:=⟨by have:=r.dp;omega,by have:=r.un;omega⟩
theorem lB.deeper{k:Nat}{A:Around}(r:lB (k+1) A)(env:Env):lB k (A.deeper env):=
 ⟨by have:=r.dp;show A.depth+1+3*k+5<_;omega,by have:=r.un;show A.units+3+16*k+200<_;omega⟩
theorem lB.depth{k:Nat}{A:Around}(r:lB k A):A.depth<recursionLimit:=by have:=r.dp;omega
abbrev aGi(A:Around):Around:={A with handled:=none}
structure FnH(P:Program)(w:World)(K:PySem.W.Frag)(mg:Str->Option Value)(base:Heap)(k:Nat)(f:Addr)(fd:FuncData)(ps:List Str)(sp:Sp):Prop where
 len:∀vs H Q E,sp vs H Q E->vs.length=ps.length
 run:∀(A:Around) (outer:List Env) (s:Shared) (H:Hp) (args:Args) (us:List Value) (vs:List V) (Q:VK) (E:XK),lB k A->aBv P w K mg base A outer s H->BindsTo s fd args (ps.zip us)->Vals vs us->sp vs H Q E->
  codeAny (model P w) A (.call (.ref f) args) (CR CX0 outer P w H s Q E) s
abbrev cxH(P:Program)(w:World)(K:PySem.W.Frag)(mg:Str->Option Value)(base:Heap)(N:List Str)(q:Str)(scope:Scope)(f:Addr)(cd:Value)(A:Around)(outer:List Env)(s:Shared)(H:Hp):Cx:=
 (ux CX0 P w K mg base N q scope f cd (aGi A) outer s H λ _ _ _=>False).re (A.deeper (envOfC q scope s.heap.objs.size f cd)) false [] λ _ _=>False
section
variable{P:Program}{w:World}{K:PySem.W.Frag}{mg:Str->Option Value}{base:Heap}
theorem Fun.okH{x q:Str}{st:Stmt}{f:Addr}{fd:FuncData}{N ps:List Str}{k:Nat}{sp:Sp}(F:Fun K x q st f fd)(S:aa N ps (aH st))(len:∀vs H Q E,sp vs H Q E->vs.length=ps.length)
  (hbody:∀(cdv:Value) (A:Around) (outer:List Env) (s:Shared) (H:Hp) (vs:List V) (Q:VK) (E:XK),lB k (A.deeper (envOfC q (aH st) s.heap.objs.size f cdv))->sp vs H Q E->
   ∃t,PSs (cxH P w K mg base N q (aH st) f cdv A outer s H) (eE st) t/\t {nx:=λ _ H'=>Q .non H',rt:=Q} (start N vs) H):FnH P w K mg base (k+1) f fd ps sp:=by
 obtain⟨oc,od,kV,doc,pm,an,cdv,ct,osl,rfl,lk,hcd⟩:=F.ex;refine⟨len,λ A outer s H args us vs Q E hr e0 hb r hsp=>?_⟩;have KX:K.In s.heap:=e0.mod.kin.keeps λ b o e=>(e0.bs b o e).1
 have par:∀y∈ps.zip us,(aH st).names.lookup y.1=some .local\/((aH st).names.lookup y.1=some .cell/\((cellsFrom (s.heap.objs.size+1) (aH st).names []).lookup y.1).isSome=true):=λ y hy=>
  (S.par y.1 (List.of_mem_zip (a:=y.1) (b:=y.2) hy).1).imp id λ z=>⟨z,PySem.W.cellsFrom_some _ _ _ (.inl z)⟩
 refine codeAny_call_function hr.depth (KX _ _ lk) rfl S.co S.gen rfl (PySem.W.codeRec_of KX hcd) (hb _ _ _ _ (wpAny_newFunctionEnv_cells S.kind par λ env he s1 x=>?_));cases he;refine⟨(e0.mod.nolimit.keeps λ b o e=>(e0.bs b o e).1).keeps x.toInCall.keep,codeAny_func ?_⟩;obtain⟨t,ht,hq⟩:=hbody cdv A outer s H vs Q E (hr.deeper _) hsp;have e1:aBv P w K mg base (aGi A) outer s H:=⟨e0.frames,e0.mod,e0.bs,e0.bsz,e0.funs,e0.frf,e0.hok,e0.bare⟩;have I0:Inv (ux CX0 P w K mg base N q (aH st) f cdv (aGi A) outer s H λ _ _ _=>False) [] (start N vs) H s1:=tW S rfl e1 (len _ _ _ _ hsp) r x;have I1:Inv (cxH P w K mg base N q (aH st) f cdv A outer s H) [] (start N vs) H s1:=I0.re rfl (λ z=>nomatch z);refine wpAny_mono (ht [] s1 (start N vs) H _ I1 hq) (λ fl s' hs=>?_) λ e s' hs=>hs.elim
 cases fl with
 |ret u=>obtain⟨v,σ',H',J,rv,q⟩:=hs;exact⟨v,H',J.os,J.bare,J.base,J.hok,rv,q⟩
 |next=>obtain⟨σ',H',J,q⟩:=hs;exact⟨.non,H',J.os,J.bare,J.base,J.hok,rfl,q⟩
 |brk=>obtain⟨_,_,_,q⟩:=hs;exact q.elim
 |cont=>obtain⟨_,_,_,q⟩:=hs;exact q.elim
end
section
variable{X:Cx}{k:Nat}{f:Addr}{fd:FuncData}{ps:List Str}{sp:Sp}{dvs:List V}{ds:List Value}{E:XK}{x:Str}{p pos:Pos}{e:Expr}{es:List Expr}{t:TA}
theorem aFg(F:FnH X.prog X.w X.K X.mg X.base k f fd ps sp)(hr:lB k X.A)(hg:Gl X x)(hm:X.mg x=some (.ref f))(hk:PySem.W.keepIn X.K (.ref f)=true)(hb:Binds X.K fd ps ds)(hd:Vals dvs ds)
  (ha:PA X (e::es) t)(hdb:(x==("__debug__":Str))=false:=by decide)(he:starEach (e::es) X.env=(false,eval e X.env)::starEach es X.env:=by rfl)(hpl:(backTo pos (starEach es X.env)).any (·.1)=false:=by rfl):
  PE X (.Call (.Name x p) (e::es) [] pos) (yd sp dvs E t):=by
 intro pins s σ H Q I h;refine wpAny_Call_Name_kw (pG I hg hm (PySem.W.callWith_K (h₀:=X.base) I.ok.mod.kin hk (thn (ha pos pins s σ H _ I h) λ us s1 hz=>?_) he hpl) hdb);obtain⟨vs,H1,I1,r,q⟩:=hz;refine⟨I1.kIn,wpAny_call (codeAny_mono (F.run X.A X.stack s1 H1 ⟨us,[]⟩ (us++ds) (vs++dvs) Q E hr I1.env0 (hb s1 us I1.kIn ?_) (r.append hd) q) λ r' s' hq=>?_)⟩
 ·rw[<-(r.append hd).length];exact F.len _ _ _ _ q
 ·cases r' with
  |error e=>exact False.elim hq
  |ok fl=>
   cases fl with
   |ret u=>exact I1.after hq
   |next=>exact False.elim hq
   |brk=>exact False.elim hq
   |cont=>exact False.elim hq
end
def spW(wd:Addr->Option Str):Sp:=λ vs H Q _=>∃ea C w,vs=[.ref ea]/\H ea=some (.ext (excφ ea C))/\wd C=some w/\∀H',aV H H'->Q (.str w) H'
def spR(P:Program)(w:World)(K:PySem.W.Frag)(mg:Str->Option Value)(base:Heap)(k0:Nat)(told:Str)(wd:Addr->Option Str):Sp:=λ vs H Q _=>∃f cls dd sl fd k sp,vs=[.ref f]/\H f=some (.frz ⟨cls,dd,.func fd,sl⟩ (.own f))/\cg P w K mg base (CX1 P w) k f fd [] sp/\k<=k0/\Binds K fd [] []/\
 sp [] H (λ _ H'=>Q (.str told) H') (λ c _ H1=>∃C wo,c= .ref C/\wd C=some wo/\∀H',aV H1 H'->Q (.str wo) H')
section
variable{X:Cx}{E:XK}{n0 n1 n2 few cn pe told:Str}{C' fc:Addr}{fdc:FuncData}{kc k0:Nat}{wd:Addr->Option Str}
theorem aFU(D:eQ X E)(hc:X.calm=true)(hN:X.N=[n0,n1,n2])(nd:X.N.Nodup)(l0:X.env.scope.names.lookup n0=some .local)(l1:X.env.scope.names.lookup n1=some .local)(l2:X.env.scope.names.lookup n2=some .local)(hf:∀x,X.fn x=true)
  (hm:X.mg few=some (.ref C'))(hg:Gl X few)(hC':jU X.K C')(FC:FnH X.prog X.w X.K X.mg X.base kc fc fdc [pe] (spW wd))(hgc:Gl X cn)(hmc:X.mg cn=some (.ref fc))(hkc:PySem.W.keepIn X.K (.ref fc)=true)(hbc:Binds X.K fdc [pe] [])
  (hr:fY k0 X.A)(hkk:kc<=k0)(hw:∀C w,wd C=some w->jU X.K C/\uC X.K C C'=true){p1 p2 p3 p4 p5 p6 p7 p8 p9 p10 p11 p12 p13 p14 p15 p16:Pos}{j1:Nat}{vs:List V}{H:Hp}{Q:VK}{E0:XK}(h:spR X.prog X.w X.K X.mg X.base k0 told wd vs H Q E0)
  (d1:(few==("__debug__":Str))=false:=by decide)(d2:(cn==("__debug__":Str))=false:=by decide)(d3:(n0==("__debug__":Str))=false:=by decide)(d4:(n1==("__debug__":Str))=false:=by decide)(d5:(n2==("__debug__":Str))=false:=by decide)
  (d6:(n0==("__classdict__":Str))=false:=by decide)(d7:(n1==("__classdict__":Str))=false:=by decide)(d8:(n2==("__classdict__":Str))=false:=by decide):
  ∃t,PSs X [.Assign [.Name n1 p1] (.Constant (.str told) j1 p2) p3,.Try [.Expr (.Call (.Name n0 p4) [] [] p5) p6] [.ExceptHandler (some (.Name few p7)) (some n2) [.Assign [.Name n1 p8] (.Call (.Name cn p9) [.Name n2 p10] [] p11) p12] p13] [] [] p14,.Return (some (.Name n1 p15)) p16] t/\
   t {nx:=λ _ H'=>Q .non H',rt:=Q} (start X.N vs) H:=by
 obtain⟨f,cls,dd,sl,fd,k,sp,rfl,hH,F,hk,hb,hsp⟩:=h;have i0:X.N[0]? =some n0:=by rw[hN];rfl
 have i1:X.N[1]? =some n1:=by rw[hN];rfl
 have i2:X.N[2]? =some n2:=by rw[hN];rfl
 refine⟨_,gK (nD nd i1 (.inl l1) gF (hf:=.inl (hf _))) (gK (aF6 (E':=λ c _ H1=>∃C wo,c= .ref C/\wd C=some wo/\∀H',aV H1 H'->Q (.str wo) H') D hc nd i2 l2 hm hg hC' (tb:=v4 (aCC X k0 0 λ c _ H1=>∃C wo,c= .ref C/\wd C=some wo/\∀H',aV H1 H'->Q (.str wo) H')) (th:=aCF (yd (spW wd) [] E (jo (n8 2) rB)) (qD 1))
  (λ pins=>nC (pB (aFc (X:=X.tr pins _) hr Cx.tr_pass i0 (.inl l0) d3 d6))) (λ pins ea=>nC (nD (X:=X.ha pins ea) nd i1 (.inl l1) (aFg (X:=X.ha pins ea) FC ((hr.h.mono hkk).mark) hgc hmc hkc hbc .nil (az (iK (X:=X.ha pins ea) i2 (.inl l2) d5 d8) dU) d2) (hf:=.inl (hf _)))) d1) (nC (wC (iK i1 (.inl l1) d4 d7)))),?_⟩
 have hs:start X.N [.ref f]=[some (.ref f),none,none]:=by rw[hN];rfl
 rw[hs];have e:(λ(_:V) H1=>Q (.str told) H1)=λ(_:V) H1=>aJN (n8 1) {nx:=λ _ H'=>Q .non H',rt:=Q} [some (.ref f),some (.str told),none] H1:=by
  funext v H1;exact propext ⟨λ q=>⟨_,rfl,q⟩,λ⟨v',e',q⟩=>by cases e';exact q⟩
 rw[e]at hsp;have key:aEv X 2 C' (λ c _ H1=>∃C wo,c= .ref C/\wd C=some wo/\∀H',aV H1 H'->Q (.str wo) H') (v4 (aCC X k0 0 λ c _ H1=>∃C wo,c= .ref C/\wd C=some wo/\∀H',aV H1 H'->Q (.str wo) H')) (aCF (yd (spW wd) [] E (jo (n8 2) rB)) (qD 1))
  {nx:=aJN (n8 1) {nx:=λ _ H'=>Q .non H',rt:=Q},rt:=Q} [some (.ref f),some (.str told),none] H:=?_
 ·exact key
 refine⟨⟨f,cls,dd,sl,fd,k,sp,rfl,hH,F,hk,hb,hsp⟩,λ c H1 ⟨C,wo,ec,hwd,hq⟩=>⟨C,ec,(hw C wo hwd).1,(hw C wo hwd).2,λ σ1 ea hl hn=>?_⟩⟩
 ·rw[hN]at hl
  obtain⟨a,b,c,rfl⟩:∃a b c,σ1=[a,b,c]:=by
   match σ1,hl with
   |[a,b,c],_=>exact⟨a,b,c,rfl⟩
  refine⟨.ref ea,rfl,ea,C,wo,rfl,bA,hwd,λ H' sm=>⟨.str wo,rfl,hq H' λ b o e=>sm b o ?_⟩⟩;rw[aZ (bU e hn)];exact e
end
mutual
def eqD:D->D->Bool
 | .non,.non=>true
 | .bl a,.bl b=>a==b
 | .bl a,.int b=>(if a then 1 else 0)==b
 | .int a,.bl b=>a==(if b then 1 else 0)
 | .int a,.int b=>a==b
 | .str a,.str b=>a==b
 | .tup l,.tup m=>iR l m
 | .lst l,.lst m=>iR l m
 |_,_=>false
def iR:List D->List D->Bool
 |[],[]=>true
 |x::xs,y::ys=>eqD x y&&iR xs ys
 |_,_=>false
end
mutual
def fP:D->Nat
 | .tup l=>cI l+1
 | .lst l=>cI l+1
 |_=>0
def cI:List D->Nat
 |[]=>0
 |d::r=>max (fP d) (cI r)
end
mutual
def aQ:D->Bool
 | .tup l=>ao l
 | .lst l=>ao l
 | .dct=>false
 |_=>true
def ao:List D->Bool
 |[]=>true
 |d::r=>aQ d&&ao r
end
mutual
theorem jP:∀d:D,aQ d=true->eqD d d=true
 | .non,_=>by simp[eqD]
 | .bl b,_=>by simp[eqD]
 | .int i,_=>by simp[eqD]
 | .str x,_=>by simp[eqD]
 | .tup l,h=>by simp only[eqD];exact iY l (by simpa[aQ]using h)
 | .lst l,h=>by simp only[eqD];exact iY l (by simpa[aQ]using h)
 | .dct,h=>by simp[aQ]at h
theorem iY:∀l:List D,ao l=true->iR l l=true
 |[],_=>by simp[iR]
 |d::r,h=>by
  simp only[ao,Bool.and_eq_true]at h;simp only[iR,Bool.and_eq_true];exact⟨jP d h.1,iY r h.2⟩
end
mutual
theorem Rep.inj{H:Hp}:∀{x:V} {d e:D},Rep H x d->Rep H x e->d=e
 |_,_,_,.non,h=>by cases h;rfl
 |_,_,_,.bl b,h=>by cases h;rfl
 |_,_,_,.int i,h=>by cases h;rfl
 |_,_,_,.str x,h=>by cases h;rfl
 |_,_,_,.tup ha r,h=>by
  cases h with
  |tup hb r'=>rw[ha]at hb;cases hb;rw[iC.inj r r']
  |lst hb _=>rw[ha]at hb;cases hb
  |dct hb=>rw[ha]at hb;cases hb
 |_,_,_,.lst ha r,h=>by
  cases h with
  |tup hb _=>rw[ha]at hb;cases hb
  |lst hb r'=>rw[ha]at hb;cases hb;rw[iC.inj r r']
  |dct hb=>rw[ha]at hb;cases hb
 |_,_,_,.dct ha,h=>by
  cases h with
  |tup hb _=>rw[ha]at hb;cases hb
  |lst hb _=>rw[ha]at hb;cases hb
  |dct hb=>rfl
theorem iC.inj{H:Hp}:∀{xs:List V} {ds es:List D},iC H xs ds->iC H xs es->ds=es
 |_,_,_,.nil,h=>by cases h;rfl
 |_,_,_,.cons h r,h'=>by
  cases h' with
  |cons k r'=>rw[Rep.inj h k,iC.inj r r']
end
theorem oW:∀(l m:List D),iR l m=((List.range (min l.length m.length)).all (λ j=>match l[j]?,m[j]? with|some a,some b=>eqD a b|_,_=>true)&&l.length==m.length)
 |[],[]=>by simp[iR]
 |[],y::ys=>by simp[iR]
 |x::xs,[]=>by simp[iR]
 |x::xs,y::ys=>by
  have ih:=oW xs ys;simp only[iR,ih,List.length_cons,Nat.succ_min_succ,List.range_succ_eq_map,List.all_cons,List.all_map,List.getElem?_cons_zero,Function.comp_def,List.getElem?_cons_succ,Nat.succ_eq_add_one,Nat.add_one_inj,Bool.and_assoc];congr 1;congr 1;simp
theorem mJ:∀{l:List D} {d:D},d∈l->fP d<=cI l
 |x::r,d,h=>by
  simp only[cI];rcases List.mem_cons.mp h with rfl|h
  ·exact Nat.le_max_left _ _
  ·exact Nat.le_trans (mJ h) (Nat.le_max_right _ _)
theorem gW:∀{l:List D} {d:D},d∈l->ao l=true->aQ d=true
 |x::r,d,h,n=>by
  simp only[ao,Bool.and_eq_true]at n;rcases List.mem_cons.mp h with rfl|h
  ·exact n.1
  ·exact gW h n.2
theorem cW{ds es:List D}{n m:Nat}(hn:n=ds.length)(hm:m=es.length):((List.range (min n m)).all (λ j=>match ds[j]?,es[j]? with|some a,some b=>eqD a b|_,_=>true)&&n==m)=iR ds es:=by
 subst hn hm;exact(oW ds es).symm
theorem iG{P:Program}{w:World}{H:Hp}{h:Heap}(hok:HOk P w H h){a:Addr}{xs:List V}(e:H a=some (.tup xs)):∃its:List Value,Vals xs its/\h.IsTuple a its.toArray:=by
 obtain⟨_,its,r,p⟩:=hok a _ e;exact⟨its,r,p⟩
theorem gG{P:Program}{w:World}{H:Hp}{h:Heap}(hok:HOk P w H h){a:Addr}{xs:List V}(e:H a=some (.lst xs)):∃its:List Value,Vals xs its/\h.IsList a its.toArray:=by
 obtain⟨_,its,n,r,p⟩:=hok a _ e;exact⟨its,r,_,p,rfl,n,rfl⟩
section
variable{P:Program}{w:World}{H:Hp}{s:Shared}
mutual
theorem aAe(hok:HOk P w H s.heap):∀{x y:V} {d e:D} (n:Nat) {A:Around} {u v:Value},Rep H x d->Rep H y e->RelV x u->RelV y v->fP d<=n->aQ d=true->aQ e=true->A.units+n<cLine->SeqAt.EqAt A s u v (eqD d e)
 |_,_,_,_,n,A,u,v,r1,r2,ru,rv,hd,nd,ne,hu=>by
  have hu0:A.units<cLine:=by omega
  cases r1 with
  |tup h1 q1=>
   rename_i a xs ds;cases ru;obtain⟨its,w1,t1⟩:=iG hok h1;cases r2 with
   |tup h2 q2=>
    rename_i b ys es;cases rv;obtain⟨its2,w2,t2⟩:=iG hok h2;by_cases hab:a=b
    ·subst hab
     have e:=Rep.inj (Rep.tup h1 q1) (Rep.tup h2 q2);rw[<-e,jP _ nd];exact SeqAt.EqAt.same _
    ·simp only[fP]at hd
     obtain⟨k,rfl⟩:∃k,n=k+1:=⟨n-1,by omega⟩
     have z:=SeqAt.RcAt.tuples t1 t2 hu0 (xO hok k q1 q2 w1 w2 (by omega) (by simpa[aQ]using nd) (by simpa[aQ]using ne) (by show A.units+1+k<cLine;omega));rw[cW (by rw[List.size_toArray,<-w1.length,q1.length]) (by rw[List.size_toArray,<-w2.length,q2.length])]at z;simp only[eqD];exact SeqAt.EqAt.of_refs hab z
   |lst h2 q2=>
    cases rv;obtain⟨its2,w2,t2⟩:=gG hok h2;simp only[eqD];exact SeqAt.EqAt.tuple_list t1 t2 hu0
   |dct h2=>simp[aQ]at ne
   |non=>cases rv;simp only[eqD];exact SeqAt.EqAt.tuple_none t1 hu0
   |bl b=>cases rv;simp only[eqD];exact SeqAt.EqAt.tuple_bool b t1 hu0
   |int i=>obtain⟨tk,rfl⟩:=rv;simp only[eqD];exact SeqAt.EqAt.tuple_int i tk t1 hu0
   |str i=>obtain⟨tk,rfl⟩:=rv;simp only[eqD];exact SeqAt.EqAt.tuple_str i tk t1 hu0
  |lst h1 q1=>
   rename_i a xs ds;cases ru;obtain⟨its,w1,t1⟩:=gG hok h1;cases r2 with
   |lst h2 q2=>
    rename_i b ys es;cases rv;obtain⟨its2,w2,t2⟩:=gG hok h2;by_cases hab:a=b
    ·subst hab
     have e:=Rep.inj (Rep.lst h1 q1) (Rep.lst h2 q2);rw[<-e,jP _ nd];exact SeqAt.EqAt.same _
    ·simp only[fP]at hd
     obtain⟨k,rfl⟩:∃k,n=k+1:=⟨n-1,by omega⟩
     have l1:its.toArray.size=ds.length:=by rw[List.size_toArray,<-w1.length,q1.length]
     have l2:its2.toArray.size=es.length:=by rw[List.size_toArray,<-w2.length,q2.length]
     by_cases hl:its.toArray.size=its2.toArray.size
     ·have z:=SeqAt.RcAt.lists t1 t2 hl hu0 (xO hok k q1 q2 w1 w2 (by omega) (by simpa[aQ]using nd) (by simpa[aQ]using ne) (by show A.units+1+k<cLine;omega))
      have z':=cW (ds:=ds) (es:=es) l1 l2;rw[<-hl,Nat.min_self,beq_self_eq_true,Bool.and_true]at z';rw[z']at z;simp only[eqD];exact SeqAt.EqAt.of_refs hab z
     ·have z:=SeqAt.RcAt.lists_lengths t1 t2 (by simpa using hl) hu0
      have z':=cW (ds:=ds) (es:=es) l1 l2;rw[beq_eq_false_iff_ne.mpr hl,Bool.and_false]at z';simp only[eqD];rw[<-z'];exact SeqAt.EqAt.of_refs hab z
   |tup h2 q2=>
    cases rv;obtain⟨its2,w2,t2⟩:=iG hok h2;simp only[eqD];exact SeqAt.EqAt.list_tuple t1 t2 hu0
   |dct h2=>simp[aQ]at ne
   |non=>cases rv;simp only[eqD];exact SeqAt.EqAt.list_none t1 hu0
   |bl b=>cases rv;simp only[eqD];exact SeqAt.EqAt.list_bool b t1 hu0
   |int i=>obtain⟨tk,rfl⟩:=rv;simp only[eqD];exact SeqAt.EqAt.list_int i tk t1 hu0
   |str i=>obtain⟨tk,rfl⟩:=rv;simp only[eqD];exact SeqAt.EqAt.list_str i tk t1 hu0
  |dct h1=>simp[aQ]at nd
  |non=>
   cases ru;cases r2 with
   |tup h2 q2=>cases rv;obtain⟨_,_,t2⟩:=iG hok h2;simp only[eqD];exact SeqAt.EqAt.none_tuple t2 hu0
   |lst h2 q2=>cases rv;obtain⟨_,_,t2⟩:=gG hok h2;simp only[eqD];exact SeqAt.EqAt.none_list t2 hu0
   |dct h2=>simp[aQ]at ne
   |non=>cases rv;simp only[eqD];exact SeqAt.EqAt.same _
   |bl b=>cases rv;simp only[eqD];exact SeqAt.EqAt.none_bool b
   |int i=>obtain⟨tk,rfl⟩:=rv;simp only[eqD];exact SeqAt.EqAt.none_int i tk
   |str i=>obtain⟨tk,rfl⟩:=rv;simp only[eqD];exact SeqAt.EqAt.none_str i tk
  |bl a=>
   cases ru;cases r2 with
   |tup h2 q2=>cases rv;obtain⟨_,_,t2⟩:=iG hok h2;simp only[eqD];exact SeqAt.EqAt.bool_tuple a t2 hu0
   |lst h2 q2=>cases rv;obtain⟨_,_,t2⟩:=gG hok h2;simp only[eqD];exact SeqAt.EqAt.bool_list a t2 hu0
   |dct h2=>simp[aQ]at ne
   |non=>cases rv;simp only[eqD];exact SeqAt.EqAt.bool_none a
   |bl b=>cases rv;simp only[eqD];exact SeqAt.EqAt.bool_bool a b
   |int i=>obtain⟨tk,rfl⟩:=rv;simp only[eqD];exact SeqAt.EqAt.bool_int a i tk
   |str i=>obtain⟨tk,rfl⟩:=rv;simp only[eqD];exact SeqAt.EqAt.bool_str a i tk
  |int a=>
   obtain⟨tu,rfl⟩:=ru;cases r2 with
   |tup h2 q2=>cases rv;obtain⟨_,_,t2⟩:=iG hok h2;simp only[eqD];exact SeqAt.EqAt.int_tuple a tu t2 hu0
   |lst h2 q2=>cases rv;obtain⟨_,_,t2⟩:=gG hok h2;simp only[eqD];exact SeqAt.EqAt.int_list a tu t2 hu0
   |dct h2=>simp[aQ]at ne
   |non=>cases rv;simp only[eqD];exact SeqAt.EqAt.int_none a tu
   |bl b=>cases rv;simp only[eqD];exact SeqAt.EqAt.int_bool a tu b
   |int i=>obtain⟨tk,rfl⟩:=rv;simp only[eqD];exact SeqAt.EqAt.int_int a tu i tk
   |str i=>obtain⟨tk,rfl⟩:=rv;simp only[eqD];exact SeqAt.EqAt.int_str a tu i tk
  |str a=>
   obtain⟨tu,rfl⟩:=ru;cases r2 with
   |tup h2 q2=>cases rv;obtain⟨_,_,t2⟩:=iG hok h2;simp only[eqD];exact SeqAt.EqAt.str_tuple a tu t2 hu0
   |lst h2 q2=>cases rv;obtain⟨_,_,t2⟩:=gG hok h2;simp only[eqD];exact SeqAt.EqAt.str_list a tu t2 hu0
   |dct h2=>simp[aQ]at ne
   |non=>cases rv;simp only[eqD];exact SeqAt.EqAt.str_none a tu
   |bl b=>cases rv;simp only[eqD];exact SeqAt.EqAt.str_bool a tu b
   |int i=>obtain⟨tk,rfl⟩:=rv;simp only[eqD];exact SeqAt.EqAt.str_int a tu i tk
   |str i=>obtain⟨tk,rfl⟩:=rv;simp only[eqD];exact SeqAt.EqAt.str_str a tu i tk
 termination_by _ _ _ _ n=>(n,0)
theorem xO(hok:HOk P w H s.heap):∀{xs ys:List V} {ds es:List D} (n:Nat) {A:Around} {us vs:List Value},iC H xs ds->iC H ys es->Vals xs us->Vals ys vs->cI ds<=n->ao ds=true->ao es=true->A.units+n<cLine->
  ∀(j:Nat) (h1:j<us.toArray.size) (h2:j<vs.toArray.size),SeqAt.EqAt A s us.toArray[j] vs.toArray[j] (match ds[j]?,es[j]? with|some a,some b=>eqD a b|_,_=>true)
 |xs,ys,ds,es,n,A,us,vs,q1,q2,w1,w2,hd,nd,ne,hu,j,h1,h2=>by
  have hj1:j<us.length:=by simpa using h1
  have hj2:j<vs.length:=by simpa using h2
  have hx:j<xs.length:=by rw[w1.length];exact hj1
  have hy:j<ys.length:=by rw[w2.length];exact hj2
  have ex:=List.getElem?_eq_getElem hx;have ey:=List.getElem?_eq_getElem hy;obtain⟨d,ed,rd⟩:=q1.get ex;obtain⟨e,ee,re⟩:=q2.get ey;obtain⟨u,eu,ru⟩:=w1.get ex;obtain⟨v,ev,rv⟩:=w2.get ey;have e1:us.toArray[j]=u:=by
   rw[List.getElem_toArray];exact Option.some.inj ((List.getElem?_eq_getElem hj1).symm.trans eu)
  have e2:vs.toArray[j]=v:=by
   rw[List.getElem_toArray];exact Option.some.inj ((List.getElem?_eq_getElem hj2).symm.trans ev)
  rw[e1,e2,ed,ee];exact aAe hok n rd re ru rv (Nat.le_trans (mJ (List.mem_of_getElem? ed)) hd) (gW (List.mem_of_getElem? ed) nd) (gW (List.mem_of_getElem? ee) ne) hu
 termination_by _ _ _ _ n=>(n,1)
end
theorem aCW(hok:HOk P w H s.heap){x y:V}{d e:D}(n:Nat){A:Around}{u v:Value}(r1:Rep H x d)(r2:Rep H y e)(ru:RelV x u)(rv:RelV y v)(hd:fP d<=n)(nd:aQ d=true)(ne:aQ e=true)(hu:A.units+n<cLine):
  SeqAt.RcAt A s u v (eqD d e)/\SeqAt.RcNeAt A s u v (!eqD d e):=by
 have hu0:A.units<cLine:=by omega
 cases r1 with
 |tup h1 q1=>
  rename_i a xs ds;cases ru;obtain⟨its,w1,t1⟩:=iG hok h1;cases r2 with
  |tup h2 q2=>
   rename_i b ys es;cases rv;obtain⟨its2,w2,t2⟩:=iG hok h2;simp only[fP]at hd;obtain⟨k,rfl⟩:∃k,n=k+1:=⟨n-1,by omega⟩
   have he:=xO hok (A:=A.in1) k q1 q2 w1 w2 (by omega) (by simpa[aQ]using nd) (by simpa[aQ]using ne) (by show A.units+1+k<cLine;omega);have z:=SeqAt.RcAt.tuples t1 t2 hu0 he;have z2:=SeqAt.RcNeAt.tuples t1 t2 hu0 he;rw[cW (by rw[List.size_toArray,<-w1.length,q1.length]) (by rw[List.size_toArray,<-w2.length,q2.length])]at z z2;simp only[eqD];exact⟨z,z2⟩
  |lst h2 q2=>
   cases rv;obtain⟨its2,w2,t2⟩:=gG hok h2;simp only[eqD];exact⟨SeqAt.RcAt.tuple_list t1 t2 hu0,SeqAt.RcNeAt.tuple_list t1 t2 hu0⟩
  |dct h2=>simp[aQ]at ne
  |non=>cases rv;simp only[eqD];exact⟨SeqAt.RcAt.tuple_none t1 hu0,SeqAt.RcNeAt.tuple_none t1 hu0⟩
  |bl b=>cases rv;simp only[eqD];exact⟨SeqAt.RcAt.tuple_bool b t1 hu0,SeqAt.RcNeAt.tuple_bool b t1 hu0⟩
  |int i=>obtain⟨tk,rfl⟩:=rv;simp only[eqD];exact⟨SeqAt.RcAt.tuple_int i tk t1 hu0,SeqAt.RcNeAt.tuple_int i tk t1 hu0⟩
  |str i=>obtain⟨tk,rfl⟩:=rv;simp only[eqD];exact⟨SeqAt.RcAt.tuple_str i tk t1 hu0,SeqAt.RcNeAt.tuple_str i tk t1 hu0⟩
 |lst h1 q1=>
  rename_i a xs ds;cases ru;obtain⟨its,w1,t1⟩:=gG hok h1;cases r2 with
  |lst h2 q2=>
   rename_i b ys es;cases rv;obtain⟨its2,w2,t2⟩:=gG hok h2;simp only[fP]at hd;obtain⟨k,rfl⟩:∃k,n=k+1:=⟨n-1,by omega⟩
   have l1:its.toArray.size=ds.length:=by rw[List.size_toArray,<-w1.length,q1.length]
   have l2:its2.toArray.size=es.length:=by rw[List.size_toArray,<-w2.length,q2.length]
   have z':=cW (ds:=ds) (es:=es) l1 l2;by_cases hl:its.toArray.size=its2.toArray.size
   ·have he:=xO hok (A:=A.in1) k q1 q2 w1 w2 (by omega) (by simpa[aQ]using nd) (by simpa[aQ]using ne) (by show A.units+1+k<cLine;omega)
    have z:=SeqAt.RcAt.lists t1 t2 hl hu0 he;have z2:=SeqAt.RcNeAt.lists t1 t2 hl hu0 he;rw[<-hl,Nat.min_self,beq_self_eq_true,Bool.and_true]at z';rw[z']at z z2;simp only[eqD];exact⟨z,z2⟩
   ·rw[beq_eq_false_iff_ne.mpr hl,Bool.and_false]at z'
    simp only[eqD];rw[<-z'];exact⟨SeqAt.RcAt.lists_lengths t1 t2 (by simpa using hl) hu0,SeqAt.RcNeAt.lists_lengths t1 t2 (by simpa using hl) hu0⟩
  |tup h2 q2=>
   cases rv;obtain⟨its2,w2,t2⟩:=iG hok h2;simp only[eqD];exact⟨SeqAt.RcAt.list_tuple t1 t2 hu0,SeqAt.RcNeAt.list_tuple t1 t2 hu0⟩
  |dct h2=>simp[aQ]at ne
  |non=>cases rv;simp only[eqD];exact⟨SeqAt.RcAt.list_none t1 hu0,SeqAt.RcNeAt.list_none t1 hu0⟩
  |bl b=>cases rv;simp only[eqD];exact⟨SeqAt.RcAt.list_bool b t1 hu0,SeqAt.RcNeAt.list_bool b t1 hu0⟩
  |int i=>obtain⟨tk,rfl⟩:=rv;simp only[eqD];exact⟨SeqAt.RcAt.list_int i tk t1 hu0,SeqAt.RcNeAt.list_int i tk t1 hu0⟩
  |str i=>obtain⟨tk,rfl⟩:=rv;simp only[eqD];exact⟨SeqAt.RcAt.list_str i tk t1 hu0,SeqAt.RcNeAt.list_str i tk t1 hu0⟩
 |dct h1=>simp[aQ]at nd
 |non=>
  cases ru;cases r2 with
  |tup h2 q2=>cases rv;obtain⟨_,_,t2⟩:=iG hok h2;simp only[eqD];exact⟨SeqAt.RcAt.none_tuple t2 hu0,SeqAt.RcNeAt.none_tuple t2 hu0⟩
  |lst h2 q2=>cases rv;obtain⟨_,_,t2⟩:=gG hok h2;simp only[eqD];exact⟨SeqAt.RcAt.none_list t2 hu0,SeqAt.RcNeAt.none_list t2 hu0⟩
  |dct h2=>simp[aQ]at ne
  |non=>cases rv;simp only[eqD];exact⟨SeqAt.RcAt.none_none,SeqAt.RcNeAt.none_none⟩
  |bl b=>cases rv;simp only[eqD];exact⟨SeqAt.RcAt.none_bool b,SeqAt.RcNeAt.none_bool b⟩
  |int i=>obtain⟨tk,rfl⟩:=rv;simp only[eqD];exact⟨SeqAt.RcAt.none_int i tk,SeqAt.RcNeAt.none_int i tk⟩
  |str i=>obtain⟨tk,rfl⟩:=rv;simp only[eqD];exact⟨SeqAt.RcAt.none_str i tk,SeqAt.RcNeAt.none_str i tk⟩
 |bl a=>
  cases ru;cases r2 with
  |tup h2 q2=>cases rv;obtain⟨_,_,t2⟩:=iG hok h2;simp only[eqD];exact⟨SeqAt.RcAt.bool_tuple a t2 hu0,SeqAt.RcNeAt.bool_tuple a t2 hu0⟩
  |lst h2 q2=>cases rv;obtain⟨_,_,t2⟩:=gG hok h2;simp only[eqD];exact⟨SeqAt.RcAt.bool_list a t2 hu0,SeqAt.RcNeAt.bool_list a t2 hu0⟩
  |dct h2=>simp[aQ]at ne
  |non=>cases rv;simp only[eqD];exact⟨SeqAt.RcAt.bool_none a,SeqAt.RcNeAt.bool_none a⟩
  |bl b=>cases rv;simp only[eqD];exact⟨SeqAt.RcAt.bool_bool a b,SeqAt.RcNeAt.bool_bool a b⟩
  |int i=>obtain⟨tk,rfl⟩:=rv;simp only[eqD];exact⟨SeqAt.RcAt.bool_int a i tk,SeqAt.RcNeAt.bool_int a i tk⟩
  |str i=>obtain⟨tk,rfl⟩:=rv;simp only[eqD];exact⟨SeqAt.RcAt.bool_str a i tk,SeqAt.RcNeAt.bool_str a i tk⟩
 |int a=>
  obtain⟨tu,rfl⟩:=ru;cases r2 with
  |tup h2 q2=>cases rv;obtain⟨_,_,t2⟩:=iG hok h2;simp only[eqD];exact⟨SeqAt.RcAt.int_tuple a tu t2 hu0,SeqAt.RcNeAt.int_tuple a tu t2 hu0⟩
  |lst h2 q2=>cases rv;obtain⟨_,_,t2⟩:=gG hok h2;simp only[eqD];exact⟨SeqAt.RcAt.int_list a tu t2 hu0,SeqAt.RcNeAt.int_list a tu t2 hu0⟩
  |dct h2=>simp[aQ]at ne
  |non=>cases rv;simp only[eqD];exact⟨SeqAt.RcAt.int_none a tu,SeqAt.RcNeAt.int_none a tu⟩
  |bl b=>cases rv;simp only[eqD];exact⟨SeqAt.RcAt.int_bool a tu b,SeqAt.RcNeAt.int_bool a tu b⟩
  |int i=>obtain⟨tk,rfl⟩:=rv;simp only[eqD];exact⟨SeqAt.RcAt.int_int a tu i tk,SeqAt.RcNeAt.int_int a tu i tk⟩
  |str i=>obtain⟨tk,rfl⟩:=rv;simp only[eqD];exact⟨SeqAt.RcAt.int_str a tu i tk,SeqAt.RcNeAt.int_str a tu i tk⟩
 |str a=>
  obtain⟨tu,rfl⟩:=ru;cases r2 with
  |tup h2 q2=>cases rv;obtain⟨_,_,t2⟩:=iG hok h2;simp only[eqD];exact⟨SeqAt.RcAt.str_tuple a tu t2 hu0,SeqAt.RcNeAt.str_tuple a tu t2 hu0⟩
  |lst h2 q2=>cases rv;obtain⟨_,_,t2⟩:=gG hok h2;simp only[eqD];exact⟨SeqAt.RcAt.str_list a tu t2 hu0,SeqAt.RcNeAt.str_list a tu t2 hu0⟩
  |dct h2=>simp[aQ]at ne
  |non=>cases rv;simp only[eqD];exact⟨SeqAt.RcAt.str_none a tu,SeqAt.RcNeAt.str_none a tu⟩
  |bl b=>cases rv;simp only[eqD];exact⟨SeqAt.RcAt.str_bool a tu b,SeqAt.RcNeAt.str_bool a tu b⟩
  |int i=>obtain⟨tk,rfl⟩:=rv;simp only[eqD];exact⟨SeqAt.RcAt.str_int a tu i tk,SeqAt.RcNeAt.str_int a tu i tk⟩
  |str i=>obtain⟨tk,rfl⟩:=rv;simp only[eqD];exact⟨SeqAt.RcAt.str_str a tu i tk,SeqAt.RcNeAt.str_str a tu i tk⟩
end
section
variable{X:Cx}
def inD(d:D)(es:List D):Bool:=es.any λ e=>eqD e d
end
theorem iD:∀{us:List Value} {ns:List Int},IntsAre us ns->Vals (ns.map V.int) us
 |_,_,.nil=>.nil
 |_,_,.cons n t r=>.cons ⟨t,rfl⟩ (iD r)
section
variable{X:Cx}
theorem sJ:dG X (.builtin "sorted") (λ xs H Q=>∃p ns,xs=[.ref p]/\SqL X.K H p (ns.map V.int)/\ns.length<64/\∀ns':List Int,ns'.Perm ns->ns'.Pairwise (·<=·)->New H (.lst (ns'.map V.int)) Q):=by
 intro pins s σ H xs us Q I r h;obtain⟨p,ns,rfl,hp,h64,q⟩:=h;obtain⟨u,rfl,ru⟩:=vals1 r;cases ru;obtain⟨its,rv,pl,hz⟩:=I.list hp;have hI:IntsAre its ns:=intsAre_of rv;have hlen:its.length<64:=by
  have:=rv.length
  rw[List.length_map]at this;omega
 refine sorted_ints pl.isList hI hlen λ out ns' h1 h2 h3=>?_
 obtain⟨e,he⟩:=sortedAll_at s.heap its out;have hfr:H (s.heap.objs.size+1)=none:=I.hok.fresh (Nat.le_succ _);refine⟨.ref (s.heap.objs.size+1),upd H (s.heap.objs.size+1) (.lst (ns'.map V.int)),I.laid (t':=s.toks) (λ b o q=>sortedAll_old q) (Nat.le_succ _) ?_,rfl,(q ns' h2 h3).at hfr⟩;refine⟨?_,out.toList,e,iD h1,?_⟩
 ·rw[List.length_map,h2.length_eq]
  exact Nat.le_trans (Nat.le_of_lt h64) (by decide)
 ·rw[Array.toArray_toList]
  exact he
end
section
variable{P:Program}{w:World}{H:Hp}{s:Shared}
open Classical in
def jY(H:Hp)(d:D)(u:Value):Bool:=if h:∃e,∃y,RelV y u/\Rep H y e then eqD (choose h) d else false
theorem nH{d e:D}{y:V}{u:Value}(r:RelV y u)(h:Rep H y e):jY H d u=eqD e d:=by
 have hx:∃e,∃y,RelV y u/\Rep H y e:=⟨e,y,r,h⟩
 unfold jY;rw[dif_pos hx];obtain⟨y',r',h'⟩:=Classical.choose_spec hx;have e1:=RelV.inj r r';subst e1;rw[Rep.inj h' h]
theorem mQ{d:D}:∀{xs:List V} {es:List D} {us:List Value},iC H xs es->Vals xs us->us.any (jY H d)=inD d es
 |_,_,_,.nil,.nil=>rfl
 |_,_,_,.cons h r,.cons k t=>by
  unfold inD;rw[List.any_cons,List.any_cons,nH k h,mQ r t];rfl
theorem lK(hok:HOk P w H s.heap){d:D}{x:V}{v:Value}(rx:Rep H x d)(rv:RelV x v){n:Nat}{A:Around}(hu:A.units+n<cLine)(nd:aQ d=true):∀{xs:List V} {es:List D} {us:List Value},iC H xs es->Vals xs us->cI es<=n->ao es=true->∀u∈us,SeqAt.EqAt A s u v (jY H d u)
 |_,_,_,.nil,.nil,_,_,u,hm=>by cases hm
 |_,_,_,.cons h r,.cons k t,hd,ne,u,hm=>by
  simp only[cI]at hd;simp only[ao,Bool.and_eq_true]at ne;rcases List.mem_cons.mp hm with z|z
  ·subst z
   rw[nH k h];exact aAe hok n h rx k rv (Nat.le_trans (Nat.le_max_left _ _) hd) ne.1 nd hu
  ·exact lK hok rx rv hu nd r t (Nat.le_trans (Nat.le_max_right _ _) hd) ne.2 u z
end
section
variable{X:Cx}
end
section
variable{H:Hp}{d:D}
theorem ug:∀{xs:List V} {es:List D} {us:List Value},iC H xs es->Vals xs us->us.countP (jY H d)=es.countP (λ e=>eqD e d)
 |_,_,_,.nil,.nil=>rfl
 |_,_,_,.cons h r,.cons k t=>by rw[List.countP_cons,List.countP_cons,nH k h,ug r t]
theorem xZ:∀{xs:List V} {es:List D} {us:List Value},iC H xs es->Vals xs us->us.map (jY H d)=es.map (λ e=>eqD e d)
 |_,_,_,.nil,.nil=>rfl
 |_,_,_,.cons h r,.cons k t=>by rw[List.map_cons,List.map_cons,nH k h,xZ r t]
end
section
variable{X:Cx}
def aHY:V->List V->Hp->VK->Prop:=λ x xs H Q=>∃a y d es,x= .ref a/\xs=[y]/\Rep H (.ref a) (.lst es)/\Rep H y d/\cI es<=60/\aQ d=true/\ao es=true/\Q (.int (es.countP (λ e=>eqD e d):Nat)) H
theorem aEK(hu:X.A.units+64<cLine):MtR X "list.count" aHY:=by
 intro pins s σ H x xs v us Q I rx rxs h;obtain⟨a,y,d,es,rfl,rfl,ra,rd,hd,nd,ne,q⟩:=h;cases rx;obtain⟨u,rfl,ru⟩:=Vals.one rxs;have hu1:X.A.in1.units+60<cLine:=by show X.A.units+1+60<cLine;omega
 cases ra with
 |lst ha r=>
  obtain⟨its,rv,tl⟩:=gG I.hok ha;obtain⟨⟨cls,dd,data,sl⟩,ho,hc,n,hdd⟩:=id tl;simp only at hc hdd;subst hc hdd;refine call_meets PySem.F.slot_list_count ⟨_,ho,rfl⟩ PySem.F.entry_list_count (PySem.F.args_list_count_2 _ _) (SeqAt.list_countAt a its.toArray n dd sl u (jY H d))
   ⟨ho,λ w hw=>lK I.hok rd ru hu1 nd r rv hd ne w (by simpa using hw),?_⟩
  rw[show its.toArray.toList=its from rfl,ug r rv];exact⟨.int _,H,I.tok _,⟨_,rfl⟩,q⟩
def aHW:V->List V->Hp->VK->Prop:=λ x xs H Q=>∃a y d es j,x= .ref a/\xs=[y]/\Rep H (.ref a) (.lst es)/\Rep H y d/\cI es<=60/\aQ d=true/\ao es=true/\
 (es.map λ e=>eqD e d)[j]? =some true/\(∀m,m<j->(es.map λ e=>eqD e d)[m]? =some false)/\Q (.int (j:Nat)) H
theorem aEI(hu:X.A.units+64<cLine):MtR X "list.index" aHW:=by
 intro pins s σ H x xs v us Q I rx rxs h;obtain⟨a,y,d,es,j,rfl,rfl,ra,rd,hd,nd,ne,e1,e2,q⟩:=h;cases rx;obtain⟨u,rfl,ru⟩:=Vals.one rxs;have hu1:X.A.in1.units+60<cLine:=by show X.A.units+1+60<cLine;omega
 cases ra with
 |lst ha r=>
  obtain⟨its,rv,tl⟩:=gG I.hok ha;obtain⟨⟨cls,dd,data,sl⟩,ho,hc,n,hdd⟩:=id tl;simp only at hc hdd;subst hc hdd;have em:=xZ (d:=d) r rv;rw[<-em]at e1 e2;have hj:j<its.length:=by
   have:=(List.getElem?_eq_some_iff.mp e1).1
   simpa using this
  have hlen:its.length<=sizeLine:=by
   have h1:=(I.hok a _ ha).1;rw[rv.length]at h1;exact h1
  have hz:sizeLine<2^62:=by decide
  refine call_meets PySem.F.slot_list_index ⟨_,ho,rfl⟩ PySem.F.entry_list_index (PySem.F.args_list_index_2 _ _) (SeqAt.list_indexAt a its.toArray n dd sl u (jY H d) j (by simpa using hj) (by omega) ?_ λ m hm hmj=>?_)
   ⟨ho,λ w hw=>lK I.hok rd ru hu1 nd r rv hd ne w (by simpa using hw),⟨.int _,H,I.tok _,⟨_,rfl⟩,q⟩⟩
  ·rw[List.getElem?_map,List.getElem?_eq_getElem hj]at e1
   simpa using e1
  ·have h2:=e2 m hmj
   have hm':m<its.length:=by simpa using hm
   rw[List.getElem?_map,List.getElem?_eq_getElem hm']at h2;simpa using h2
end
def aCD(K:PySem.W.Frag)(c:V):TE:=tCB (aIn K) (jo (n8 0) (jo (tC c) rB))
def nW(K:PySem.W.Frag):List V->TA
 |[]=>rB
 |c::cs=>jo (aCD K c) (nW K cs)
def yc:List Str->TA
 |[]=>rB
 |x::xs=>jo (tC (.str x)) (yc xs)
def Kt(K:PySem.W.Frag)(C:Addr)(c:V)(b:Bool):Prop:=∃u,RelV c u/\PySem.W.kitOne K (.ref C) u=some b
section
variable{K:PySem.W.Frag}{σ:St}{H:Hp}{ea C:Addr}
theorem zZ{c:V}{b:Bool}{Q:VK}(hs:σ[0]? =some (some (.ref ea)))(hH:H ea=some (.ext (excφ ea C)))(hk:aIc K C)(h:Kt K C c b)(q:Q (.bl b) H):aCD K c σ H Q:=by
 obtain⟨u,r,e⟩:=h;exact⟨.ref ea,hs,ea,C,c,u,b,rfl,r,hH,hk,e,q⟩
theorem ni(hs:σ[0]? =some (some (.ref ea)))(hH:H ea=some (.ext (excφ ea C)))(hk:aIc K C):∀{cs:List V} {bs:List Bool} {Q:List V->Hp->Prop},Paired (Kt K C) cs bs->Q (bs.map V.bl) H->nW K cs σ H Q
 |_,_,_,.nil,q=>q
 |_,_,_,.cons h r,q=>zZ hs hH hk h (ni hs hH hk r q)
theorem vZ:∀{l:List Str} {Q:List V->Hp->Prop},Q (l.map V.str) H->yc l σ H Q
 |[],_,q=>q
 |x::l,_,q=>vZ (l:=l) (Q:=λ xs H2=>_) q
end
structure Wd(K:PySem.W.Frag)(c1 c2:V)(ks:List (List V))(ws:List Str)(C:Addr)(w:Str):Prop where
 k:aIc K C
 q1:Kt K C c1 true
 q2:Kt K C c2 true
 bs:∃(b1 b2 b3 b4:List Bool) (j:Nat) (k1 k2 k3 k4:List V),ks=[k1,k2,k3,k4]/\Paired (Kt K C) k1 b1/\Paired (Kt K C) k2 b2/\Paired (Kt K C) k3 b3/\Paired (Kt K C) k4 b4/\(b1++b2++b3++b4).length<=100/\(b1++b2++b3++b4).count true=1/\
  (b1++b2++b3++b4)[j]? =some true/\(∀m,m<j->(b1++b2++b3++b4)[m]? =some false)/\ws[j]? =some w
theorem aAE{H:Hp}:∀bs:List Bool,iC H (bs.map V.bl) (bs.map D.bl)
 |[]=>.nil
 |b::bs=>.cons (.bl b) (aAE bs)
theorem aCy:∀bs:List Bool,cI (bs.map D.bl)=0
 |[]=>rfl
 |b::bs=>by
  have h:=aCy bs;simp only[List.map_cons,cI,fP,h];rfl
theorem wH:∀bs:List Bool,ao (bs.map D.bl)=true
 |[]=>rfl
 |b::bs=>by simp only[List.map_cons,ao,aQ,wH bs];rfl
theorem aG6(b:Bool):eqD (.bl b) (.bl true)=b:=by cases b<;>simp[eqD]
theorem aBi:∀bs:List Bool,(bs.map D.bl).countP (λ e=>eqD e (.bl true))=bs.count true
 |[]=>rfl
 |b::bs=>by
  rw[List.map_cons,List.countP_cons,aG6,aBi bs,List.count_cons];cases b<;>rfl
section
variable{X:Cx}{n0 n1 n2 odd:Str}{c1 c2:V}{k1 k2 k3 k4:List V}{l1 l2:List Str}{a1 a2:Expr}{as1 as2 e1 e2 e3 e4 w1 w2:List Expr}{kw1 kw2:List Keyword}{Q:VK}{H:Hp}{vs:List V}
 {p1 p2 p3 p4 p5 p6 p7 p8 p9 p10 p11 p12 p13 p14 p15 p16 p17 p18 p19 p20 p21 p22 p23 p24 p25 p26 p27 p28 p29 p30 p31 p32 p33 p34 p35 p36 p37 p38 p39 p40:Pos}{q1 q2 q3 q4 q5 q6 q7:Pos}{j1 j2 j3 j4 j5:Nat}{E0:XK}{wd:Addr->Option Str}
theorem aDA(hN:X.N=[n0,n1,n2])(nd:X.N.Nodup)(m0:X.env.scope.names.lookup n0=some .local)(m1:X.env.scope.names.lookup n1=some .local)(m2:X.env.scope.names.lookup n2=some .local)(hu:X.A.units+64<cLine)
  (h1:PE X (.Call a1 as1 kw1 p1) (aCD X.K c1))(h2:PE X (.Call a2 as2 kw2 p2) (aCD X.K c2))(g1:PA X e1 (nW X.K k1))(g2:PA X e2 (nW X.K k2))(g3:PA X e3 (nW X.K k3))(g4:PA X e4 (nW X.K k4))(g5:PA X w1 (yc l1))(g6:PA X w2 (yc l2))
  (hl1:(p20.endLine==p21.line)=true)(hl2:(p30.endLine==p31.line)=true)(hz:(l1++l2).length<=100)(h:spW wd vs H Q E0)(hw:∀C w,wd C=some w->Wd X.K c1 c2 [k1,k2,k3,k4] (l1++l2) C w)
  (d0:(n0==("__debug__":Str))=false:=by decide)(d1:(n1==("__debug__":Str))=false:=by decide)(d2:(n2==("__debug__":Str))=false:=by decide)
  (f0:(n0==("__classdict__":Str))=false:=by decide)(f1:(n1==("__classdict__":Str))=false:=by decide)(f2:(n2==("__classdict__":Str))=false:=by decide):
  ∃t,PSs X [.If (.BoolOp .Or [.UnaryOp .Not (.Call a1 as1 kw1 p1) p3,.UnaryOp .Not (.Call a2 as2 kw2 p2) p4] p5) [.Return (some (.Constant (.str odd) j1 p6)) p7] [] p8,
   .Assign [.Name n1 p9] (.List e1 p10) p11,.Assign [.Name n1 p12] (.BinOp (.Name n1 p13) .Add (.List e2 p14) p15) p16,.Assign [.Name n1 p17] (.BinOp (.Name n1 p18) .Add (.List e3 p19) p22) p23,.Assign [.Name n1 p24] (.BinOp (.Name n1 p25) .Add (.List e4 p26) p27) p28,
   .If (.Compare (.Call (.Attribute (.Name n1 p29) "count" p20) [.Constant (.bool true) j2 p32] [] p21) [.NotEq] [.Constant (.int 1) j3 p33] p34) [.Return (some (.Constant (.str odd) j4 p35)) p36] [] p37,
   .Assign [.Name n2 p38] (.List w1 p39) p40,.Return (some (.Subscript (.BinOp (.Name n2 q1) .Add (.List w2 q2) q3) (.Call (.Attribute (.Name n1 q4) "index" p30) [.Constant (.bool true) j5 q5] [] p31) q6)) q7] t/\
   t {nx:=λ _ H'=>Q .non H',rt:=Q} (start X.N vs) H:=by
 obtain⟨ea,C,w,rfl,hH,hwd,hq⟩:=h;obtain⟨hk,hq1,hq2,b1,b2,b3,b4,j,k1',k2',k3',k4',ek,r1,r2,r3,r4,hlen,hcnt,hj,hjm,hjw⟩:=hw C w hwd;cases ek;have i0:X.N[0]? =some n0:=by rw[hN];rfl
 have i1:X.N[1]? =some n1:=by rw[hN];rfl
 have i2:X.N[2]? =some n2:=by rw[hN];rfl
 have v1:∀{pos:Pos},PE X (.Name n1 pos) (n8 1):=λ{pos}=>iK i1 (.inl m1) d1 f1
 have cat:∀{pp pq pr:Pos} {es:List Expr} {ks:List V},PA X es (nW X.K ks)->PE X (.BinOp (.Name n1 pp) .Add (.List es pq) pr) (tOp aF0 (n8 1) (aEx (nW X.K ks))):=λ g=>aDW aAK v1 (nF g)
 refine⟨_,gK (aF8 (aIq (aCZ (aF2 h1)) (aF1 (aCZ (aF2 h2)))).pt (nC (wC gF)) aAH)
  (gK (nD nd i1 (.inl m1) (nF g1) (hf:=.inr m1)) (gK (nD nd i1 (.inl m1) (cat g2) (hf:=.inr m1)) (gK (nD nd i1 (.inl m1) (cat g3) (hf:=.inr m1)) (gK (nD nd i1 (.inl m1) (cat g4) (hf:=.inr m1))
  (gK (aF8 (aJ5 (aJo (yr PySem.F.plainAttrs_list PySem.F.slot_list_count PySem.F.type_list_count (aEK hu) v1 (az aFh dU) (hline:=hl1)) aC2)) (nC (wC gF)) aAH)
  (gK (nD nd i2 (.inl m2) (nF g5) (hf:=.inr m2)) (nC (wC (aFe aA7 (aDW aAK (iK i2 (.inl m2) d2 f2) (nF g6)) (yr PySem.F.plainAttrs_list PySem.F.slot_list_index PySem.F.type_list_index (aEI hu) v1 (az aFh dU) (hline:=hl2)) λ _ _=>rfl))))))))),?_⟩
 have hs:start X.N [.ref ea]=[some (.ref ea),none,none]:=by rw[hN];rfl
 rw[hs];have sz:∀{n:Nat},n<=100->n<=sizeLine:=λ h=>Nat.le_trans h (by decide)
 simp only[List.length_append]at hlen hz;refine zZ (ea:=ea) rfl hH hk hq1 ⟨true,rfl,zZ (ea:=ea) rfl hH hk hq2 ⟨true,rfl,?_⟩⟩;refine ni (ea:=ea) rfl hH hk r1 ⟨sz (by rw[List.length_map];omega),λ a1 H1 s1 ha1 _=>?_⟩;refine⟨.ref a1,rfl,ni (ea:=ea) rfl (s1 _ _ hH) hk r2 ⟨sz (by rw[List.length_map];omega),λ x2 G2 t2 hx2 _=>⟨a1,x2,_,_,rfl,rfl,t2 _ _ ha1,hx2,sz (by simp only[List.length_map];omega),λ a2 H2 s2 ha2 _=>?_⟩⟩⟩;have hH2:=s2 _ _ (t2 _ _ (s1 _ _ hH));refine⟨.ref a2,rfl,ni (ea:=ea) rfl hH2 hk r3 ⟨sz (by rw[List.length_map];omega),λ x3 G3 t3 hx3 _=>⟨a2,x3,_,_,rfl,rfl,t3 _ _ ha2,hx3,sz (by simp only[List.length_map,List.length_append];omega),λ a3 H3 s3 ha3 _=>?_⟩⟩⟩;have hH3:=s3 _ _ (t3 _ _ hH2);refine⟨.ref a3,rfl,ni (ea:=ea) rfl hH3 hk r4 ⟨sz (by rw[List.length_map];omega),λ x4 G4 t4 hx4 _=>⟨a3,x4,_,_,rfl,rfl,t4 _ _ ha3,hx4,sz (by simp only[List.length_map,List.length_append];omega),λ a4 H4 s4 ha4 _=>?_⟩⟩⟩;rw[<-List.map_append,<-List.map_append,<-List.map_append]at ha4;generalize hbs:b1++b2++b3++b4=bs at hcnt hj hjm ha4;have hc1:(bs.map D.bl).countP (λ e=>eqD e (.bl true))=1:=(aBi bs).trans hcnt;refine⟨.ref a4,rfl,.inl ⟨rfl,_,.inl (.inl ha4)⟩,a4,.bl true,.bl true,bs.map D.bl,rfl,rfl,.lst ha4 (aAE bs),.bl true,by rw[aCy];exact Nat.zero_le _,rfl,wH bs,1,1,by rw[hc1];rfl,rfl,false,rfl,?_⟩;refine vZ ⟨sz (by rw[List.length_map];omega),λ a5 H5 s5 ha5 _=>?_⟩;refine⟨.ref a5,rfl,vZ ⟨sz (by rw[List.length_map];omega),λ x6 G6 t6 hx6 _=>⟨a5,x6,_,_,rfl,rfl,t6 _ _ ha5,hx6,sz (by simp only[List.length_map];omega),λ a7 H7 s7 ha7 _=>?_⟩⟩⟩;have ha4':=s7 _ _ (t6 _ _ (s5 _ _ ha4));refine⟨.ref a4,rfl,.inl ⟨rfl,_,.inl (.inl ha4')⟩,a4,.bl true,.bl true,bs.map D.bl,j,rfl,rfl,.lst ha4' (aAE bs),.bl true,by rw[aCy];exact Nat.zero_le _,rfl,wH bs,?_,λ m hm=>?_,a7,_,_,.str w,rfl,rfl,.inl (.inl ha7),?_,?_⟩
 ·rw[List.map_map,List.getElem?_map,hj];exact congrArg some (aG6 true)
 ·rw[List.map_map,List.getElem?_map,hjm m hm];exact congrArg some (aG6 false)
 ·rw[<-List.map_append]
  have hjl:j<(l1++l2).length:=(List.getElem?_eq_some_iff.mp hjw).1;unfold atI ixN;rw[if_pos (Int.natCast_nonneg j),List.length_map,if_pos (by omega),Int.toNat_natCast]
  show((l1++l2).map V.str)[j]? =_
  rw[List.getElem?_map,hjw];rfl
 ·exact hq _ λ b o e=>s7 _ _ (t6 _ _ (s5 _ _ (s4 _ _ (t4 _ _ (s3 _ _ (t3 _ _ (s2 _ _ (t2 _ _ (s1 _ _ e)))))))))
end
structure uG(d:Nat)(e tg iter:Expr)(ifs:List Expr)(body:Env->Addr->Sem Unit):Prop where
 under:∀(A:Around) (it:Value) (D:Addr) (env:Env),A.under (.compLoop e d it (.ref D) env)=A
 den:∀(prog:Program) (w:World) (it:Value) (D:Addr) (env:Env),(model prog w).den (.compLoop e d it (.ref D) env)=(compTurn e d it (.ref D) env).onRaise (λ x=>do noteFrame x env;theTreesLotGoes x)
 turn:∀(it:Value) (D:Addr) (env:Env),compTurn e d it (.ref D) env=(do
   standAt iter.pos
   match <-pyNext it with
   |none=>pure (.done .next)
   |some v=>
    letOwnedTupleGo tg it v
    assign tg env v
    let mut ok:=true
    for c in ifs do if ok then ok <-isTrue c env (eval c env)
    if ok then
     body env D
    again (.compLoop e d it (.ref D) env))
section
variable{s:Shared}{A:Around}{prog:Program}{w:World}{R:Result->Shared->Prop}
theorem sH{D:Addr}(hb:uG d e tg iter ifs body)(I:Nat->Shared->Prop)
  (one:∀n s,I n s->wpAny (model prog w) A (pyNext it) (λ r s₁=>match r with
   |none=>R (.ok .next) s₁
   |some v=>wpAny (model prog w) A (letOwnedTupleGo tg it v) (λ _ s₁=>wpAny (model prog w) A (assign tg env v) (λ _ s₂=>
     wpAny (model prog w) A (forIn ifs true λ c r=>if r=true then do let ok <-isTrue c env (eval c env);pure (ForInStep.yield ok)else pure (ForInStep.yield r)) (λ ok s₃=>if ok=true then wpAny (model prog w) A (body env D) (λ _ s₅=>∃m,m<n/\I m s₅) (λ _ _=>False) s₃
      else∃m,m<n/\I m s₃) (λ _ _=>False) s₂) (λ _ _=>False) s₁) (λ _ _=>False) s₁) (λ _ _=>False) s)
  (n:Nat)(h:I n s):codeAny (model prog w) A (.compLoop e d it (.ref D) env) R s:=by
 refine codeAny_loop rfl I (λ n s hJ=>?_) n h;rw[hb.under,hb.den];refine wpAny_noted ?_;rw[hb.turn];refine wpAny_bind (wpAny_standAt (wpAny_bind (wpAny_mono (one n s hJ) (λ r s₁ h₁=>?_) λ _ _ h'=>h'.elim)));cases r with
 |none=>exact wpAny_pure h₁
 |some v=>
  refine wpAny_bind (wpAny_mono h₁ (λ _ s₁ h₁=>?_) λ _ _ h'=>h'.elim);refine wpAny_bind (wpAny_mono h₁ (λ _ s₂ h₂=>wpAny_bind (wpAny_mono h₂ (λ ok s₃ h₃=>?_) λ _ _ h'=>h'.elim)) λ _ _ h'=>h'.elim);cases ok with
  |false=>exact wpAny_pure (And.intro rfl h₃)
  |true=>exact wpAny_bind (wpAny_mono h₃ (λ _ s₄ h₄=>wpAny_pure ⟨rfl,h₄⟩) λ _ _ h'=>h'.elim)
end
def vQ(d:Nat)(e:Expr):Prop:=∀{prog:Program} {w:World} {A:Around} {R:Result->Shared->Prop} {s:Shared} {it acc:Value} {env:Env},
  codeAny (model prog w) A (.compLoop e d it acc env) R s->
  wpAny (model prog w) A (pyIter it) (λ it' s'=>codeAny (model prog w) A (.compLoop e d it' acc env) R s') (notedBy (model prog w) A env λ x s'=>R (.error x) s') s->
  codeAny (model prog w) A (.compStart e d it acc env) R s
structure aGy(mk:Sem Value)(obs:Obj->Prop)(o:Addr->HO):Prop where
 make:∀{prog:Program} {w:World} {A:Around} {Q:Value->Shared->Prop} {E:Value->Shared->Prop} {s:Shared},(∀ob,obs ob->Q (.ref s.heap.objs.size) {s with heap:=s.heap.push ob})->wpAny (model prog w) A mk Q E s
 live:∀ob,obs ob->ob.isFreed=false
 ok:∀{P:Program} {w:World} {H:Hp} {h:Heap} {a:Addr} {ob:Obj},obs ob->h.get? a=some ob->sysModules<a->dZ P w H h a (o a)
def PB(X:Cx)(body:Env->Addr->Sem Unit)(tb:Addr->St->Hp->(Hp->Prop)->Prop):Prop:=
 ∀(D:Addr) (pins:List (Addr×Obj)) (s:Shared) (σ:St) (H:Hp) (Q:Hp->Prop),Inv X pins σ H s->tb D σ H Q->wpAny (model X.prog X.w) X.A (body X.env D) (λ _ s'=>∃H',Inv X pins σ H' s'/\Q H') X.xe s
theorem aMC(I:Inv X pins σ H s):sysModules<s.heap.objs.size:=
 Nat.lt_trans (by decide) (I.mod.glob.keeps I.bk).lt
def aLE(o:Addr->HO)(wi:TI)(st:St->St)(g:TG)(tt:TT)(tb:Addr->St->Hp->(Hp->Prop)->Prop):TE:=λ σ H Q=>wi σ H λ J H1=>∀l,H1 l=none->∃W:Nat->Nat->Hp->Prop,(∃m,W 0 m (upd H1 l (o l)))/\
 ∀i m H2,W i m H2->((J.stop i H2/\Q (.ref l) H2)\/(J.go i H2/\∀x H3,J.yld i H2 x H3->g x (st σ) H3 λ σ4 H4=>tt σ4 H4 λ ok H5=>
  if ok=true then tb l σ4 H5 λ H6=>∃m',m'<m/\W (i+1) m' H6 else∃m',m'<m/\W (i+1) m' H5))
section
variable{X:Cx}{e tg iter:Expr}{ifs:List Expr}{scope:Scope}{N:List Str}{st:St->St}{ks:List Nat}{wi:TI}{g:TG}{tt:TT}{body:Env->Addr->Sem Unit}{tb:Addr->St->Hp->(Hp->Prop)->Prop}{pos:Pos}{mk:Sem Value}{obs:Obj->Prop}{o:Addr->HO}
theorem aGg(B:fZ X scope N st ks)(hc:X.calm=true)(hT:uG 0 e tg iter ifs body)(hS:vQ 0 e)(hA:aGy mk obs o)(hg:∀C fp s₀ H₀,PG (X.block scope C N fp s₀ H₀) tg g)(hgo:nZ g ks)(ht:∀C fp s₀ H₀,aAs (X.block scope C N fp s₀ H₀) ifs tt)
  (he:∀C fp s₀ H₀,PB (X.block scope C N fp s₀ H₀) body tb){Q:VK}{RR:Value->Addr->Result->Shared->Prop}
  (I:Inv X pins σ H1 s₂)(T:Turn X.prog X.w X.K tg J fp it tn)(h0:tn 0 s₂.heap)(hfp:∀b∈fp,pQ X pins H1 b)
  (h:∀l,H1 l=none->∃W:Nat->Nat->Hp->Prop,(∃m,W 0 m (upd H1 l (o l)))/\
   ∀i m H2,W i m H2->((J.stop i H2/\Q (.ref l) H2)\/(J.go i H2/\∀x H3,J.yld i H2 x H3->g x (st σ) H3 λ σ4 H4=>tt σ4 H4 λ ok H5=>
    if ok=true then tb l σ4 H5 λ H6=>∃m',m'<m/\W (i+1) m' H6 else∃m',m'<m/\W (i+1) m' H5)))
  (hRR:∀D C H' s',(∃σ',Inv (X.block scope C N fp s₂ H1) [] σ' H' s')->s₂.heap.objs.size<=C->Q (.ref D) H'->RR (.ref D) C (.ok .next) s'):
  wpAny (model X.prog X.w) X.A mk (λ acc s₃=>wpAny (model X.prog X.w) X.A (newFunctionEnv scope X.env.globals (bD scope X.env) [] X.env.qual none .none (some X.env)) (λ cenv s₄=>
   codeAny (model X.prog X.w) X.A (.compStart e 0 (.ref it) acc {cenv with scope:=relabel scope X.env}) (RR acc cenv.locals) s₄) E s₃) E s₂:=by
 refine hA.make λ ob hob=>wpAny_newFunctionEnv B.cell (by intro y hy;simp at hy) (λ h₁ hns₁ hsb₁=>?_) B.kind
 dsimp only at hns₁ hsb₁ ⊢;generalize hH2:s₂.heap.push ob=P2 at hns₁ hsb₁ ⊢;have hC:P2.objs.size=s₂.heap.objs.size+1:=by rw[<-hH2,Heap.size_push]
 have hDC:s₂.heap.objs.size≠P2.objs.size:=by rw[hC];exact Nat.ne_of_lt (Nat.lt_succ_self _)
 have hCle:s₂.heap.objs.size<=P2.objs.size:=by rw[hC];exact Nat.le_succ _
 have old:∀b o,s₂.heap.get? b=some o->h₁.get? b=some o:=λ b o e=>
  hsb₁.extBut b o (by rw[hC];exact Nat.ne_of_lt (Nat.lt_succ_of_lt (Heap.lt_size e))) (Heap.get?_push_of_some _ (hH2▸Heap.get?_push_of_some _ e))
 have hacc:h₁.get? s₂.heap.objs.size=some ob:=hsb₁.extBut _ _ hDC (Heap.get?_push_of_some _ (hH2▸Heap.get?_push_size _ (hA.live ob hob)));generalize hCe:P2.objs.size=C at hns₁ hsb₁ hDC hCle ⊢;have hHD:H1 s₂.heap.objs.size=none:=I.hok.fresh (Nat.le_refl _);have I0:Inv (X.block scope C N fp s₂ H1) [] (st σ) (upd H1 s₂.heap.objs.size (o s₂.heap.objs.size)) {s₂ with heap:=h₁,toks:=s₂.toks+([]:List (Str×Value)).length}:=
  I.block B hfp (λ b hb=>by obtain⟨o,e,_⟩:=T.obj 0 _ h0 b hb;exact⟨o,e⟩) (Nat.le_refl _) hCle hDC old (by simpa using hns₁) (hA.ok hob hacc (aMC I))
 obtain⟨W,⟨m0,w0⟩,step⟩:=h _ hHD;have h01:tn 0 h₁:=T.keep 0 _ _ h0 λ b _ o e=>old b o e
 have stat:∀{H':Hp},(∀b∈fp,H' b=none)->∀b∈fp,pQ (X.block scope C N fp s₂ H1) [] H' b:=λ{H'} hn b hb=>
  ⟨hn b hb,(I0.ok.exf b hb).1,I0.ok.exfs b hb,.inl hb,λ x c e=>(I0.ok.exf b hb).2 x c e,λ p hp=>absurd (show p∈([]:List (Addr×Obj))from hp) (by simp)⟩
 have fr0:∀b∈fp,upd H1 s₂.heap.objs.size (o s₂.heap.objs.size) b=none:=λ b hb=>by
  obtain⟨o,e,_⟩:=T.obj 0 _ h0 b hb;rw[aZ (Nat.ne_of_lt (Heap.lt_size e))];exact(hfp b hb).1
 have loop:∀sx:Shared,sx={s₂ with heap:=h₁,toks:=s₂.toks+([]:List (Str×Value)).length}->
   codeAny (model X.prog X.w) X.A (.compLoop e 0 (.ref it) (.ref s₂.heap.objs.size) (X.block scope C N fp s₂ H1).env) (RR (.ref s₂.heap.objs.size) C) sx:=by
  rintro sx rfl;refine sH hT (λ n s'=>∃i H2,Inv (X.block scope C N fp s₂ H1) [] (st σ) H2 s'/\tn i s'.heap/\(∀b∈fp,H2 b=none)/\W i n H2) ?_ m0 ⟨0,_,I0,h01,fr0,w0⟩;rintro n s3 ⟨i,H2,I2,st2,fr2,w2⟩;rcases step i n H2 w2 with ⟨stop,q⟩|⟨go,nxt⟩
  ·refine thn (T.done (X.block scope C N fp s₂ H1) rfl rfl rfl hc i [] s3 (st σ) H2 _ I2 (stat fr2) st2 stop) λ r s4 ⟨hr,I4⟩=>?_
   subst hr;exact hRR _ C H2 s4 ⟨_,I4⟩ hCle q
  ·refine thn (T.item (X.block scope C N fp s₂ H1) rfl rfl rfl hc i [] s3 (st σ) H2 _ I2 (stat fr2) st2 go) λ r s4 ⟨u,hr,h4⟩=>?_
   subst hr;refine thn h4 λ _ s5 ⟨x,H5,I5,r5,y5,st5,fr5⟩=>?_
   have I5p:=I5.pinned (stat fr5) (T.obj _ _ st5);refine thn (hg C fp s₂ H1 _ s5 (st σ) H5 x u _ I5p r5 (hgo _ _ _ _ (nxt x H5 y5))) λ _ s6 ⟨σ6,H6,I6,q6,aER,ag6⟩=>?_
   refine thn (ht C fp s₂ H1 _ s6 σ6 H6 _ I6 q6) λ ok s7 ⟨H7,I7,q7⟩=>?_
   have again:∀{H9:Hp} {s9:Shared},Inv (X.block scope C N fp s₂ H1) ([]++qg fp s5.heap) σ6 H9 s9->(∃m',m'<n/\W (i+1) m' H9)->
     ∃m,m<n/\∃i H2,Inv (X.block scope C N fp s₂ H1) [] (st σ) H2 s9/\tn i s9.heap/\(∀b∈fp,H2 b=none)/\W i m H2:=λ{H9 s9} I9 ⟨m',hm,w9⟩=>by
    have pin9:∀b∈fp,∀o,s5.heap.get? b=some o->s9.heap.get? b=some o/\H9 b=none:=λ b hb o e=>by
     have z:=I9.pin (b,o) (List.mem_append_right _ (List.mem_append_right _ (jz hb e)));exact⟨z.1,z.2.1⟩
    refine⟨m',hm,i+1,H9,I9.unpinned.weak (by rw[aER]) (λ k v e=>?_),T.keep _ _ _ st5 λ b hb o e=>(pin9 b hb o e).1,λ b hb=>?_,w9⟩
    ·have hk:k<(st σ).length:=(List.getElem?_eq_some_iff.mp e).1
     have hkN:k<N.length:=by rw[<-B.len σ];exact hk
     obtain⟨_,hks,_⟩:=B.val σ k _ v (List.getElem?_eq_getElem hkN) e;rw[ag6 k hks];exact e
    ·obtain⟨o,e,_⟩:=T.obj _ _ st5 b hb
     exact(pin9 b hb o e).2
   cases ok with
   |false=>
    rw[if_neg Bool.false_ne_true]at q7 ⊢;exact again I7 q7
   |true=>
    rw[if_pos rfl]at q7 ⊢;exact thn (he C fp s₂ H1 _ _ s7 σ6 H7 _ I7 q7) λ _ s8 ⟨H8,I8,q8⟩=>again I8 q8
 exact hS (loop _ rfl) (T.self X.A 0 _ _ _ h01 (loop _ rfl))
theorem aLW(B:fZ X scope N st ks)(hc:X.calm=true)(hi:PI X tg iter wi)(hg:∀C fp s₀ H₀,PG (X.block scope C N fp s₀ H₀) tg g)(hgo:nZ g ks)(ht:∀C fp s₀ H₀,aAs (X.block scope C N fp s₀ H₀) ifs tt)
  (hT:uG 0 e tg iter ifs body)(hS:vQ 0 e)(hA:aGy mk obs o)(he:∀C fp s₀ H₀,PB (X.block scope C N fp s₀ H₀) body tb)(hcs:clausesOf e=⟨tg,iter,ifs,0⟩::gs)(hev:eval e X.env=comprehension e scope X.env (firstIterPos (⟨tg,iter,ifs,0⟩::gs) pos) mk false (eval iter X.env))(hs:∀x,foldedSetIterable iter X.env x=pure x:=by intro _;rfl):PE X e (aLE o wi st g tt tb):=by
 intro pins s σ H Q I h;have hcl:closureFor scope X.env=pure (bD scope X.env):=jM λ y hy hk=>I.ok.has _ (B.free y hy hk)
 rw[hev];refine wpAny_comprehension_free (use:=none) hcs hs hcl B.kind B.loc (thn (hi pins s σ H _ I h) λ v s1 h1=>thn h1 λ itv s2 h2=>?_);obtain⟨it,fp,tn,J,H2,e,I2,T,st2,f2,hq⟩:=h2;subst e;refine aGg (RR:=λ acc C=>compPost (model X.prog X.w) X.A X.xe none (EP X pins σ Q) acc C) B hc hT hS hA hg hgo ht he I2 T st2 f2 hq ?_;intro D C H' s' hJ hCle q;have I3:=aAo I2 f2 hJ;obtain⟨σ',J'⟩:=hJ;obtain⟨m,hn,_⟩:=id J'.loc;have hHC:H' C=none:=J'.free;refine⟨m,hn,λ h'' hs''=>⟨.ref D,H',?_,rfl,q⟩⟩;exact I3.turned (t':=s'.toks) (λ b o ne e=>(hs''.2 b ne).trans e) hHC (Nat.ne_of_gt (Nat.lt_of_lt_of_le I2.lt hCle)) (.inr (Nat.le_trans I2.sz hCle))
  (λ x c e z=>by obtain⟨v,ic⟩:=I2.cell x c e;exact absurd (Nat.lt_of_lt_of_le ic.lt (by rw[z];exact hCle)) (Nat.lt_irrefl _))
  (λ p hp z=>absurd (Nat.lt_of_lt_of_le (I2.pinL hp) (by rw[z];exact hCle)) (Nat.lt_irrefl _))
end
section
variable{X:Cx}{elt tg iter:Expr}{ifs:List Expr}{scope:Scope}{pos:Pos}{N:List Str}{st:St->St}{ks:List Nat}{wi:TI}{g:TG}{tt:TT}{te:TE}
end
def aAY(elt:Expr)(env:Env)(D:Addr):Sem Unit:=do let _ <-call (.builtin "list.append") [.ref D,<-eval elt env]
def aIh(te:TE):Addr->St->Hp->(Hp->Prop)->Prop:=λ D σ H Q=>te σ H λ y H1=>∃acc,H1 D=some (.lst acc)/\acc.length<sizeLine/\Q (upd H1 D (.lst (acc++[y])))
theorem aJq(he:PE X elt te):PB X (aAY elt) (aIh te):=by
 intro D pins s σ H Q I h;unfold aAY;refine wpAny_bind (thn (he pins s σ H _ I h) λ u s1 ⟨y,H1,I1,r1,acc,hD,hz,q⟩=>wpAny_bind ?_);refine thn (tQ _ s1 σ H1 (.ref D) [y] (.ref D) [u] (λ _ H9=>H9=upd H1 D (.lst (acc++[y]))) I1 rfl (.cons r1 .nil) ⟨_,acc,y,rfl,rfl,hD,hz,rfl⟩) λ _ s2 ⟨_,H2,I2,_,e⟩=>?_
 subst e;exact wpAny_pure ⟨_,I2,q⟩
theorem aI7:aGy (newList []) (λ ob=>ob={cls:=.type "list",data:=.seq #[]}) (λ _=>.lst []) where
 make:=λ h=>wpAny_newObj_type (h _ rfl)
 live:=by rintro ob rfl;rfl
 ok:=by
  rintro P w H h a ob rfl hg hb;exact⟨Nat.zero_le _,[],_,.nil,hg⟩
def rN(e iter2:Expr)(env:Env)(D:Addr):Sem Unit:=do
 let x <-eval iter2 env
 standAt iter2.pos
 let x <-foldedSetIterable iter2 env x;let _ <-runOwn (.compStart e 1 (<-holding [x] (pyIter x)) (.ref D) env) env
theorem aEt(elt tg iter tg2 iter2:Expr)(ifs ifs2:List Expr)(scope:Scope)(pos:Pos):uG 0 (.ListComp elt [⟨tg,iter,ifs,0⟩,⟨tg2,iter2,ifs2,0⟩] scope pos) tg iter ifs (rN (.ListComp elt [⟨tg,iter,ifs,0⟩,⟨tg2,iter2,ifs2,0⟩] scope pos) iter2):=
 ⟨λ _ _ _ _=>rfl,λ _ _ _ _ _=>rfl,λ _ _ _=>by unfold rN compTurn;simp only[bind_assoc];rfl⟩
theorem aEs(elt tg iter tg2 iter2:Expr)(ifs ifs2:List Expr)(scope:Scope)(pos:Pos):uG 1 (.ListComp elt [⟨tg,iter,ifs,0⟩,⟨tg2,iter2,ifs2,0⟩] scope pos) tg2 iter2 ifs2 (aAY elt):=
 ⟨λ _ _ _ _=>rfl,λ _ _ _ _ _=>rfl,λ _ _ _=>rfl⟩
theorem aAv(hcl:(clausesOf e)[d]? =some ⟨tg,iter,ifs,0⟩)(hu:∀(A:Around) (it acc:Value) (env:Env),A.under (.compStart e d it acc env)=A)
  (hd:∀(prog:Program) (w:World) (it acc:Value) (env:Env),(model prog w).den (.compStart e d it acc env)=(compStart e d it acc env).onRaise (λ x=>do noteFrame x env;standAt theWindowsPlace)):vQ d e:=by
 intro prog w A R s it acc env h0 h;refine codeAny_of_tree ?_;rw[hu,hd];refine wpAny_notedAt ?_;unfold compStart;rw[hcl];show wpAny _ A (ask>>=_) _ _ s;refine wpAny_bind (wpAny_askSetting (wpAny_ite ?_));split
 ·first|exact wpAny_bind (wpAny_pure (wpAny_pure (And.intro rfl h0)))|exact wpAny_pure (And.intro rfl h0)
 ·first
   |exact wpAny_bind (wpAny_rule (wpAny_bind (wpAny_standAt (wpAny_bind (wpAny_mono h (λ it2 s2 h2=>wpAny_pure (And.intro rfl h2)) λ _ _ x=>x)))))
   |(refine wpAny_bind (wpAny_rule ?_);(show wpAny _ _ (standAt iter.pos>>=_) _ _ s);exact wpAny_bind (wpAny_standAt (wpAny_bind (wpAny_mono h (λ it2 s2 h2=>wpAny_pure (And.intro rfl h2)) λ _ _ x=>x))))
def aEu(ks:List Nat)(wi:TI)(g:TG)(tt:TT)(tb:Addr->St->Hp->(Hp->Prop)->Prop):Addr->St->Hp->(Hp->Prop)->Prop:=λ D σ H Q=>(∀k∈ks,∀v,σ[k]?≠some (some v))/\wi σ H λ J H1=>∃W:Nat->Nat->Hp->Prop,(∃m,W 0 m H1)/\
 ∀i m H2,W i m H2->((J.stop i H2/\Q H2)\/(J.go i H2/\∀x H3,J.yld i H2 x H3->g x σ H3 λ σ4 H4=>tt σ4 H4 λ ok H5=>
  if ok=true then tb D σ4 H5 λ H6=>∃m',m'<m/\W (i+1) m' H6 else∃m',m'<m/\W (i+1) m' H5))
theorem aHb(hc:X.calm=true)(hx:∀v s,X.xe v s->False)(hT:uG 1 e tg iter ifs body)(hS:vQ 1 e)
  (hi:PI X tg iter wi)(hg:PG X tg g)(hgo:nZ g ks)(ht:aAs X ifs tt)(he:PB X body tb)(hs:∀x,foldedSetIterable iter X.env x=pure x:=by intro _;rfl):PB X (rN e iter) (aEu ks wi g tt tb):=by
 have nf:∀{α:Type} {m:Sem α} {Q:α->Shared->Prop} {s:Shared},wpAny (model X.prog X.w) X.A m Q X.xe s->wpAny (model X.prog X.w) X.A m Q (λ _ _=>False) s:=λ h=>wpAny_mono h (λ _ _ q=>q) hx
 intro D pins s σ H Q I h;obtain⟨hno,h⟩:=h;unfold rN;refine wpAny_bind (thn (hi pins s σ H _ I h) λ v s1 h1=>wpAny_bind (wpAny_standAt (wpAny_bind (wpAny_of_eq (hs v) (wpAny_bind (wpAny_holding (thn h1 λ itv s2 h2=>wpAny_bind ?_)))))));obtain⟨it,fp,tn,J,H1,e1,I1,T,st1,f1,W,⟨m0,w0⟩,step⟩:=h2;subst e1;have stat:∀{H':Hp},(∀b∈fp,H' b=none)->∀b∈fp,pQ X pins H' b:=λ{H'} hn b hb=>⟨hn b hb,(f1 b hb).2⟩
 have loop:codeAny (model X.prog X.w) X.A (.compLoop e 1 (.ref it) (.ref D) X.env) (λ r s'=>match r with| .ok _=>(∃H',Inv X pins σ H' s'/\Q H')| .error _=>False) s2:=by
  refine sH hT (λ n s'=>∃i H2,Inv X pins σ H2 s'/\tn i s'.heap/\(∀b∈fp,H2 b=none)/\W i n H2) ?_ m0 ⟨0,H1,I1,st1,λ b hb=>(f1 b hb).1,w0⟩;rintro n s3 ⟨i,H2,I2,st2,fr2,w2⟩;rcases step i n H2 w2 with ⟨stop,q⟩|⟨go,nxt⟩
  ·refine thn (T.done X rfl rfl rfl hc i pins s3 σ H2 _ I2 (stat fr2) st2 stop) λ r s4 ⟨hr,I4⟩=>?_
   subst hr;exact⟨H2,I4,q⟩
  ·refine thn (T.item X rfl rfl rfl hc i pins s3 σ H2 _ I2 (stat fr2) st2 go) λ r s4 ⟨u,hr,h4⟩=>?_
   subst hr;refine thn h4 λ _ s5 ⟨x,H5,I5,r5,y5,st5,fr5⟩=>?_
   have I5p:=I5.pinned (stat fr5) (T.obj _ _ st5);refine thn (nf (hg _ s5 σ H5 x u _ I5p r5 (hgo _ _ _ _ (nxt x H5 y5)))) λ _ s6 ⟨σ6,H6,I6,q6,aER,ag6⟩=>?_
   refine thn (nf (ht _ s6 σ6 H6 _ I6 q6)) λ ok s7 ⟨H7,I7,q7⟩=>?_
   have again:∀{H9:Hp} {s9:Shared},Inv X (pins++qg fp s5.heap) σ6 H9 s9->(∃m',m'<n/\W (i+1) m' H9)->∃m,m<n/\∃i H2,Inv X pins σ H2 s9/\tn i s9.heap/\(∀b∈fp,H2 b=none)/\W i m H2:=λ{H9 s9} I9 ⟨m',hm,w9⟩=>by
    have pin9:∀b∈fp,∀o,s5.heap.get? b=some o->s9.heap.get? b=some o/\H9 b=none:=λ b hb o e=>by
     have z:=I9.pin (b,o) (List.mem_append_right _ (List.mem_append_right _ (jz hb e)));exact⟨z.1,z.2.1⟩
    refine⟨m',hm,i+1,H9,I9.unpinned.weak (by rw[aER]) (λ k v e=>?_),T.keep _ _ _ st5 λ b hb o e=>(pin9 b hb o e).1,λ b hb=>?_,w9⟩
    ·by_cases hk:k∈ks
     ·exact absurd e (hno k hk v)
     ·rw[ag6 k hk];exact e
    ·obtain⟨o,e,_⟩:=T.obj _ _ st5 b hb
     exact(pin9 b hb o e).2
   cases ok with
   |false=>
    rw[if_neg Bool.false_ne_true]at q7 ⊢;exact again I7 q7
   |true=>
    rw[if_pos rfl]at q7 ⊢;exact thn (nf (he D _ s7 σ6 H7 _ I7 q7)) λ _ s8 ⟨H8,I8,q8⟩=>again I8 q8
 refine wpAny_runOwn (h:=none) (codeAny_mono (hS loop (T.self X.A 0 _ _ _ st1 loop)) λ r s' hr=>?_);cases r with
 |ok f=>exact wpAny_pure hr
 |error x=>exact hr.elim
end L2
namespace VL
open PySem PySem.Spec PyProof.Rows L2
inductive D where
 |non|bl (b:Bool)|int (i:Int)|str (x:Str)|tup (l:List D)|lst (l:List D)|dct (ks vs:List D)|set (l:List Int)|scr (l:List Int)|fn (x:Str)
instance:Inhabited D:=⟨.non⟩
def kD:Key->D
 | .inl i=>.int i
 | .inr x=>.str x
variable{K:PySem.W.Frag}
def qJ(K:PySem.W.Frag)(H:Hp)(a:Addr)(ns:List Int):Prop:=(∃o,H a=some (.frz o (.lst (ns.map V.int))))\/
 ∃(o:Obj) (its:Array Value) (n:Nat),K.lookup a=some o/\o.cls= .type "list"/\o.dict=none/\o.data= .seq its n/\its.size<=sizeLine/\Vals (ns.map V.int) its.toList
theorem qJ.sq(h:qJ K H a ns):SqL K H a (ns.map V.int):=by
 rcases h with h|h
 ·exact .inl (.inr h)
 ·exact .inr h
def hsh(ns:List Int):Int:=reduceHash (Builtin.Tuple.tupleHashOf (ns.map hashInt))
def dxO(a:Addr)(es:List (List Int×Addr×V)):HO:=.ext λ h=>es.length<=sizeLine/\(a==sysModules)=false/\∃(xs:List (List Int×Addr×Value)) (o:Obj) (ts:Array DictEntry) (ep:Nat),Paired (λ e x=>e.1=x.1/\e.2.1=x.2.1/\RelV e.2.2 x.2.2) es xs/\
 h.get? a=some o/\o.ExactDict/\o.data= .dict ts ep/\ts.toList=xs.map λ x=>⟨hsh x.1,.ref x.2.1,x.2.2⟩
structure DxK(K:PySem.W.Frag)(H:Hp)(a:Addr)(es:List (List Int×Addr×V)):Prop where
 at_:H a=some (dxO a es)
 ks:∀e∈es,SqT K H e.2.1 (e.1.map V.int)
 nd:(es.map (·.1)).Nodup
mutual
inductive Rp(K:PySem.W.Frag):(Addr->Prop)->Hp->V->D->Prop where
 |non {A:Addr->Prop} {H:Hp}:Rp K A H .non .non
 |bl {A:Addr->Prop} {H:Hp} (b:Bool):Rp K A H (.bl b) (.bl b)
 |int {A:Addr->Prop} {H:Hp} (i:Int):Rp K A H (.int i) (.int i)
 |str {A:Addr->Prop} {H:Hp} (x:Str):Rp K A H (.str x) (.str x)
 |tup {A:Addr->Prop} {H:Hp} {a:Addr} {xs:List V} {ds:List D} (h:SqT K H a xs) (r:Rps K A H xs ds):Rp K A H (.ref a) (.tup ds)
 |lst {A:Addr->Prop} {H:Hp} {a:Addr} {xs:List V} {ds:List D} (h:H a=some (.lst xs)) (m:A a) (r:Rps K (λ p=>A p/\p≠a) H xs ds):Rp K A H (.ref a) (.lst ds)
 |dK {A:Addr->Prop} {H:Hp} {a:Addr} {kvs:List (Key×V)} {ds:List D} (h:H a=some (.dK kvs)) (m:A a) (r:Rps K (λ p=>A p/\p≠a) H (kvs.map (·.2)) ds):Rp K A H (.ref a) (.dct (kvs.map λ p=>kD p.1) ds)
 |dT {A:Addr->Prop} {H:Hp} {a:Addr} {es:List (List Int×Addr×V)} {ds:List D} (h:DxK K H a es) (m:A a) (r:Rps K (λ p=>A p/\p≠a) H (es.map (·.2.2)) ds):Rp K A H (.ref a) (.dct (es.map λ e=>.tup (e.1.map .int)) ds)
 |set {A:Addr->Prop} {H:Hp} {a:Addr} {S:Int->Bool} {l:List Int} (h:H a=some (.set S l.length)) (m:A a) (hS:∀i,S i=decide (i∈l)) (nd:l.Nodup):Rp K A H (.ref a) (.set l)
 |scr {A:Addr->Prop} {H:Hp} {a:Addr} {ns:List Int} (h:qJ K H a ns):Rp K A H (.ref a) (.scr ns)
 |fn {A:Addr->Prop} {H:Hp} {a:Addr} {x:Str} (h:PySem.W.nsIn K mainGlobals x=some (some (.ref a))):Rp K A H (.ref a) (.fn x)
inductive Rps(K:PySem.W.Frag):(Addr->Prop)->Hp->List V->List D->Prop where
 |nil {A:Addr->Prop} {H:Hp}:Rps K A H [] []
 |cons {A:Addr->Prop} {H:Hp} {x:V} {d:D} {xs:List V} {ds:List D} (h:Rp K A H x d) (r:Rps K A H xs ds):Rps K A H (x::xs) (d::ds)
end
theorem qJ.mono(s:aV H H')(h:qJ K H a ns):qJ K H' a ns:=by
 rcases h with ⟨o,h⟩|h
 ·exact .inl ⟨o,s _ _ h⟩
 ·exact .inr h
theorem DxK.mono(h:DxK K H a es)(s:aV H H'):DxK K H' a es:=⟨s _ _ h.at_,λ e he=>s.sqt (h.ks e he),h.nd⟩
theorem Rp.mono'(s:aV H H')(r:Rp K A H x d)(hA:∀p o,H p=some o->A p->A' p):Rp K A' H' x d:=
 Rp.rec (motive_1:=λ A H x d _=>∀H',aV H H'->∀A':Addr->Prop,(∀p o,H p=some o->A p->A' p)->Rp K A' H' x d) (motive_2:=λ A H xs ds _=>∀H',aV H H'->∀A':Addr->Prop,(∀p o,H p=some o->A p->A' p)->Rps K A' H' xs ds)
  (λ _ _ _ _=>.non) (λ b _ _ _ _=>.bl b) (λ i _ _ _ _=>.int i) (λ x _ _ _ _=>.str x) (λ h _ ih _ s _ hA=>.tup (s.sqt h) (ih _ s _ hA))
  (λ h m _ ih _ s _ hA=>.lst (s _ _ h) (hA _ _ h m) (ih _ s _ λ p o e z=>⟨hA p o e z.1,z.2⟩)) (λ h m _ ih _ s _ hA=>.dK (s _ _ h) (hA _ _ h m) (ih _ s _ λ p o e z=>⟨hA p o e z.1,z.2⟩))
  (λ h m _ ih _ s _ hA=>.dT (h.mono s) (hA _ _ h.at_ m) (ih _ s _ λ p o e z=>⟨hA p o e z.1,z.2⟩)) (λ h m hS nd _ s _ hA=>.set (s _ _ h) (hA _ _ h m) hS nd) (λ h _ s _ _=>.scr (h.mono s)) (λ h _ _ _ _=>.fn h) (λ _ _ _ _=>.nil) (λ _ _ ih ir _ s _ hA=>.cons (ih _ s _ hA) (ir _ s _ hA)) r H' s A' hA
theorem Rps.mono'(s:aV H H')(r:Rps K A H xs ds)(hA:∀p o,H p=some o->A p->A' p):Rps K A' H' xs ds:=
 Rps.rec (motive_1:=λ A H x d _=>∀H',aV H H'->∀A':Addr->Prop,(∀p o,H p=some o->A p->A' p)->Rp K A' H' x d) (motive_2:=λ A H xs ds _=>∀H',aV H H'->∀A':Addr->Prop,(∀p o,H p=some o->A p->A' p)->Rps K A' H' xs ds)
  (λ _ _ _ _=>.non) (λ b _ _ _ _=>.bl b) (λ i _ _ _ _=>.int i) (λ x _ _ _ _=>.str x) (λ h _ ih _ s _ hA=>.tup (s.sqt h) (ih _ s _ hA))
  (λ h m _ ih _ s _ hA=>.lst (s _ _ h) (hA _ _ h m) (ih _ s _ λ p o e z=>⟨hA p o e z.1,z.2⟩)) (λ h m _ ih _ s _ hA=>.dK (s _ _ h) (hA _ _ h m) (ih _ s _ λ p o e z=>⟨hA p o e z.1,z.2⟩))
  (λ h m _ ih _ s _ hA=>.dT (h.mono s) (hA _ _ h.at_ m) (ih _ s _ λ p o e z=>⟨hA p o e z.1,z.2⟩)) (λ h m hS nd _ s _ hA=>.set (s _ _ h) (hA _ _ h m) hS nd) (λ h _ s _ _=>.scr (h.mono s)) (λ h _ _ _ _=>.fn h) (λ _ _ _ _=>.nil) (λ _ _ ih ir _ s _ hA=>.cons (ih _ s _ hA) (ir _ s _ hA)) r H' s A' hA
theorem Rp.mono(s:aV H H')(hA:∀p o,H p=some o->A p->A' p)(r:Rp K A H x d):Rp K A' H' x d:=r.mono' s hA
theorem Rps.mono(s:aV H H')(hA:∀p o,H p=some o->A p->A' p)(r:Rps K A H x d):Rps K A' H' x d:=r.mono' s hA
theorem Rp.up(s:aV H H')(r:Rp K A H x d):Rp K A H' x d:=r.mono s λ _ _ _ h=>h
theorem Rp.wk(hA:∀p o,H p=some o->A p->A' p)(r:Rp K A H x d):Rp K A' H x d:=r.mono (aV.refl H) hA
theorem Rps.up(s:aV H H')(r:Rps K A H x d):Rps K A H' x d:=r.mono s λ _ _ _ h=>h
theorem Rps.wk(hA:∀p o,H p=some o->A p->A' p)(r:Rps K A H x d):Rps K A' H x d:=r.mono (aV.refl H) hA
def kJ:HO->Bool
 | .lst _=>true| .dK _=>true| .dT _=>true| .set _ _=>true| .ext _=>true|_=>false
theorem za(s:mW l H H')(hl:H l=some o)(ho:kJ o=true)(h:SqT K H a xs):SqT K H' a xs:=by
 rcases h with (h|⟨u,h⟩)|h
 ·refine .inl (.inl (s _ _ (λ e=>?_) h))
  subst e;rw[hl]at h;cases h;cases ho
 ·refine .inl (.inr ⟨u,s _ _ (λ e=>?_) h⟩)
  subst e;rw[hl]at h;cases h;cases ho
 ·exact .inr h
theorem aDS(s:mW l H H')(hl:H l=some o)(ho:kJ o=true)(h:qJ K H a ns):qJ K H' a ns:=by
 rcases h with ⟨u,h⟩|h
 ·exact .inl ⟨u,s _ _ (λ e=>by subst e;rw[hl]at h;cases h;cases ho) h⟩
 ·exact .inr h
theorem DxK.but(h:DxK K H a es)(s:mW l H H')(hl:H l=some o)(ho:kJ o=true)(ne:a≠l):DxK K H' a es:=
 ⟨s _ _ ne h.at_,λ e he=>za s hl ho (h.ks e he),h.nd⟩
theorem Rp.but'(s:mW l H H')(hl:H l=some o)(ho:kJ o=true)(r:Rp K A H x d)(hA:¬A l):Rp K A H' x d:=
 Rp.rec (motive_1:=λ A H x d _=>∀H',mW l H H'->∀o:HO,H l=some o->kJ o=true->¬A l->Rp K A H' x d) (motive_2:=λ A H xs ds _=>∀H',mW l H H'->∀o:HO,H l=some o->kJ o=true->¬A l->Rps K A H' xs ds)
  (λ _ _ _ _ _ _=>.non) (λ b _ _ _ _ _ _=>.bl b) (λ i _ _ _ _ _ _=>.int i) (λ x _ _ _ _ _ _=>.str x) (λ h _ ih _ s o hl ho hA=>.tup (za s hl ho h) (ih _ s o hl ho hA))
  (λ h m _ ih _ s o hl ho hA=>.lst (s _ _ (λ e=>hA (e▸m)) h) m (ih _ s o hl ho λ z=>hA z.1)) (λ h m _ ih _ s o hl ho hA=>.dK (s _ _ (λ e=>hA (e▸m)) h) m (ih _ s o hl ho λ z=>hA z.1))
  (λ h m _ ih _ s o hl ho hA=>.dT (h.but s hl ho λ e=>hA (e▸m)) m (ih _ s o hl ho λ z=>hA z.1)) (λ h m hS nd _ s o hl ho hA=>.set (s _ _ (λ e=>hA (e▸m)) h) m hS nd) (λ h _ s o hl ho _=>.scr (aDS s hl ho h)) (λ h _ _ _ _ _ _=>.fn h) (λ _ _ _ _ _ _=>.nil) (λ _ _ ih ir _ s o hl ho hA=>.cons (ih _ s o hl ho hA) (ir _ s o hl ho hA)) r H' s o hl ho hA
theorem Rps.but'(s:mW l H H')(hl:H l=some o)(ho:kJ o=true)(r:Rps K A H xs ds)(hA:¬A l):Rps K A H' xs ds:=
 Rps.rec (motive_1:=λ A H x d _=>∀H',mW l H H'->∀o:HO,H l=some o->kJ o=true->¬A l->Rp K A H' x d) (motive_2:=λ A H xs ds _=>∀H',mW l H H'->∀o:HO,H l=some o->kJ o=true->¬A l->Rps K A H' xs ds)
  (λ _ _ _ _ _ _=>.non) (λ b _ _ _ _ _ _=>.bl b) (λ i _ _ _ _ _ _=>.int i) (λ x _ _ _ _ _ _=>.str x) (λ h _ ih _ s o hl ho hA=>.tup (za s hl ho h) (ih _ s o hl ho hA))
  (λ h m _ ih _ s o hl ho hA=>.lst (s _ _ (λ e=>hA (e▸m)) h) m (ih _ s o hl ho λ z=>hA z.1)) (λ h m _ ih _ s o hl ho hA=>.dK (s _ _ (λ e=>hA (e▸m)) h) m (ih _ s o hl ho λ z=>hA z.1))
  (λ h m _ ih _ s o hl ho hA=>.dT (h.but s hl ho λ e=>hA (e▸m)) m (ih _ s o hl ho λ z=>hA z.1)) (λ h m hS nd _ s o hl ho hA=>.set (s _ _ (λ e=>hA (e▸m)) h) m hS nd) (λ h _ s o hl ho _=>.scr (aDS s hl ho h)) (λ h _ _ _ _ _ _=>.fn h) (λ _ _ _ _ _ _=>.nil) (λ _ _ ih ir _ s o hl ho hA=>.cons (ih _ s o hl ho hA) (ir _ s o hl ho hA)) r H' s o hl ho hA
theorem Rp.but(s:mW l H H')(hl:H l=some o)(ho:kJ o=true)(hA:¬A l)(r:Rp K A H x d):Rp K A H' x d:=r.but' s hl ho hA
theorem Rps.but(s:mW l H H')(hl:H l=some o)(ho:kJ o=true)(hA:¬A l)(r:Rps K A H x d):Rps K A H' x d:=r.but' s hl ho hA
mutual
def imm:D->Bool
 | .tup l=>uw l
 | .lst _=>false
 | .dct _ _=>false
 | .set _=>false
 |_=>true
def uw:List D->Bool
 |[]=>true
 |d::r=>imm d&&uw r
end
theorem yx(e:uw (d::r)=true):imm d=true/\uw r=true:=by
 simp only[uw,Bool.and_eq_true]at e;exact e
theorem aIF(e:imm (.tup l)=true):uw l=true:=by simpa[imm]using e
theorem aIJ(e:imm (.lst l)=true):False:=by simp[imm]at e
theorem aDg(e:imm (.dct l k)=true):False:=by simp[imm]at e
theorem aIG(e:imm (.set l)=true):False:=by simp[imm]at e
theorem Rp.imm'(r:Rp K A H x d)(e:VL.imm d=true):Rp K A' H x d:=
 Rp.rec (motive_1:=λ _ H x d _=>VL.imm d=true->Rp K A' H x d) (motive_2:=λ _ H xs ds _=>uw ds=true->Rps K A' H xs ds)
  (λ _=>.non) (λ b _=>.bl b) (λ i _=>.int i) (λ x _=>.str x) (λ h _ ih e=>.tup h (ih (aIF e)))
  (λ _ _ _ _ e=>(aIJ e).elim) (λ _ _ _ _ e=>(aDg e).elim) (λ _ _ _ _ e=>(aDg e).elim) (λ _ _ _ _ e=>(aIG e).elim) (λ h _=>.scr h) (λ h _=>.fn h) (λ _=>.nil) (λ _ _ ih ir e=>.cons (ih (yx e).1) (ir (yx e).2)) r e
theorem Rp.imm(r:Rp K A H x d)(h:VL.imm d=true):Rp K A' H x d:=r.imm' h
theorem Rp.int_inv(r:Rp K A H v (.int i)):v= .int i:=by cases r;rfl
theorem Rp.bl_inv(r:Rp K A H v (.bl b)):v= .bl b:=by cases r;rfl
theorem Rp.tup_inv(r:Rp K A H v (.tup ds)):∃a xs,v= .ref a/\SqT K H a xs/\Rps K A H xs ds:=by cases r with|tup h r=>exact⟨_,_,rfl,h,r⟩
theorem Rp.lst_inv(r:Rp K A H v (.lst ds)):∃a xs,v= .ref a/\H a=some (.lst xs)/\A a/\Rps K (λ p=>A p/\p≠a) H xs ds:=by cases r with|lst h m r=>exact⟨_,_,rfl,h,m,r⟩
theorem Rp.scr_inv(r:Rp K A H v (.scr ns)):∃a,v= .ref a/\qJ K H a ns:=by cases r with|scr h=>exact⟨_,rfl,h⟩
theorem Rps.one_inv(r:Rps K A H vs [d]):∃v,vs=[v]/\Rp K A H v d:=by cases r with|cons h r=>cases r;exact⟨_,rfl,h⟩
section
variable{A:Addr->Prop}{H:Hp}
theorem Rps.length:∀{xs:List V} {ds:List D},Rps K A H xs ds->xs.length=ds.length:=by
 intro xs ds h;induction xs generalizing ds with
 |nil=>cases h;rfl
 |cons x xs ih=>cases h with|cons _ r=>exact congrArg (·+1) (ih r)
theorem Rps.get:∀{xs:List V} {ds:List D} {i:Nat} {x:V},Rps K A H xs ds->xs[i]? =some x->∃d,ds[i]? =some d/\Rp K A H x d
 |_,_,_,_,.nil,e=>by simp at e
 |_,_,0,_,.cons h _,e=>by simp at e;subst e;exact⟨_,rfl,h⟩
 |_,_,i+1,x,.cons _ r,e=>by
  obtain⟨d,h1,h2⟩:=Rps.get (i:=i) (x:=x) r (by simpa using e);exact⟨d,by simpa using h1,h2⟩
theorem Rps.getD:∀{xs:List V} {ds:List D} {i:Nat} {d:D},Rps K A H xs ds->ds[i]? =some d->∃x,xs[i]? =some x/\Rp K A H x d
 |_,_,_,_,.nil,e=>by simp at e
 |_,_,0,_,.cons h _,e=>by simp at e;subst e;exact⟨_,rfl,h⟩
 |_,_,i+1,d,.cons _ r,e=>by
  obtain⟨x,h1,h2⟩:=Rps.getD (i:=i) (d:=d) r (by simpa using e);exact⟨x,by simpa using h1,h2⟩
theorem Rps.append:∀{xs ys:List V} {ds es:List D},Rps K A H xs ds->Rps K A H ys es->Rps K A H (xs++ys) (ds++es):=by
 intro xs ys ds es h s;induction xs generalizing ds with
 |nil=>cases h;exact s
 |cons x xs ih=>cases h with|cons h r=>exact .cons h (ih r)
theorem Rps.take:∀{xs:List V} {ds:List D} (n:Nat),Rps K A H xs ds->Rps K A H (xs.take n) (ds.take n)
 |_,_,0,_=>.nil
 |_,_,_+1,.nil=>.nil
 |_,_,n+1,.cons h r=>.cons h (Rps.take n r)
theorem Rps.drop:∀{xs:List V} {ds:List D} (n:Nat),Rps K A H xs ds->Rps K A H (xs.drop n) (ds.drop n)
 |_,_,0,r=>r
 |_,_,_+1,.nil=>.nil
 |_,_,n+1,.cons _ r=>Rps.drop n r
theorem Rps.reverse:∀{xs:List V} {ds:List D},Rps K A H xs ds->Rps K A H xs.reverse ds.reverse:=by
 intro xs ds h;induction xs generalizing ds with
 |nil=>cases h;exact .nil
 |cons x xs ih=>
  cases h with
  |cons h r=>
   rw[List.reverse_cons,List.reverse_cons];exact Rps.append (ih r) (.cons h .nil)
theorem Rps.ints:∀{ns:List Int},Rps K A H (ns.map V.int) (ns.map D.int)
 |[]=>.nil
 |n::ns=>.cons (.int n) Rps.ints
theorem Rps.ints_of:∀{xs:List V} {ns:List Int},Rps K A H xs (ns.map D.int)->xs=ns.map V.int
 |_,[],.nil=>rfl
 |_,n::ns,.cons h r=>by
  cases h;rw[List.map_cons,Rps.ints_of r]
end
theorem aO(h:a=b):a=b:=h
inductive Rs(α:Type) where
 |ok (a:α)|ex (c:Str)|st
def Rs.bd{α β:Type}:Rs α->(α->Rs β)->Rs β
 | .ok a,f=>f a
 | .ex c,_=>.ex c
 | .st,_=>.st
@[simp] theorem bJ(a:α)(f:α->Rs β):(Rs.ok a).bd f=f a:=aO rfl
theorem cP{r:Rs α}(h:r.bd f= .ok b):∃a,r= .ok a/\f a= .ok b:=by
 cases r with
 |ok a=>exact⟨a,rfl,h⟩
 |ex c=>cases h
 |st=>cases h
inductive Slot where
 |no|sh (d:D)|nw (d:D)|ow (d:D)|oz (d:D)|o2 (l:List (List D))
abbrev En:=List Slot
abbrev Lab:=Addr->Nat×Nat
abbrev Mode:=Option (List Nat)
def inM(m:Mode)(n:Nat):Prop:=match m with
 |none=>True
 |some L=>n∈L
def jn:Mode->Mode->Mode
 |some a,some b=>some (a++b)
 |_,_=>none
theorem aL7(h:inM a n):inM (jn a b) n:=by
 cases a with
 |none=>cases b<;>exact trivial
 |some L=>
  cases b with
  |none=>exact trivial
  |some M=>exact List.mem_append_left _ h
theorem aL6(h:inM b n):inM (jn a b) n:=by
 cases a with
 |none=>cases b<;>exact trivial
 |some L=>
  cases b with
  |none=>exact trivial
  |some M=>exact List.mem_append_right _ h
def fpM(m:Mode)(lab:Lab)(H:Hp):Addr->Prop:=λ p=>H p=none\/inM m (lab p).1
theorem aG2(h:fpM a lab H p):fpM (jn a b) lab H p:=h.imp id aL7
theorem aG1(h:fpM b lab H p):fpM (jn a b) lab H p:=h.imp id aL6
theorem rZ(s:aV H H')(h:fpM m lab H' p):fpM m lab H p:=h.imp (λ z=>s.free z) id
structure Gx where
 H0:Hp
 E:XK
 cl:Str->Addr
def aFs:D->Bool
 | .lst _=>true
 | .dct _ _=>true
 | .set _=>true
 |_=>false
def gH(K:PySem.W.Frag)(H:Hp)(lab:Lab)(i:Nat)(v:V):Slot->Prop
 | .no=>True
 | .sh d=>Rp K (λ p=>(lab p).1<=1) H v d
 | .nw d=>Rp K (λ p=>(lab p).1=1) H v d
 | .ow d=>Rp K (λ p=>(lab p).1=1\/(lab p).1=i+2) H v d/\(aFs d=true->∃a,v= .ref a/\(lab a).1=i+2)
 | .oz d=>∃a xs ds,v= .ref a/\d= .lst ds/\H a=some (.lst xs)/\(lab a).1=i+2/\Rps K (λ p=>(lab p).1<=1) H xs ds
 | .o2 l=>∃a xs,v= .ref a/\H a=some (.lst xs)/\lab a=(i+2,0)/\xs.length=l.length/\∀(j:Nat) x ds,xs[j]? =some x->l[j]? =some ds->Rp K (λ p=>lab p=(i+2,j+1)) H x (.lst ds)
structure RR(K:PySem.W.Frag)(G:Gx)(τ:List (V×D))(ρ:En)(σ:L2.St)(H:Hp)(lab:Lab):Prop where
 len:σ.length=ρ.length
 sl:∀(i:Nat) (s:Slot),ρ[i]? =some s->s= .no\/∃v,σ[i]? =some (some v)/\gH K H lab i v s
 old:aV G.H0 H
 new:∀p,(lab p).1≠0->G.H0 p=none
 tm:∀q∈τ,Rp K (λ p=>(lab p).1<=1) H q.1 q.2
theorem gH.up(s:aV H H')(h:gH K H lab i v x):gH K H' lab i v x:=by
 cases x with
 |no=>exact trivial
 |sh d=>exact Rp.up s h
 |nw d=>exact Rp.up s h
 |ow d=>exact⟨Rp.up s h.1,h.2⟩
 |oz d=>
  obtain⟨a,xs,ds,e1,e2,e3,e4,e5⟩:=h;exact⟨a,xs,ds,e1,e2,s _ _ e3,e4,e5.up s⟩
 |o2 l=>
  obtain⟨a,xs,e1,e2,e3,e4,e5⟩:=h;exact⟨a,xs,e1,s _ _ e2,e3,e4,λ j x ds f1 f2=>(e5 j x ds f1 f2).up s⟩
theorem aJ0(r:Rp K A H (.ref a) d)(hm:aFs d=true):∃o,H a=some o/\kJ o=true/\A a:=by
 cases r with
 |lst h m _=>exact⟨_,h,rfl,m⟩
 |dK h m _=>exact⟨_,h,rfl,m⟩
 |dT h m _=>exact⟨_,h.at_,rfl,m⟩
 |set h m _ _=>exact⟨_,h,rfl,m⟩
 |tup _ _=>cases hm
 |scr _=>cases hm
 |fn _=>cases hm
theorem gH.lab{lab lab':Lab}(hl:∀p o,H p=some o->lab' p=lab p)(h:gH K H lab i v x):gH K H lab' i v x:=by
 cases x with
 |no=>exact trivial
 |sh d=>exact Rp.wk (λ p o e q=>(hl p o e).symm▸q) h
 |nw d=>exact Rp.wk (λ p o e q=>(hl p o e).symm▸q) h
 |ow d=>
  obtain⟨h,t⟩:=h;refine⟨Rp.wk (λ p o e q=>(hl p o e).symm▸q) h,λ m=>?_⟩;obtain⟨a,rfl,ea⟩:=t m;obtain⟨o,ho,_⟩:=aJ0 h m;exact⟨a,rfl,(congrArg (·.1) (hl a o ho)).trans ea⟩
 |oz d=>
  obtain⟨a,xs,ds,e1,e2,e3,e4,e5⟩:=h;exact⟨a,xs,ds,e1,e2,e3,(congrArg (·.1) (hl _ _ e3)).trans e4,Rps.wk (λ p o e q=>(hl p o e).symm▸q) e5⟩
 |o2 l=>
  obtain⟨a,xs,e1,e2,e3,e4,e5⟩:=h;exact⟨a,xs,e1,e2,(hl _ _ e2).trans e3,e4,λ j x ds f1 f2=>Rp.wk (λ p o e q=>(hl p o e).symm▸q) (e5 j x ds f1 f2)⟩
section
variable{G:Gx}{τ:List (V×D)}{ρ:En}{σ:L2.St}{H H':Hp}{lab lab':Lab}
theorem RR.up(R:RR K G τ ρ σ H lab)(s:aV H H'):RR K G τ ρ σ H' lab:=
 ⟨R.len,λ i x e=>(R.sl i x e).imp id λ⟨v,e1,e2⟩=>⟨v,e1,e2.up s⟩,R.old.trans s,R.new,λ q hq=>(R.tm q hq).up s⟩
theorem RR.relab(R:RR K G τ ρ σ H lab)(hl:∀p o,H p=some o->lab' p=lab p)(hn:∀p,(lab' p).1≠0->G.H0 p=none):RR K G τ ρ σ H lab':=
 ⟨R.len,λ i x e=>(R.sl i x e).imp id λ⟨v,e1,e2⟩=>⟨v,e1,e2.lab hl⟩,R.old,hn,λ q hq=>Rp.wk (λ p o e z=>by rw[hl p o e];exact z) (R.tm q hq)⟩
theorem RR.drop(R:RR K G (τ'++τ) ρ σ H lab):RR K G τ ρ σ H lab:=⟨R.len,R.sl,R.old,R.new,λ z hz=>R.tm z (List.mem_append_right _ hz)⟩
theorem RR.put(R:RR K G τ ρ σ H lab)(h:gH K H lab i v s):RR K G τ (ρ.set i s) (σ.set i (some v)) H lab:=by
 refine⟨by rw[List.length_set,List.length_set,R.len],λ j x e=>?_,R.old,R.new,R.tm⟩;by_cases hj:i=j
 ·subst hj
  have hi:i<ρ.length:=by
   have:=(List.getElem?_eq_some_iff.mp e).1
   rwa [List.length_set]at this
  rw[List.getElem?_set_self hi]at e;cases e;exact .inr ⟨v,by rw[List.getElem?_set_self (by rw[R.len];exact hi)],h⟩
 ·rw[List.getElem?_set_ne hj]at e
  rcases R.sl j x e with z|⟨u,e1,e2⟩
  ·exact .inl z
  ·exact .inr ⟨u,by rw[List.getElem?_set_ne hj];exact e1,e2⟩
def cJ(H:Hp)(n:Nat)(lab:Lab):Lab:=λ p=>match H p with
 |none=>(n,0)
 |some _=>lab p
theorem bc(h:H p=some o):cJ H n lab p=lab p:=by unfold cJ;rw[h]
theorem wI(h:H p=none):cJ H n lab p=(n,0):=by unfold cJ;rw[h]
theorem RR.fresh{P:Nat->Prop}(h1:P 1)(hm:∀k,inM m k->P k)(R:RR K G τ ρ σ H lab)(s:aV H H')(r:Rp K (fpM m lab H) H' v d):
  RR K G τ ρ σ H' (cJ H 1 lab)/\Rp K (λ p=>P (cJ H 1 lab p).1) H' v d:=by
 refine⟨(R.relab (λ p o e=>bc e) λ p hp=>?_).up s,Rp.wk (λ p o e z=>?_) r⟩
 ·cases e:H p with
  |none=>exact R.old.free e
  |some o=>rw[bc e]at hp;exact R.new p hp
 ·rcases z with z|z
  ·rw[wI z];exact h1
  ·cases e:H p with
   |none=>rw[wI e];exact h1
   |some o=>rw[bc e];exact hm _ z
theorem RR.freshO(i:Nat)(hm:∀k,inM m k->k=1\/k=i+2)(R:RR K G τ ρ σ H lab)(s:aV H H')(r:Rp K (fpM m lab H) H' v d)(ht:aFs d=true->∃a,v= .ref a/\H a=none):
  ∃lab',RR K G τ ρ σ H' lab'/\gH K H' lab' i v (.ow d):=by
 obtain⟨R',r'⟩:=R.fresh (P:=λ k=>k=1\/k=i+2) (.inl rfl) hm s r;cases hd:aFs d with
 |false=>exact⟨_,R',r',λ z=>absurd z (by simp[hd])⟩
 |true=>
  obtain⟨a,rfl,ha⟩:=ht hd;refine⟨λ p=>if p=a then(i+2,0)else cJ H 1 lab p,?_,Rp.wk (λ p o e z=>?_) r',λ _=>⟨a,rfl,by show(if a=a then((i+2,0):Nat×Nat)else cJ H 1 lab a).1=i+2;rw[if_pos rfl]⟩⟩
  ·refine(R.relab (lab':=λ p=>if p=a then(i+2,0)else cJ H 1 lab p) (λ p o e=>?_) λ p hp=>?_).up s
   ·rw[if_neg (λ z=>by subst z;rw[ha]at e;cases e),bc e]
   ·by_cases z:p=a
    ·subst z;exact R.old.free ha
    ·rw[if_neg z]at hp;exact R'.new p hp
  ·dsimp only
   by_cases q:p=a
   ·rw[if_pos q];exact .inr rfl
   ·rw[if_neg q];exact z
theorem aIt(h:gH K H lab i v (.oz d)):Rp K (λ p=>(lab p).1<=1\/(lab p).1=i+2) H v d:=by
 obtain⟨a,xs,ds,rfl,rfl,h1,h2,h3⟩:=h;exact .lst h1 (.inr h2) (h3.wk λ p o e z=>⟨.inl z,λ q=>by subst q;lia⟩)
end
structure Ct where
 ι:Type
 X:ι->Cx
 prog:Program
 w:World
 K:PySem.W.Frag
 mg:Str->Option Value
 base:Heap
 k:Nat
 G:Gx
 cx:∀i,(X i).prog=prog/\(X i).w=w/\(X i).K=K/\(X i).mg=mg/\(X i).base=base
 calm:∀i,(X i).calm=true
 room:∀i,fY k (X i).A
 own:∀i,PassesOwn (model (X i).prog (X i).w) (X i).A (X i).env (X i).xe
 pass:∀i,qu (CX1 (X i).prog (X i).w) (X i) G.E
 dOk:Bool
 dcx:dOk=true->∀i,eQ (X i) G.E
theorem Ct.hK(C:Ct)(i:C.ι):(C.X i).K=C.K:=(C.cx i).2.2.1
def WR{α:Type}(G:Gx)(r:Rs α)(P:α->Prop):Prop:=match r with
 | .ok a=>P a
 | .ex c=>∀H',aV G.H0 H'->G.E (.ref (G.cl c)) none H'
 | .st=>False
theorem WR.bd(h:WR G (r.bd k) P):WR G r (λ a=>WR G (k a) P):=by
 cases r with
 |ok a=>exact h
 |ex c=>exact h
 |st=>exact h
theorem WR.imp(h:WR G r P)(f:∀a,r= .ok a->P a->P' a):WR G r P':=by
 cases r with
 |ok a=>exact f a rfl h
 |ex c=>exact h
 |st=>exact h
abbrev QE(K:PySem.W.Frag)(m:Mode)(lab:Lab)(H:Hp)(Q:VK):D->Prop:=λ d=>∀v H',aV H H'->Rp K (fpM m lab H) H' v d->Q v H'
abbrev QA(K:PySem.W.Frag)(m:Mode)(lab:Lab)(H:Hp)(Q:List V->Hp->Prop):List D->Prop:=λ ds=>∀vs H',aV H H'->Rps K (fpM m lab H) H' vs ds->Q vs H'
abbrev QT(H:Hp)(Q:Bool->Hp->Prop):Bool->Prop:=λ b=>∀H',aV H H'->Q b H'
def lA(K:PySem.W.Frag)(G:Gx)(m:Mode)(t:TE)(f:En->Rs D):Prop:=∀τ σ H ρ lab (Q:VK),RR K G τ ρ σ H lab->WR G (f ρ) (QE K m lab H Q)->t σ H Q
def aI8(K:PySem.W.Frag)(G:Gx)(m:Mode)(t:TA)(f:En->Rs (List D)):Prop:=∀τ σ H ρ lab (Q:List V->Hp->Prop),RR K G τ ρ σ H lab->WR G (f ρ) (QA K m lab H Q)->t σ H Q
def aBs(K:PySem.W.Frag)(G:Gx)(t:TT)(f:En->Rs Bool):Prop:=∀τ σ H ρ lab (Q:Bool->Hp->Prop),RR K G τ ρ σ H lab->WR G (f ρ) (QT H Q)->t σ H Q
def SE(C:Ct)(m:Mode)(e:Expr)(f:En->Rs D):Prop:=∃t,(∀i,PE (C.X i) e t)/\lA C.K C.G m t f
def SA(C:Ct)(m:Mode)(es:List Expr)(f:En->Rs (List D)):Prop:=∃t,(∀i,PA (C.X i) es t)/\aI8 C.K C.G m t f
def ST(C:Ct)(e:Expr)(f:En->Rs Bool):Prop:=∃t,(∀i,PT (C.X i) e t)/\aBs C.K C.G t f
def SW(C:Ct)(e:Expr)(f:En->Rs Bool):Prop:=∃t,(∀i,PW (C.X i) e t)/\aBs C.K C.G t f
theorem SW.st(h:SW C e f):ST C e f:=let⟨t,h1,h2⟩:=h;⟨t,λ i=>(h1 i).pt,h2⟩
def vU(i:Nat):En->Rs D:=λ ρ=>match ρ[i]? with
 |some (.sh d)=>.ok d
 |some (.nw d)=>.ok d
 |some (.ow d)=>.ok d
 |some (.oz d)=>.ok d
 |some (.o2 l)=>.ok (.lst (l.map .lst))
 |_=>.st
def aD(i:Nat):En->Rs D:=λ ρ=>match ρ[i]? with
 |some (.sh d)=>.ok d
 |some (.nw d)=>.ok d
 |_=>.st
def iB(i:Nat):En->Rs D:=λ ρ=>match ρ[i]? with
 |some (.nw d)=>.ok d
 |_=>.st
def j9(i:Nat):En->Rs D:=λ ρ=>match ρ[i]? with
 |some (.ow d)=>.ok d
 |some (.o2 l)=>.ok (.lst (l.map .lst))
 |_=>.st
def cD(d:D):En->Rs D:=λ _=>.ok d
theorem aD3{K:PySem.W.Frag}{H:Hp}{lab:Lab}{i:Nat}{v:V}{l:List (List D)}(h:gH K H lab i v (.o2 l)):Rp K (λ p=>(lab p).1=i+2) H v (.lst (l.map .lst)):=by
 obtain⟨a,xs,rfl,ha,hla,hlen,hin⟩:=h;refine .lst ha (by rw[hla]) ?_;have go:∀(xs:List V) (l:List (List D)) (n:Nat),xs.length=l.length->0<n->(∀(j:Nat) x ds,xs[j]? =some x->l[j]? =some ds->Rp K (λ p=>lab p=(i+2,n+j)) H x (.lst ds))->Rps K (λ p=>(lab p).1=i+2/\p≠a) H xs (l.map .lst):=by
  intro xs;induction xs with
  |nil=>intro l n hl _ _;cases l with|nil=>exact .nil|cons _ _=>simp at hl
  |cons x xs ih=>
   intro l n hl hn h;cases l with
   |nil=>simp at hl
   |cons ds l=>
    refine .cons (Rp.wk (λ p o e z=>⟨by rw[z],λ e=>by rw[e,hla]at z;have z2:(0:Nat)=n+0:=congrArg Prod.snd z;lia⟩) (h 0 x ds rfl rfl)) (ih l (n+1) (by simpa using hl) (by lia) λ j y es e1 e2=>?_);have z:=h (j+1) y es (by simpa using e1) (by simpa using e2);rw[show n+1+j=n+(j+1)by lia];exact z
 exact go xs l 1 hlen (by lia) λ j x ds e1 e2=>by have z:=hin j x ds e1 e2;rw[show 1+j=j+1 by lia];exact z
section
variable{C:Ct}{pos:Pos}
theorem aHK(K:PySem.W.Frag)(G:Gx)(i:Nat):lA K G (some [0,1,i+2]) (n8 i) (vU i):=by
 intro τ σ H ρ lab Q R W;unfold vU at W;cases e:ρ[i]? with
 |none=>rw[e]at W;exact W.elim
 |some s=>
  rw[e]at W;rcases R.sl i s e with rfl|⟨v,ev,hv⟩
  ·exact False.elim W
  ·cases s with
   |no=>exact False.elim W
   |sh d=>exact⟨v,ev,W v H (aV.refl H) (Rp.wk (λ p o e z=>.inr (by show(lab p).1∈[0,1,i+2];rcases(show(lab p).1=0\/(lab p).1=1 by lia)with q|q<;>rw[q]<;>simp)) hv)⟩
   |nw d=>exact⟨v,ev,W v H (aV.refl H) (Rp.wk (λ p o e z=>.inr (by show(lab p).1∈[0,1,i+2];rw[z];simp)) hv)⟩
   |ow d=>exact⟨v,ev,W v H (aV.refl H) (Rp.wk (λ p o e z=>.inr (by show(lab p).1∈[0,1,i+2];rcases z with q|q<;>rw[q]<;>simp)) hv.1)⟩
   |oz d=>exact⟨v,ev,W v H (aV.refl H) (Rp.wk (λ p o e z=>.inr (by show(lab p).1∈[0,1,i+2];rcases(show(lab p).1=0\/(lab p).1=1\/(lab p).1=i+2 by lia)with q|q|q<;>rw[q]<;>simp)) (aIt hv))⟩
   |o2 l=>exact⟨v,ev,W v H (aV.refl H) (Rp.wk (λ p o e z=>.inr (by show(lab p).1∈[0,1,i+2];rw[z];simp)) (aD3 hv))⟩
theorem aFD(K:PySem.W.Frag)(G:Gx)(i:Nat):lA K G (some [0,1]) (n8 i) (aD i):=by
 intro τ σ H ρ lab Q R W;unfold aD at W;cases e:ρ[i]? with
 |none=>rw[e]at W;exact W.elim
 |some s=>
  rw[e]at W;rcases R.sl i s e with rfl|⟨v,ev,hv⟩
  ·exact False.elim W
  ·cases s with
   |sh d=>exact⟨v,ev,W v H (aV.refl H) (Rp.wk (λ p o e z=>.inr (by show(lab p).1∈[0,1];rcases(show(lab p).1=0\/(lab p).1=1 by lia)with q|q<;>rw[q]<;>simp)) hv)⟩
   |nw d=>exact⟨v,ev,W v H (aV.refl H) (Rp.wk (λ p o e z=>.inr (by show(lab p).1∈[0,1];rw[z];simp)) hv)⟩
   |_=>exact False.elim W
theorem aFF(K:PySem.W.Frag)(G:Gx)(i:Nat):lA K G (some [1]) (n8 i) (iB i):=by
 intro τ σ H ρ lab Q R W;unfold iB at W;cases e:ρ[i]? with
 |none=>rw[e]at W;exact W.elim
 |some s=>
  rw[e]at W;rcases R.sl i s e with rfl|⟨v,ev,hv⟩
  ·exact False.elim W
  ·cases s with
   |nw d=>exact⟨v,ev,W v H (aV.refl H) (Rp.wk (λ p o e z=>.inr (by show(lab p).1∈[1];rw[z];simp)) hv)⟩
   |_=>exact False.elim W
theorem aFE(K:PySem.W.Frag)(G:Gx)(i:Nat):lA K G (some [1,i+2]) (n8 i) (j9 i):=by
 intro τ σ H ρ lab Q R W;unfold j9 at W;cases e:ρ[i]? with
 |none=>rw[e]at W;exact W.elim
 |some s=>
  rw[e]at W;rcases R.sl i s e with rfl|⟨v,ev,hv⟩
  ·exact False.elim W
  ·cases s with
   |ow d=>exact⟨v,ev,W v H (aV.refl H) (Rp.wk (λ p o e z=>.inr (by show(lab p).1∈[1,i+2];rcases z with q|q<;>rw[q]<;>simp)) hv.1)⟩
   |o2 l=>exact⟨v,ev,W v H (aV.refl H) (Rp.wk (λ p o e z=>.inr (by show(lab p).1∈[1,i+2];rw[z];simp)) (aD3 hv))⟩
   |_=>exact False.elim W
theorem aFJ(i:Nat)(hN:∀j,(C.X j).N[i]? =some x:=by intro _;rfl)(hv:∀j,Vis (C.X j).env.scope x:=by intro _;first|exact Or.inl rfl|exact Or.inr (Or.inl rfl)|exact Or.inr (Or.inr rfl))(hd:(x==("__debug__":Str))=false:=by decide)
  (hcd:(x==("__classdict__":Str))=false:=by decide):SE C (some [0,1,i+2]) (.Name x pos) (vU i):=⟨_,λ j=>iK (hN j) (hv j) hd hcd,aHK _ _ i⟩
theorem aC(i:Nat)(hN:∀j,(C.X j).N[i]? =some x:=by intro _;rfl)(hv:∀j,Vis (C.X j).env.scope x:=by intro _;first|exact Or.inl rfl|exact Or.inr (Or.inl rfl)|exact Or.inr (Or.inr rfl))(hd:(x==("__debug__":Str))=false:=by decide)
  (hcd:(x==("__classdict__":Str))=false:=by decide):SE C (some [0,1]) (.Name x pos) (aD i):=⟨_,λ j=>iK (hN j) (hv j) hd hcd,aFD _ _ i⟩
theorem iJ(i:Nat)(hN:∀j,(C.X j).N[i]? =some x:=by intro _;rfl)(hv:∀j,Vis (C.X j).env.scope x:=by intro _;first|exact Or.inl rfl|exact Or.inr (Or.inl rfl)|exact Or.inr (Or.inr rfl))(hd:(x==("__debug__":Str))=false:=by decide)
  (hcd:(x==("__classdict__":Str))=false:=by decide):SE C (some [1]) (.Name x pos) (iB i):=⟨_,λ j=>iK (hN j) (hv j) hd hcd,aFF _ _ i⟩
theorem m8(i:Nat)(hN:∀j,(C.X j).N[i]? =some x:=by intro _;rfl)(hv:∀j,Vis (C.X j).env.scope x:=by intro _;first|exact Or.inl rfl|exact Or.inr (Or.inl rfl)|exact Or.inr (Or.inr rfl))(hd:(x==("__debug__":Str))=false:=by decide)
  (hcd:(x==("__classdict__":Str))=false:=by decide):SE C (some [1,i+2]) (.Name x pos) (j9 i):=⟨_,λ j=>iK (hN j) (hv j) hd hcd,aFE _ _ i⟩
theorem aK:SE C (some []) (.Constant (.int i) j pos) (cD (.int i)):=⟨_,λ _=>aC2,λ τ σ H ρ lab Q R W=>W _ H (aV.refl H) (.int i)⟩
theorem dm:SE C (some []) (.Constant (.bool b) j pos) (cD (.bl b)):=⟨_,λ _=>aFh,λ τ σ H ρ lab Q R W=>W _ H (aV.refl H) (.bl b)⟩
theorem zq:SE C (some []) (.Constant .none j pos) (cD .non):=⟨_,λ _=>aJh,λ τ σ H ρ lab Q R W=>W _ H (aV.refl H) .non⟩
theorem sr:SE C (some []) (.Constant (.str x) j pos) (cD (.str x)):=⟨_,λ _=>gF,λ τ σ H ρ lab Q R W=>W _ H (aV.refl H) (.str x)⟩
theorem vI(hm:C.mg x=some u)(r:RelV v u)(hd:∀A H,Rp C.K A H v d)(hdb:(x==("__debug__":Str))=false:=by decide)(hg:∀i,Gl (C.X i) x:=by intro _;rfl):SE C (some []) (.Name x pos) (cD d):=
 ⟨_,λ i=>fJ (hg i) (by rw[(C.cx i).2.2.2.1];exact hm) r hdb,λ τ σ H ρ lab Q R W=>W _ H (aV.refl H) (hd _ _)⟩
def rY(d:D):Rs D:=if imm d=true then .ok d else .st
def aq(f:En->Rs D):En->Rs D:=λ ρ=>(f ρ).bd rY
theorem bI(h:SE C m e f):SE C (some []) e (aq f):=by
 obtain⟨t,h1,h2⟩:=h;refine⟨t,h1,λ τ σ H ρ lab Q R W=>h2 τ σ H ρ lab Q R (W.bd.imp λ d _ w v H' s r=>?_)⟩;unfold rY at w;by_cases hd:imm d=true
 ·rw[if_pos hd]at w
  exact w v H' s (r.imm hd)
 ·rw[if_neg hd]at w
  exact False.elim w
def aF:En->Rs (List D):=λ _=>.ok []
def aA(f:En->Rs D)(g:En->Rs (List D)):En->Rs (List D):=λ ρ=>(f ρ).bd λ d=>(g ρ).bd λ ds=>.ok (d::ds)
variable{m m1 m2:Mode}{e a b:Expr}{es:List Expr}{f fa fb:En->Rs D}{g:En->Rs (List D)}
theorem aG:SA C (some []) [] aF:=⟨_,λ _=>dU,λ τ σ H ρ lab Q R W=>W _ H (aV.refl H) .nil⟩
theorem aB(h:SE C m1 e f)(hr:SA C m2 es g)(hs:∀i,starEach (e::es) (C.X i).env=(false,eval e (C.X i).env)::starEach es (C.X i).env:=by intro _;rfl):SA C (jn m1 m2) (e::es) (aA f g):=by
 obtain⟨t,h1,h2⟩:=h;obtain⟨u,k1,k2⟩:=hr;refine⟨_,λ i=>az (h1 i) (k1 i) (hs i),λ τ σ H ρ lab Q R W=>?_⟩;refine h2 τ σ H ρ lab _ R (W.bd.imp λ d _ w x H1 s1 r1=>?_);refine k2 τ σ H1 ρ lab _ (R.up s1) (w.bd.imp λ ds _ w xs H2 s2 r2=>?_);exact w (x::xs) H2 (s1.trans s2) (.cons (r1.mono s2 λ p o _ z=>aG2 z) (r2.wk λ p o _ z=>aG1 (rZ s1 z)))
def bH(g:En->Rs (List D)):En->Rs D:=λ ρ=>(g ρ).bd λ ds=>if ds.length<=sizeLine then .ok (.tup ds)else .st
def dJ(g:En->Rs (List D)):En->Rs D:=λ ρ=>(g ρ).bd λ ds=>if ds.length<=sizeLine then .ok (.lst ds)else .st
theorem bN{x1}(h:SA C m es g):SE C m (.Tuple es x1 pos) (bH g):=by
 obtain⟨t,h1,h2⟩:=h;refine⟨_,λ i=>aH7 (h1 i),λ τ σ H ρ lab Q R W=>h2 τ σ H ρ lab _ R (W.bd.imp λ ds _ w xs H1 s1 r1=>?_)⟩;by_cases hz:ds.length<=sizeLine
 ·rw[if_pos hz]at w
  exact⟨by rw[r1.length];exact hz,λ p H' s hp _=>w _ H' (s1.trans s) (.tup (SqT.of hp) (r1.up s))⟩
 ·rw[if_neg hz]at w
  exact False.elim w
theorem jV(h:SA C m es g):SE C m (.List es pos) (dJ g):=by
 obtain⟨t,h1,h2⟩:=h;refine⟨_,λ i=>nF (h1 i),λ τ σ H ρ lab Q R W=>h2 τ σ H ρ lab _ R (W.bd.imp λ ds _ w xs H1 s1 r1=>?_)⟩;by_cases hz:ds.length<=sizeLine
 ·rw[if_pos hz]at w
  exact⟨by rw[r1.length];exact hz,λ p H' s hp hn=>w _ H' (s1.trans s) (.lst hp (.inl (s1.free hn)) ((r1.wk λ q o e z=>⟨z,λ e'=>by subst e';rw[hn]at e;cases e⟩).up s))⟩
 ·rw[if_neg hz]at w
  exact False.elim w
def aKw(H:Hp)(v:V)(d:D):Prop:=aFs d=true->∃a,v= .ref a/\H a=none
def aLj(K:PySem.W.Frag)(G:Gx)(m:Mode)(t:TE)(f:En->Rs D):Prop:=∀τ σ H ρ lab (Q:VK),RR K G τ ρ σ H lab->WR G (f ρ) (λ d=>∀v H',aV H H'->Rp K (fpM m lab H) H' v d->aKw H v d->Q v H')->t σ H Q
def SF(C:Ct)(m:Mode)(e:Expr)(f:En->Rs D):Prop:=∃t,(∀i,PE (C.X i) e t)/\aLj C.K C.G m t f
theorem vd(h:SA C m es g):SF C m (.List es pos) (dJ g):=by
 obtain⟨t,h1,h2⟩:=h;refine⟨_,λ i=>nF (h1 i),λ τ σ H ρ lab Q R W=>h2 τ σ H ρ lab _ R (W.bd.imp λ ds _ w xs H1 s1 r1=>?_)⟩;by_cases hz:ds.length<=sizeLine
 ·rw[if_pos hz]at w
  exact⟨by rw[r1.length];exact hz,λ p H' s hp hn=>w _ H' (s1.trans s) (.lst hp (.inl (s1.free hn)) ((r1.wk λ q o e z=>⟨z,λ e'=>by subst e';rw[hn]at e;cases e⟩).up s)) λ _=>⟨p,rfl,s1.free hn⟩⟩
 ·rw[if_neg hz]at w
  exact False.elim w
def OpS(K:PySem.W.Frag)(r:R2)(fd:D->D->Rs D):Prop:=∀(A:Addr->Prop) x y d e H (Q:VK) z,Rp K A H x d->Rp K A H y e->fd d e= .ok z->(∀v H',aV H H'->Rp K (λ p=>H p=none\/A p) H' v z->Q v H')->r x y H Q
def UnS(K:PySem.W.Frag)(r:V->Hp->VK->Prop)(fd:D->Rs D):Prop:=∀(A:Addr->Prop) x d H (Q:VK) z,Rp K A H x d->fd d= .ok z->(∀v H',aV H H'->Rp K (λ p=>H p=none\/A p) H' v z->Q v H')->r x H Q
def qK(K:PySem.W.Frag)(r:List V->Hp->VK->Prop)(fd:List D->Rs D):Prop:=∀(A:Addr->Prop) xs ds H (Q:VK) z,Rps K A H xs ds->fd ds= .ok z->(∀v H',aV H H'->Rp K (λ p=>H p=none\/A p) H' v z->Q v H')->r xs H Q
def okD(r:Rs D):Rs D:=match r with
 | .ok d=>.ok d
 |_=>.st
def op2(fd:D->D->Rs D)(fa fb:En->Rs D):En->Rs D:=λ ρ=>(fa ρ).bd λ x=>(fb ρ).bd λ y=>okD (fd x y)
def op1(fd:D->Rs D)(fa:En->Rs D):En->Rs D:=λ ρ=>(fa ρ).bd λ x=>okD (fd x)
def opA(fd:List D->Rs D)(fa:En->Rs (List D)):En->Rs D:=λ ρ=>(fa ρ).bd λ x=>okD (fd x)
theorem WR.okD(h:WR G (okD r) P):∃z,r= .ok z/\P z:=by
 cases r with
 |ok z=>exact⟨z,rfl,h⟩
 |ex c=>exact False.elim h
 |st=>exact False.elim h
theorem zf{K:PySem.W.Frag}{G:Gx}{r:R2}{ta tb:TE}{fd:D->D->Rs D}(hs:OpS K r fd)(h1:lA K G m1 ta fa)(h2:lA K G m2 tb fb):lA K G (jn m1 m2) (tOp r ta tb) (op2 fd fa fb):=by
 intro τ σ H ρ lab Q R W;refine h1 τ σ H ρ lab _ R (W.bd.imp λ d _ w x H1 s1 r1=>?_);refine h2 τ σ H1 ρ lab _ (R.up s1) (w.bd.imp λ e _ w y H2 s2 r2=>?_);obtain⟨z,ez,w⟩:=w.okD;refine hs (fpM (jn m1 m2) lab H) x y d e H2 Q z (r1.mono s2 λ p o _ q=>aG2 q) (r2.wk λ p o _ q=>aG1 (rZ s1 q)) ez λ v H' s r=>w v H' ((s1.trans s2).trans s) (r.wk λ p o _ q=>?_)
 rcases q with q|q
 ·exact .inl ((s1.trans s2).free q)
 ·exact q
theorem aHL{K:PySem.W.Frag}{G:Gx}{r:V->Hp->VK->Prop}{ta:TE}{fd:D->Rs D}(hs:UnS K r fd)(h1:lA K G m ta fa):lA K G m (tUn r ta) (op1 fd fa):=by
 intro τ σ H ρ lab Q R W;refine h1 τ σ H ρ lab _ R (W.bd.imp λ d _ w x H1 s1 r1=>?_);obtain⟨z,ez,w⟩:=w.okD;refine hs (fpM m lab H) x d H1 Q z r1 ez λ v H' s r=>w v H' (s1.trans s) (r.wk λ p o _ q=>?_)
 rcases q with q|q
 ·exact .inl (s1.free q)
 ·exact q
theorem aDN{K:PySem.W.Frag}{G:Gx}{r:List V->Hp->VK->Prop}{ta:TA}{fd:List D->Rs D}(hs:qK K r fd)(h1:aI8 K G m ta g):lA K G m (tCB r ta) (opA fd g):=by
 intro τ σ H ρ lab Q R W;refine h1 τ σ H ρ lab _ R (W.bd.imp λ d _ w x H1 s1 r1=>?_);obtain⟨z,ez,w⟩:=w.okD;refine hs (fpM m lab H) x d H1 Q z r1 ez λ v H' s r=>w v H' (s1.trans s) (r.wk λ p o _ q=>?_)
 rcases q with q|q
 ·exact .inl (s1.free q)
 ·exact q
theorem gQ(h:SE C m e f)(hi:∀ρ d,f ρ= .ok d->imm d=true):SE C (some []) e f:=by
 obtain⟨t,h1,h2⟩:=h;exact⟨t,h1,λ τ σ H ρ lab Q R W=>h2 τ σ H ρ lab Q R (W.imp λ d ed w v H' s r=>w v H' s (r.imm (hi ρ d ed)))⟩
theorem lH(h:∀x y z,fd x y= .ok z->imm z=true)(e:op2 fd fa fb ρ= .ok d):imm d=true:=by
 obtain⟨x,_,e⟩:=cP e;obtain⟨y,_,e⟩:=cP e;unfold okD at e;split at e
 ·rename_i z hz
  cases e;exact h x y _ hz
 ·cases e
theorem aIH(h:∀x z,fd x= .ok z->imm z=true)(e:op1 fd fa ρ= .ok d):imm d=true:=by
 obtain⟨x,_,e⟩:=cP e;unfold okD at e;split at e
 ·rename_i z hz
  cases e;exact h x _ hz
 ·cases e
theorem pJ(h:∀x z,fd x= .ok z->imm z=true)(e:opA fd g ρ= .ok d):imm d=true:=by
 obtain⟨x,_,e⟩:=cP e;unfold okD at e;split at e
 ·rename_i z hz
  cases e;exact h x _ hz
 ·cases e
theorem yo(ro:∀i,OpR (C.X i) (binaryOp op) r)(hs:OpS C.K r fd)(ha:SE C m1 a fa)(hb:SE C m2 b fb):SE C (jn m1 m2) (.BinOp a op b pos) (op2 fd fa fb):=by
 obtain⟨t,h1,h2⟩:=ha;obtain⟨u,k1,k2⟩:=hb;exact⟨_,λ i=>aDW (ro i) (h1 i) (k1 i),zf hs h2 k2⟩
theorem aLK(ro:∀i,UnR (C.X i) (unaryOp op) r)(hs:UnS C.K r fd)(ha:SE C m a fa):SE C m (.UnaryOp op a pos) (op1 fd fa):=by
 obtain⟨t,h1,h2⟩:=ha;exact⟨_,λ i=>aIs (ro i) (h1 i),aHL hs h2⟩
theorem zr(ro:∀i,OpR (C.X i) (compareOp op) r)(hs:OpS C.K r fd)(ha:SE C m1 a fa)(hb:SE C m2 b fb)(hm:behindInMarks op b=false:=by first|exact aFp _|(with_unfolding_all rfl)):
  SE C (jn m1 m2) (.Compare a [op] [b] pos) (op2 fd fa fb):=by
 obtain⟨t,h1,h2⟩:=ha;obtain⟨u,k1,k2⟩:=hb;exact⟨_,λ i=>aH9 (ro i) (h1 i) (k1 i) hm,zf hs h2 k2⟩
variable{p:Pos}{x:Str}{id T:String}
theorem lW(ro:∀i,dG (C.X i) (.builtin id) r)(hs:qK C.K r fd)(hg:∀i,Gl (C.X i) x)(hm:C.mg x=none)(hv:bootBuiltins x=some (.builtin id))(ha:SA C m (e::es) g)
  (hn:x≠"__name__":=by decide)(hdb:(x==("__debug__":Str))=false:=by decide)(he:∀i,starEach (e::es) (C.X i).env=(false,eval e (C.X i).env)::starEach es (C.X i).env:=by intro _;rfl)
  (hpl:∀i,(backTo pos (starEach es (C.X i).env)).any (·.1)=false:=by intro _;rfl):SE C m (.Call (.Name x p) (e::es) [] pos) (opA fd g):=by
 obtain⟨t,h1,h2⟩:=ha;exact⟨_,λ i=>rJ (ro i) (hg i) (by rw[(C.cx i).2.2.2.1];exact hm) hv (h1 i) hn hdb (he i) (hpl i),aDN hs h2⟩
theorem aBE(ro:∀i,dG (C.X i) (.type T) r)(hs:qK C.K r fd)(hg:∀i,Gl (C.X i) x)(hm:C.mg x=none)(hv:bootBuiltins x=some (.type T))(ha:SA C m (e::es) g)
  (hn:x≠"__name__":=by decide)(hdb:(x==("__debug__":Str))=false:=by decide)(he:∀i,starEach (e::es) (C.X i).env=(false,eval e (C.X i).env)::starEach es (C.X i).env:=by intro _;rfl)
  (hpl:∀i,(backTo pos (starEach es (C.X i).env)).any (·.1)=false:=by intro _;rfl):SE C m (.Call (.Name x p) (e::es) [] pos) (opA fd g):=by
 obtain⟨t,h1,h2⟩:=ha;exact⟨_,λ i=>pC (ro i) (hg i) (by rw[(C.cx i).2.2.2.1];exact hm) hv (h1 i) hn hdb (he i) (hpl i),aDN hs h2⟩
def qt(f g:En->Rs D):En->Rs D:=λ ρ=>(f ρ).bd λ d=>match d with
 | .bl true=>g ρ
 | .bl false=>.ok (.bl false)
 |_=>.st
def aKL:D->Rs D
 | .bl b=>.ok (.bl (!b))
 |_=>.st
variable{rest:List Expr}
theorem qQ{op}(h:SE C m a fa):SE C m (.BoolOp op [a] pos) fa:=by
 obtain⟨t,h1,h2⟩:=h;exact⟨_,λ i=>aJf (h1 i),h2⟩
theorem m9(ha:SE C m1 a fa)(hb:SE C m2 (.BoolOp .And (b::rest) pos) fb):SE C m2 (.BoolOp .And (a::b::rest) pos) (qt fa fb):=by
 obtain⟨t,h1,h2⟩:=ha;obtain⟨u,k1,k2⟩:=hb;refine⟨_,λ i=>aJk (h1 i) (k1 i),λ τ σ H ρ lab Q R W=>h2 τ σ H ρ lab _ R (W.bd.imp λ d _ w x H1 s1 r1=>?_)⟩;cases r1 with
 |bl c=>
  refine⟨c,rfl,?_⟩;cases c with
  |true=>
   rw[if_pos rfl];exact k2 τ σ H1 ρ lab Q (R.up s1) (w.imp λ z _ w v H' s r=>w v H' (s1.trans s) (r.wk λ p o _ q=>rZ s1 q))
  |false=>
   rw[if_neg Bool.false_ne_true];exact w _ H1 s1 (.bl false)
 |_=>exact False.elim w
theorem aJW(ha:SE C m a fa):SE C (some []) (.UnaryOp .Not a pos) (op1 aKL fa):=by
 obtain⟨t,h1,h2⟩:=ha;refine⟨_,λ i=>aJg (h1 i),λ τ σ H ρ lab Q R W=>h2 τ σ H ρ lab _ R (W.bd.imp λ d _ w x H1 s1 r1=>?_)⟩;obtain⟨z,ez,w⟩:=w.okD;cases r1 with
 |bl c=>cases ez;exact⟨c,rfl,w _ H1 s1 (.bl _)⟩
 |_=>cases ez
def chD(fd fd':D->D->Rs D)(fa fb fc:En->Rs D):En->Rs D:=λ ρ=>(fa ρ).bd λ x=>(fb ρ).bd λ y=>(okD (fd x y)).bd λ z=>match z with
 | .bl true=>(fc ρ).bd λ w=>okD (fd' y w)
 | .bl false=>.ok (.bl false)
 |_=>.st
theorem ym{K:PySem.W.Frag}{G:Gx}{r r':R2}{ta tb tc:TE}{fd fd':D->D->Rs D}{fc:En->Rs D}{m3:Mode}(hs:OpS K r fd)(hs':OpS K r' fd')(hi:∀x y z,fd' x y= .ok z->imm z=true)(h1:lA K G m1 ta fa)(h2:lA K G m2 tb fb)(h3:lA K G m3 tc fc):
  lA K G (some []) (aCE r r' ta tb tc) (chD fd fd' fa fb fc):=by
 intro τ σ H ρ lab Q R W;refine h1 τ σ H ρ lab _ R (W.bd.imp λ d _ w x H1 s1 r1=>?_);refine h2 τ σ H1 ρ lab _ (R.up s1) (w.bd.imp λ e _ w y H2 s2 r2=>?_);obtain⟨z,ez,w⟩:=w.bd.okD;refine hs (λ _=>True) x y d e H2 _ z (r1.mono s2 λ p o _ q=>trivial) (r2.wk λ p o _ q=>trivial) ez λ v H3 s3 r3=>?_
 cases r3 with
 |bl c=>
  refine⟨c,rfl,?_⟩;cases c with
  |false=>
   rw[if_neg Bool.false_ne_true];exact w _ H3 ((s1.trans s2).trans s3) (.bl false)
  |true=>
   rw[if_pos rfl];refine h3 τ σ H3 ρ lab _ ((R.up s1).up (s2.trans s3)) (w.bd.imp λ e' _ w y' H4 s4 r4=>?_);obtain⟨z',ez',w⟩:=w.okD;exact hs' (λ _=>True) y y' e e' H4 Q z' (r2.mono (s3.trans s4) λ p o _ q=>trivial) (r4.wk λ p o _ q=>trivial) ez' λ v H5 s5 r5=>w v H5 ((((s1.trans s2).trans s3).trans s4).trans s5) (r5.imm (hi _ _ _ ez'))
 |_=>exact False.elim w
theorem aBD(ro:∀i,OpR (C.X i) (compareOp op) r)(hs:OpS C.K r fd)(ro':∀i,OpR (C.X i) (compareOp op') r')(hs':OpS C.K r' fd')(hi:∀x y z,fd' x y= .ok z->imm z=true)
  (ha:SE C m1 a fa)(hb:SE C m2 b fb)(hc:SE C m3 c fc)(hm:lastMarks [op,op'] [b,c]=false:=by with_unfolding_all rfl):SE C (some []) (.Compare a [op,op'] [b,c] pos) (chD fd fd' fa fb fc):=by
 obtain⟨t,h1,h2⟩:=ha;obtain⟨u,k1,k2⟩:=hb;obtain⟨v,l1,l2⟩:=hc;exact⟨_,λ i=>aFf (ro i) (ro' i) (h1 i) (k1 i) (l1 i) hm,ym hs hs' hi h2 k2 l2⟩
def aJL:D->Rs Bool
 | .non=>.ok false
 | .bl b=>.ok b
 | .int i=>.ok (i !=0)
 | .tup l=>.ok (!l.isEmpty)
 | .lst l=>.ok (!l.isEmpty)
 |_=>.st
def blD:D->Rs Bool
 | .bl b=>.ok b
 |_=>.st
def tst(f:En->Rs D):En->Rs Bool:=λ ρ=>(f ρ).bd aJL
def tsb(f:En->Rs D):En->Rs Bool:=λ ρ=>(f ρ).bd blD
theorem w6{K:PySem.W.Frag}{A:Addr->Prop}{H:Hp}{xs:List V}{ds:List D}(r:Rps K A H xs ds):(!ds.isEmpty)= !xs.isEmpty:=by cases r<;>rfl
theorem eU(ha:SE C m a fa)(he:∀i whole,isTrue a (C.X i).env whole=(do let v <-whole;standAt a.pos;holding [v] (truthy v)):=by intro _ _;rfl):ST C a (tst fa):=by
 obtain⟨t,h1,h2⟩:=ha;refine⟨λ σ H Q=>t σ H λ x H'=>∃k,aKo C.K x H' k/\Q k H',λ i=>by rw[<-C.hK i];exact aF3 (h1 i) (he i),λ τ σ H ρ lab Q R W=>h2 τ σ H ρ lab _ R (W.bd.imp λ d _ w x H1 s1 r1=>?_)⟩;cases r1 with
 |non=>exact⟨false,rfl,w H1 s1⟩
 |bl b=>exact⟨b,rfl,w H1 s1⟩
 |int i=>exact⟨i !=0,rfl,w H1 s1⟩
 |tup h r=>exact⟨_,.inr (.inl ⟨_,h,rfl⟩),by rw[<-w6 r];exact w H1 s1⟩
 |lst h m r=>exact⟨_,.inl ⟨_,SqL.of h,rfl⟩,by rw[<-w6 r];exact w H1 s1⟩
 |_=>exact False.elim w
theorem aDL{K:PySem.W.Frag}{G:Gx}{t:TE}{f:En->Rs D}(h:lA K G m t f):aBs K G (aEw t) (tsb f):=λ τ σ H ρ lab Q R W=>h τ σ H ρ lab _ R (W.bd.imp λ d _ w x H1 s1 r1=>by
 cases r1 with
 |bl b=>exact⟨b,rfl,w H1 s1⟩
 |_=>exact False.elim w)
theorem sW(ro:∀i,OpR (C.X i) (compareOp op) r)(hs:OpS C.K r fd)(ha:SE C m1 a fa)(hb:SE C m2 b fb)(hm:behindInMarks op b=false:=by first|exact aFp _|(with_unfolding_all rfl)):
  ST C (.Compare a [op] [b] pos) (tsb (op2 fd fa fb)):=by
 obtain⟨t,h1,h2⟩:=ha;obtain⟨u,k1,k2⟩:=hb;exact⟨_,λ i=>aH1 (ro i) (h1 i) (k1 i) hm,aDL (zf hs h2 k2)⟩
theorem aEz(ro:∀i,OpR (C.X i) (compareOp op) r)(hs:OpS C.K r fd)(ro':∀i,OpR (C.X i) (compareOp op') r')(hs':OpS C.K r' fd')(hi:∀x y z,fd' x y= .ok z->imm z=true)
  (ha:SE C m1 a fa)(hb:SE C m2 b fb)(hc:SE C m3 c fc)(hm:lastMarks [op,op'] [b,c]=false:=by with_unfolding_all rfl):ST C (.Compare a [op,op'] [b,c] pos) (tsb (chD fd fd' fa fb fc)):=by
 obtain⟨t,h1,h2⟩:=ha;obtain⟨u,k1,k2⟩:=hb;obtain⟨v,l1,l2⟩:=hc;exact⟨_,λ i=>aF4 (ro i) (ro' i) (h1 i) (k1 i) (l1 i) hm,aDL (ym hs hs' hi h2 k2 l2)⟩
variable{ga gb:En->Rs Bool}
def aI5(f g:En->Rs Bool):En->Rs Bool:=λ ρ=>(f ρ).bd λ k=>if k=true then g ρ else .ok false
def orT(f g:En->Rs Bool):En->Rs Bool:=λ ρ=>(f ρ).bd λ k=>if k=true then .ok true else g ρ
def fB(f:En->Rs Bool):En->Rs Bool:=λ ρ=>(f ρ).bd λ k=>.ok (!k)
theorem aHG(ha:ST C a ga):SW C (.BoolOp .And [a] pos) ga:=let⟨t,h1,h2⟩:=ha;⟨t,λ i=>aH0 (h1 i),h2⟩
theorem nj(ha:ST C a ga):SW C (.BoolOp .Or [a] pos) ga:=let⟨t,h1,h2⟩:=ha;⟨t,λ i=>aF1 (h1 i),h2⟩
theorem aJQ(ha:ST C a ga)(hb:SW C (.BoolOp .And (b::rest) pos) gb):SW C (.BoolOp .And (a::b::rest) pos) (aI5 ga gb):=by
 obtain⟨t,h1,h2⟩:=ha;obtain⟨u,k1,k2⟩:=hb;refine⟨_,λ i=>aJ4 (h1 i) (k1 i),λ τ σ H ρ lab Q R W=>h2 τ σ H ρ lab _ R (W.bd.imp λ k _ w H1 s1=>?_)⟩;cases k with
 |true=>
  rw[if_pos rfl]at w ⊢;exact k2 τ σ H1 ρ lab Q (R.up s1) (w.imp λ z _ w H' s=>w H' (s1.trans s))
 |false=>
  rw[if_neg Bool.false_ne_true]at w ⊢;exact w H1 s1
theorem rC(ha:ST C a ga)(hb:SW C (.BoolOp .Or (b::rest) pos) gb):SW C (.BoolOp .Or (a::b::rest) pos) (orT ga gb):=by
 obtain⟨t,h1,h2⟩:=ha;obtain⟨u,k1,k2⟩:=hb;refine⟨_,λ i=>aIq (h1 i) (k1 i),λ τ σ H ρ lab Q R W=>h2 τ σ H ρ lab _ R (W.bd.imp λ k _ w H1 s1=>?_)⟩;cases k with
 |false=>
  rw[if_neg Bool.false_ne_true]at w ⊢;exact k2 τ σ H1 ρ lab Q (R.up s1) (w.imp λ z _ w H' s=>w H' (s1.trans s))
 |true=>
  rw[if_pos rfl]at w ⊢;exact w H1 s1
theorem eV(ha:ST C a ga):ST C (.UnaryOp .Not a pos) (fB ga):=by
 obtain⟨t,h1,h2⟩:=ha;exact⟨_,λ i=>aCZ (h1 i),λ τ σ H ρ lab Q R W=>h2 τ σ H ρ lab _ R (W.bd.imp λ k _ w H1 s1=>w H1 s1)⟩
end
inductive Ou where
 |nx (ρ:En)|rt (d:D)|bk (ρ:En)|ct (ρ:En)|ex (c:Str)|st
def Rs.bo{α:Type}:Rs α->(α->Ou)->Ou
 | .ok a,f=>f a
 | .ex c,_=>.ex c
 | .st,_=>.st
@[simp] theorem dF(a:α)(f:α->Ou):(Rs.ok a).bo f=f a:=aO rfl
@[simp] theorem bo_ex(c:Str)(f:α->Ou):(Rs.ex c:Rs α).bo f= .ex c:=aO rfl
def Ou.sq:Ou->(En->Ou)->Ou
 | .nx ρ,f=>f ρ
 |o,_=>o
@[simp] theorem bG(ρ:En)(f:En->Ou):(Ou.nx ρ).sq f=f ρ:=aO rfl
@[simp] theorem sq_rt(d:D)(f:En->Ou):(Ou.rt d).sq f= .rt d:=aO rfl
@[simp] theorem sq_ex(c:Str)(f:En->Ou):(Ou.ex c).sq f= .ex c:=aO rfl
def WS(K:PySem.W.Frag)(G:Gx)(τ:List (V×D))(o:Ou)(De:Ends):Prop:=match o with
 | .nx ρ=>∀σ H lab,RR K G τ ρ σ H lab->De.nx σ H
 | .bk ρ=>∀σ H lab,RR K G τ ρ σ H lab->De.bk σ H
 | .ct ρ=>∀σ H lab,RR K G τ ρ σ H lab->De.ct σ H
 | .rt d=>∀v H,aV G.H0 H->Rp K (λ p=>G.H0 p=none) H v d->De.rt v H
 | .ex c=>∀H',aV G.H0 H'->G.E (.ref (G.cl c)) none H'
 | .st=>False
theorem WS.bo{K:PySem.W.Frag}(h:WS K G τ (r.bo k) De):WR G r (λ a=>WS K G τ (k a) De):=by
 cases r with
 |ok a=>exact h
 |ex c=>exact h
 |st=>exact h
def aLh(K:PySem.W.Frag)(G:Gx)(t:TS)(f:En->Ou):Prop:=∀τ σ H ρ lab (De:Ends),RR K G τ ρ σ H lab->WS K G τ (f ρ) De->t De σ H
def SS(C:Ct)(s:Stmt)(f:En->Ou):Prop:=∃t,(∀i,PS (C.X i) s t)/\aLh C.K C.G t f
def SSs(C:Ct)(s:List Stmt)(f:En->Ou):Prop:=∃t,(∀i,PSs (C.X i) s t)/\aLh C.K C.G t f
section
variable{C:Ct}{pos:Pos}{s:Stmt}{ss:List Stmt}{f g:En->Ou}{e:Expr}{m:Mode}{fe:En->Rs D}
theorem bO:SSs C [] .nx:=⟨_,λ _=>aAH,λ τ σ H ρ lab De R W=>W σ H lab R⟩
def aU(f g:En->Ou):En->Ou:=λ ρ=>(f ρ).sq g
theorem aL(h:SS C s f):SSs C [s] f:=let⟨t,h1,h2⟩:=h;⟨t,λ i=>nC (h1 i),h2⟩
theorem aJ(h:SS C s f)(k:SSs C ss g):SSs C (s::ss) (aU f g):=by
 obtain⟨t,h1,h2⟩:=h;obtain⟨u,k1,k2⟩:=k;refine⟨_,λ i=>gK (h1 i) (k1 i),λ τ σ H ρ lab De R W=>h2 τ σ H ρ lab _ R ?_⟩;unfold aU at W;cases h:f ρ with
 |nx ρ'=>rw[h]at W;exact λ σ' H' lab' R'=>k2 τ σ' H' ρ' lab' De R' W
 |rt d=>rw[h]at W;exact W
 |bk ρ'=>rw[h]at W;exact W
 |ct ρ'=>rw[h]at W;exact W
 |ex c=>rw[h]at W;exact W
 |st=>rw[h]at W;exact W
def frz(i:Nat)(ρ:En):En:=match ρ[i]? with
 |some (.ow d)=>ρ.set i (.nw d)
 |some (.o2 l)=>ρ.set i (.nw (.lst (l.map .lst)))
 |_=>ρ
def aL3:Mode->Bool
 |some L=>L.all (·!=0)
 |none=>false
def retS(fe:En->Rs D):En->Ou:=λ ρ=>(fe ρ).bo .rt
theorem ak(he:SE C m e fe)(hm:aL3 m=true:=by rfl):SS C (.Return (some e) pos) (retS fe):=by
 obtain⟨t,h1,h2⟩:=he;refine⟨_,λ i=>wC (h1 i),λ τ σ H ρ lab De R W=>h2 τ σ H ρ lab _ R (W.bo.imp λ d _ w v H' s r=>w v H' (R.old.trans s) (r.wk λ p o _ z=>?_))⟩;rcases z with z|z
 ·exact R.old.free z
 ·cases m with
  |none=>cases hm
  |some L=>
   refine R.new p λ e0=>?_
   have:=List.all_eq_true.mp hm _ z
   rw[e0]at this;simp at this
def oY(fe:En->Rs D):En->Ou:=λ ρ=>(fe ρ).bo λ _=>.nx ρ
theorem z9(he:SE C m e fe)(hs:∀i,swapsWith e none pos.line (C.X i).env=pure false:=by intro _;rfl):SS C (.Expr e pos) (oY fe):=by
 obtain⟨t,h1,h2⟩:=he;exact⟨_,λ i=>pB (h1 i) (hs i),λ τ σ H ρ lab De R W=>h2 τ σ H ρ lab _ R (W.bo.imp λ d _ w v H' s r=>w σ H' lab (R.up s))⟩
def ifS(c:En->Rs Bool)(f g:En->Ou):En->Ou:=λ ρ=>(c ρ).bo λ k=>if k=true then f ρ else g ρ
theorem cu{a b:List Stmt}(hc:ST C c fc)(ha:SSs C a f)(hb:SSs C b g):SS C (.If c a b pos) (ifS fc f g):=by
 obtain⟨tc,c1,c2⟩:=hc;obtain⟨t,h1,h2⟩:=ha;obtain⟨u,k1,k2⟩:=hb;refine⟨_,λ i=>aF8 (c1 i) (h1 i) (k1 i),λ τ σ H ρ lab De R W=>c2 τ σ H ρ lab _ R (W.bo.imp λ k _ w H1 s1=>?_)⟩;cases k with
 |true=>rw[if_pos rfl]at w ⊢;exact h2 τ σ H1 ρ lab De (R.up s1) w
 |false=>rw[if_neg Bool.false_ne_true]at w ⊢;exact k2 τ σ H1 ρ lab De (R.up s1) w
def SV(C:Ct)(i:Nat)(s:Stmt)(m:Mode)(f:En->Rs D):Prop:=∃t,(∀j,PS (C.X j) s (aCF t (qD i)))/\lA C.K C.G m t f
theorem jq(he:SE C m e fe)(hN:∀j,(C.X j).N[i]? =some x:=by intro _;rfl)(hx:∀j,Loc (C.X j).env.scope x:=by intro _;first|exact Or.inl rfl|exact Or.inr rfl)(hs:∀j,swapsWith e (some (.Name x pos')) pos.line (C.X j).env=pure false:=by intro _;rfl)(hf:∀j,(C.X j).fn x=true\/(C.X j).env.scope.names.lookup x=some .local:=by intro _;first|exact .inl rfl|exact .inr rfl)(nd:∀j,(C.X j).N.Nodup:=by intro _;assumption):
  SV C i (.Assign [.Name x pos'] e pos) m fe:=by
 obtain⟨t,h1,h2⟩:=he;exact⟨t,λ j=>nD (nd j) (hN j) (hx j) (h1 j) (hs j) (hf j),h2⟩
def SVF(C:Ct)(i:Nat)(s:Stmt)(m:Mode)(f:En->Rs D):Prop:=∃t,(∀j,PS (C.X j) s (aCF t (qD i)))/\aLj C.K C.G m t f
theorem v5(he:SF C m e fe)(hN:∀j,(C.X j).N[i]? =some x:=by intro _;rfl)(hx:∀j,Loc (C.X j).env.scope x:=by intro _;first|exact Or.inl rfl|exact Or.inr rfl)(hs:∀j,swapsWith e (some (.Name x pos')) pos.line (C.X j).env=pure false:=by intro _;rfl)(hf:∀j,(C.X j).fn x=true\/(C.X j).env.scope.names.lookup x=some .local:=by intro _;first|exact .inl rfl|exact .inr rfl)(nd:∀j,(C.X j).N.Nodup:=by intro _;assumption):
  SVF C i (.Assign [.Name x pos'] e pos) m fe:=by
 obtain⟨t,h1,h2⟩:=he;exact⟨t,λ j=>nD (nd j) (hN j) (hx j) (h1 j) (hs j) (hf j),h2⟩
def aD1(P:Nat->Bool):Mode->Bool
 |some L=>L.all P
 |none=>false
theorem pF(h:aD1 P m=true):∀k,inM m k->P k=true:=by
 intro k hk;cases m with
 |none=>cases h
 |some L=>exact List.all_eq_true.mp h k hk
abbrev okS:Mode->Bool:=aD1 λ k=>decide (k<=1)
abbrev okN:Mode->Bool:=aD1 λ k=>k==1
abbrev okO(i:Nat):Mode->Bool:=aD1 λ k=>k==1||k==i+2
def cU(i:Nat)(fe:En->Rs D):En->Ou:=λ ρ=>(fe ρ).bo λ d=>.nx (ρ.set i (.sh d))
def qP(i:Nat)(fe:En->Rs D):En->Ou:=λ ρ=>(fe ρ).bo λ d=>.nx (ρ.set i (.nw d))
def lE(i:Nat)(fe:En->Rs D):En->Ou:=λ ρ=>(fe ρ).bo λ d=>.nx (ρ.set i (.ow d))
theorem RR.shared{K:PySem.W.Frag}(hm:okS m=true)(R:RR K G τ ρ σ H lab)(s:aV H H')(r:Rp K (fpM m lab H) H' v d):
  RR K G τ ρ σ H' (cJ H 1 lab)/\Rp K (λ p=>(cJ H 1 lab p).1<=1) H' v d:=R.fresh (P:=λ k=>k<=1) (by decide) (λ k hk=>of_decide_eq_true (pF hm k hk)) s r
theorem cQ{i:Nat}(h:SV C i s m fe)(hm:okS m=true:=by rfl):SS C s (cU i fe):=by
 obtain⟨t,h1,h2⟩:=h;refine⟨_,h1,λ τ σ H ρ lab De R W=>h2 τ σ H ρ lab _ R (W.bo.imp λ d _ w v H' s r=>?_)⟩;obtain⟨R',r'⟩:=R.shared hm s r;exact w _ _ _ (R'.put (s:=.sh d) r')
theorem rE(h:SV C i s m fe)(hm:okN m=true:=by rfl):SS C s (qP i fe):=by
 obtain⟨t,h1,h2⟩:=h;refine⟨_,h1,λ τ σ H ρ lab De R W=>h2 τ σ H ρ lab _ R (W.bo.imp λ d _ w v H' s r=>?_)⟩;obtain⟨R',r'⟩:=R.fresh (P:=λ k=>k=1) rfl (λ k hk=>beq_iff_eq.mp (pF hm k hk)) s r;exact w _ _ _ (R'.put (s:=.nw d) r')
theorem mZ(h:SVF C i s m fe)(hm:okO i m=true:=by rfl):SS C s (lE i fe):=by
 obtain⟨t,h1,h2⟩:=h;refine⟨_,h1,λ τ σ H ρ lab De R W=>h2 τ σ H ρ lab _ R (W.bo.imp λ d _ w v H' s r ht=>?_)⟩;obtain⟨lab',R',r'⟩:=R.freshO i (λ k hk=>by have:=pF hm k hk;simpa using this) s r ht;exact w _ _ _ (R'.put (s:=.ow d) r')
def aGq(K:PySem.W.Frag)(G:Gx)(g:TG)(fg:D->En->Rs En):Prop:=∀τ v d σ H ρ lab (Q:L2.St->Hp->Prop) ρ',RR K G τ ρ σ H lab->Rp K (λ p=>(lab p).1<=1) H v d->fg d ρ= .ok ρ'->(∀σ',RR K G τ ρ' σ' H lab->Q σ' H)->g v σ H Q
def aLi(K:PySem.W.Frag)(G:Gx)(g:TGs)(fg:List D->En->Rs En):Prop:=∀τ vs ds σ H ρ lab (Q:L2.St->Hp->Prop) ρ',RR K G τ ρ σ H lab->Rps K (λ p=>(lab p).1<=1) H vs ds->fg ds ρ= .ok ρ'->(∀σ',RR K G τ ρ' σ' H lab->Q σ' H)->g vs σ H Q
def SG(C:Ct)(tg:Expr)(ks:List Nat)(fg:D->En->Rs En):Prop:=∃g,(∀i,PG (C.X i) tg g)/\aGq C.K C.G g fg/\nZ g ks/\zW g
def SGs(C:Ct)(tg:List Expr)(ks:List Nat)(fg:List D->En->Rs En):Prop:=∃g,(∀i,PGs (C.X i) tg g)/\aLi C.K C.G g fg/\xn g ks/\uH g
def gnm(i:Nat):D->En->Rs En:=λ d ρ=>.ok (ρ.set i (.sh d))
def fM:List D->En->Rs En:=λ ds ρ=>match ds with
 |[]=>.ok ρ
 |_=>.st
def aj(f:D->En->Rs En)(g:List D->En->Rs En):List D->En->Rs En:=λ ds ρ=>match ds with
 |d::r=>(f d ρ).bd (g r)
 |_=>.st
def fD(n:Nat)(g:List D->En->Rs En):D->En->Rs En:=λ d ρ=>match d with
 | .tup ds=>if ds.length=n then g ds ρ else .st
 |_=>.st
variable{ks:List Nat}{fg:D->En->Rs En}{fgs:List D->En->Rs En}{tg:Expr}{tgs:List Expr}
theorem bx(hN:∀j,(C.X j).N[i]? =some x:=by intro _;rfl)(hx:∀j,Loc (C.X j).env.scope x:=by intro _;first|exact Or.inl rfl|exact Or.inr rfl)(hf:∀j,(C.X j).fn x=true\/(C.X j).env.scope.names.lookup x=some .local:=by intro _;first|exact .inl rfl|exact .inr rfl)(nd:∀j,(C.X j).N.Nodup:=by intro _;assumption)(hk:i∈ks:=by decide):SG C (.Name x pos) ks (gnm i):=
 ⟨_,λ j=>aH6 (nd j) (hN j) (hx j) (hf j),λ τ v d σ H ρ lab Q ρ' R r e q=>by cases e;exact q _ (R.put (s:=.sh d) r),aIM hk,aIO⟩
theorem m7:SGs C [] ks fM:=by
 refine⟨_,λ _=>aH5,λ τ vs ds σ H ρ lab Q ρ' R r e q=>?_,aIL,aIN⟩;cases r with
 |nil=>cases e;exact⟨rfl,q _ R⟩
 |cons _ _=>cases e
theorem dC(h:SG C tg ks fg)(k:SGs C tgs ks fgs)(hs:∀i,(assignEach (tg::tgs) (C.X i).env).map (·.2)=assign tg (C.X i).env::(assignEach tgs (C.X i).env).map (·.2):=by intro _;rfl):SGs C (tg::tgs) ks (aj fg fgs):=by
 obtain⟨g,h1,h2,h3,h4⟩:=h;obtain⟨u,k1,k2,k3,k4⟩:=k;refine⟨_,λ i=>aFb (h1 i) (k1 i) (hs i),λ τ vs ds σ H ρ lab Q ρ' R r e q=>?_,aGW h3 h4 k3 k4,aGY h4 k4⟩;cases r with
 |nil=>cases e
 |cons h r=>
  obtain⟨ρ1,e1,e2⟩:=cP e;exact⟨_,_,rfl,h2 τ _ _ σ H ρ lab _ ρ1 R h e1 λ σ1 R1=>k2 τ _ _ σ1 H ρ1 lab Q ρ' R1 r e2 q⟩
theorem qO(h:SGs C tgs ks fgs)(hn:∀i,(assignEach tgs (C.X i).env).length=n:=by intro _;rfl)(hst:∀i,(assignEach tgs (C.X i).env).findIdx? (·.1)=none:=by intro _;rfl):SG C (.Tuple tgs k pos) ks (fD n fgs):=by
 obtain⟨u,k1,k2,k3,k4⟩:=h;refine⟨aIP C.K n u,λ i=>by rw[<-C.hK i];exact aJb (C.calm i) (k1 i) (hn i) (hst i),λ τ v d σ H ρ lab Q ρ' R r e q=>?_,aKa k3,aKb k4⟩;cases r with
 |tup h r=>
  unfold fD at e;dsimp only at e;split at e
  ·rename_i hl
   exact⟨_,_,rfl,h,by rw[r.length];exact hl,k2 τ _ _ σ H ρ lab Q ρ' R r e q⟩
  ·cases e
 |_=>cases e
def aGn(fe:En->Rs D)(fg:D->En->Rs En):En->Ou:=λ ρ=>(fe ρ).bo λ d=>match fg d ρ with
 | .ok ρ'=>.nx ρ'
 |_=>.st
theorem aJR(he:SE C m e fe)(hg:SG C tg ks fg)(hm:okS m=true:=by rfl)(hs:∀i,swapsWithSole [tg] e pos.line (C.X i).env=pure false:=by intro _;rfl)(hw:∀i,swappedStores [tg] e (C.X i).env=pure none:=by intro _;rfl)
  (h1:∀i,(assignEach [tg] (C.X i).env).map (·.2)=[assign tg (C.X i).env]:=by intro _;rfl):SS C (.Assign [tg] e pos) (aGn fe fg):=by
 obtain⟨t,p1,p2⟩:=he;obtain⟨g,q1,q2,_,_⟩:=hg;refine⟨_,λ i=>aJ7 (p1 i) (q1 i) (hs i) (hw i) (h1 i),λ τ σ H ρ lab De R W=>p2 τ σ H ρ lab _ R (W.bo.imp λ d _ w v H' s r=>?_)⟩;obtain⟨R',r'⟩:=R.shared hm s r;cases hgd:fg d ρ with
 |ok ρ'=>rw[hgd]at w;exact q2 τ v d σ H' ρ _ _ ρ' R' r' hgd λ σ' R2=>w σ' H' _ R2
 |ex c=>rw[hgd]at w;exact False.elim w
 |st=>rw[hgd]at w;exact False.elim w
def JL(K:PySem.W.Frag)(lab:Lab)(J:It)(H:Hp)(ds:List D):Prop:=∀i,(ds.length<=i->J.stop i H)/\(i<ds.length->J.go i H/\∀x H',J.yld i H x H'->aV H H'/\∃d,ds[i]? =some d/\Rp K (λ p=>(lab p).1<=1) H' x d)
def aGp(K:PySem.W.Frag)(G:Gx)(wi:TI)(f:En->Rs (List D)):Prop:=∀τ σ H ρ lab (Rr:It->Hp->Prop),RR K G τ ρ σ H lab->
 WR G (f ρ) (λ ds=>∀J H1 lab1 τ1,aV H H1->(∀p o,H p=some o->lab1 p=lab p)->RR K G (τ1++τ) ρ σ H1 lab1->(∀lab' H',(∀q∈τ1,Rp K (λ p=>(lab' p).1<=1) H' q.1 q.2)->JL K lab' J H' ds)->Rr J H1)->wi σ H Rr
def SI(C:Ct)(tg iter:Expr)(f:En->Rs (List D)):Prop:=∃wi,(∀i,PI (C.X i) tg iter wi)/\aGp C.K C.G wi f
def aL9(K:PySem.W.Frag)(tl:TE):TI:=λ σ H R=>tl σ H λ x H1=>∃a,x= .ref a/\(((∃xs,SqL K H1 a xs)/\R (Itl K a) H1)\/((∃xs,SqT K H1 a xs)/\R (Itt K a) H1))
theorem aJa(hl:PE X l tl):PI X tg l (aL9 X.K tl):=by
 intro pins s σ H R I h;refine thn (hl pins s σ H _ I h) λ v s1 ⟨x,H1,I1,r1,a,e,q1⟩=>?_
 subst e;cases r1;have hp:∀b∈[s1.heap.objs.size],pQ X pins H1 b:=λ b hb=>by
  have e:b=s1.heap.objs.size:=by simpa using hb
  rw[e];exact I1.fpOk (Nat.le_refl _) (I1.hok.fresh (Nat.le_refl _))
 rcases q1 with ⟨⟨xs,hq⟩,q⟩|⟨⟨xs,hq⟩,q⟩
 ·obtain⟨its,rv,p,hz⟩:=I1.list hq
  refine wpAny_pyIter_list p.isList ?_;exact⟨_,_,_,_,H1,rfl,I1.kept (t':=s1.toks) λ b o e=>Heap.get?_push_of_some _ e,aDs a _,⟨_,Heap.get?_push_size _ rfl,rfl,rfl⟩,hp,q⟩
 ·obtain⟨its,rv,p,hz⟩:=I1.tuple hq
  refine wpAny_pyIter_tuple (show s1.heap.IsTuple a its.toArray from p) ?_;exact⟨_,_,_,_,H1,rfl,I1.kept (t':=s1.toks) λ b o e=>Heap.get?_push_of_some _ e,aBz a _,⟨_,Heap.get?_push_size _ rfl,rfl,rfl⟩,hp,q⟩
def itD:D->Rs (List D)
 | .tup l=>.ok l
 | .lst l=>.ok l
 | .scr l=>.ok (l.map .int)
 |_=>.st
def bW(fe:En->Rs D):En->Rs (List D):=λ ρ=>(fe ρ).bd itD
theorem aDc{K:PySem.W.Frag}(h:SqL K H a xs)(r:Rps K (λ p=>(lab p).1<=1) H xs ds):JL K lab (Itl K a) H ds:=by
 have hl:=r.length;refine λ i=>⟨λ hi=>⟨xs,h,by lia⟩,λ hi=>⟨⟨xs,xs[i]'(by lia),h,by simp[hl,hi]⟩,λ x H' y=>?_⟩⟩
 obtain⟨e,y⟩:=y;subst e;obtain⟨d,h1,h2⟩:=r.get (y xs h);exact⟨aV.refl _,d,h1,h2⟩
theorem aK2{K:PySem.W.Frag}(h:SqT K H a xs)(r:Rps K (λ p=>(lab p).1<=1) H xs ds):JL K lab (Itt K a) H ds:=by
 have hl:=r.length;refine λ i=>⟨λ hi=>⟨xs,h,by lia⟩,λ hi=>⟨⟨xs,xs[i]'(by lia),h,by simp[hl,hi]⟩,λ x H' y=>?_⟩⟩
 obtain⟨e,y⟩:=y;subst e;obtain⟨d,h1,h2⟩:=r.get (y xs h);exact⟨aV.refl _,d,h1,h2⟩
theorem dR(he:SE C m e fe)(hm:okS m=true:=by rfl):SI C tg e (bW fe):=by
 obtain⟨t,p1,p2⟩:=he;refine⟨aL9 C.K t,λ i=>by rw[<-C.hK i];exact aJa (p1 i),λ τ σ H ρ lab Rr R W=>p2 τ σ H ρ lab _ R (W.bd.imp λ d _ w v H1 s r=>?_)⟩;obtain⟨R',r'⟩:=R.shared hm s r;cases d with
 |tup l=>
  cases r' with
  |tup h q=>
   rename_i a xs;refine⟨_,rfl,.inr ⟨⟨_,h⟩,w _ H1 _ [(.ref a,.tup l)] s (λ p o e=>bc e) ⟨R'.len,R'.sl,R'.old,R'.new,λ z hz=>?_⟩ λ lab' H' hq=>?_⟩⟩
   ·rcases List.mem_cons.mp hz with rfl|hz
    ·exact .tup h q
    ·exact R'.tm z hz
   ·have z:=hq _ (List.mem_cons_self ..)
    cases z with
    |tup h' q'=>exact aK2 h' q'
 |lst l=>
  cases r' with
  |lst h mm q=>
   rename_i a xs;refine⟨_,rfl,.inl ⟨⟨_,SqL.of h⟩,w _ H1 _ [(.ref a,.lst l)] s (λ p o e=>bc e) ⟨R'.len,R'.sl,R'.old,R'.new,λ z hz=>?_⟩ λ lab' H' hq=>?_⟩⟩
   ·rcases List.mem_cons.mp hz with rfl|hz
    ·exact .lst h mm q
    ·exact R'.tm z hz
   ·have z:=hq _ (List.mem_cons_self ..)
    cases z with
    |lst h' _ q'=>exact aDc (SqL.of h') (q'.wk λ _ _ _ z=>z.1)
 |scr l=>
  cases r' with
  |scr h=>
   rename_i a;refine⟨_,rfl,.inl ⟨⟨_,h.sq⟩,w _ H1 _ [(.ref a,.scr l)] s (λ p o e=>bc e) ⟨R'.len,R'.sl,R'.old,R'.new,λ z hz=>?_⟩ λ lab' H' hq=>?_⟩⟩
   ·rcases List.mem_cons.mp hz with rfl|hz
    ·exact .scr h
    ·exact R'.tm z hz
   ·have z:=hq _ (List.mem_cons_self ..)
    cases z with
    |scr h'=>exact aDc h'.sq Rps.ints
 |_=>exact False.elim w
end
section
variable{C:Ct}{pos:Pos}{s:Stmt}{ss:List Stmt}{f g:En->Ou}{e a b:Expr}{es:List Expr}{m m1 m2:Mode}{fe fa fb:En->Rs D}{ks:List Nat}{fg:D->En->Rs En}{tg:Expr}{fi:En->Rs (List D)}{ga:En->Rs (List D)}
def di(lo hi:Int):List D:=(List.range (hi-lo).toNat).map λ(k:Nat)=>.int (lo+(k:Int))
def nA:List D->Rs (List D)
 |[.int j]=>if -(2^62)<=j/\j<2^62 then .ok (di 0 j)else .st
 |_=>.st
def vq:List D->Rs (List D)
 |[.int i,.int j]=>if (-(2^62)<=i/\i<2^62)/\(-(2^62)<=j/\j<2^62)then .ok (di i j)else .st
 |_=>.st
def eZ(r:List D->Rs (List D))(ga:En->Rs (List D)):En->Rs (List D):=λ ρ=>(ga ρ).bd r
theorem aGK{K:PySem.W.Frag}{lo hi:Int}:JL K lab (Itr lo (hi-lo).toNat) H (di lo hi):=by
 have hl:(di lo hi).length=(hi-lo).toNat:=by unfold di;simp
 refine λ i=>⟨λ h=>by show(hi-lo).toNat<=i;lia,λ h=>⟨by show i<(hi-lo).toNat;lia,λ x H' y=>?_⟩⟩
 obtain⟨e,rfl⟩:=y;subst e;refine⟨aV.refl _,.int (lo+i),?_,.int _⟩;unfold di;rw[List.getElem?_map,List.getElem?_range (by lia)];rfl
theorem ou(ha:SA C m [a] ga)(hm:C.mg "range"=none)(hs:∀i,starEach [a] (C.X i).env=[(false,eval a (C.X i).env)]:=by intro _;rfl)(hg:∀i,Gl (C.X i) "range":=by intro _;rfl):SI C tg (.Call (.Name "range" p) [a] [] pos) (eZ nA ga):=by
 obtain⟨t,h1,h2⟩:=ha;refine⟨_,λ i=>aEC (hg i) (by rw[(C.cx i).2.2.2.1];exact hm) (h1 i) (hs i),λ τ σ H ρ lab Rr R W=>h2 τ σ H ρ lab _ R (W.bd.imp λ ds _ w vs H1 s r=>?_)⟩;unfold nA at w;split at w
 ·rename_i j _
  split at w
  ·rename_i hj
   cases r with
   |cons h r=>
    cases h;cases r;refine⟨j,rfl,hj.1,hj.2,?_⟩;have z:=w (Itr 0 (j-0).toNat) H1 lab [] s (λ _ _ _=>rfl) (R.up s) λ lab' H' _=>aGK
    rwa [Int.sub_zero]at z
  ·exact False.elim w
 ·exact False.elim w
theorem zg(ha:SA C m [a,b] ga)(hm:C.mg "range"=none)(hs:∀i,starEach [a,b] (C.X i).env=[(false,eval a (C.X i).env),(false,eval b (C.X i).env)]:=by intro _;rfl)(hs2:∀i,starEach [b] (C.X i).env=[(false,eval b (C.X i).env)]:=by intro _;rfl)(hg:∀i,Gl (C.X i) "range":=by intro _;rfl):SI C tg (.Call (.Name "range" p) [a,b] [] pos) (eZ vq ga):=by
 obtain⟨t,h1,h2⟩:=ha;refine⟨_,λ i=>aEB (hg i) (by rw[(C.cx i).2.2.2.1];exact hm) (h1 i) (hs i) (hs2 i),λ τ σ H ρ lab Rr R W=>h2 τ σ H ρ lab _ R (W.bd.imp λ ds _ w vs H1 s r=>?_)⟩;unfold vq at w;split at w
 ·rename_i i j _
  split at w
  ·rename_i hj
   cases r with
   |cons h r=>
    cases h;cases r with
    |cons h r=>
     cases h;cases r;exact⟨i,j,rfl,⟨hj.1.1,hj.1.2,hj.2.1,hj.2.2⟩,w (Itr i (j-i).toNat) H1 lab [] s (λ _ _ _=>rfl) (R.up s) λ lab' H' _=>aGK⟩
  ·exact False.elim w
 ·exact False.elim w
def forL(fg:D->En->Rs En)(b:En->Ou):List D->En->Ou
 |[],ρ=>.nx ρ
 |d::ds,ρ=>match fg d ρ with
  | .ok ρ1=>match b ρ1 with
   | .nx ρ2=>forL fg b ds ρ2
   | .ct ρ2=>forL fg b ds ρ2
   | .bk ρ2=>.nx ρ2
   |o=>o
  |_=>.st
def dj(fi:En->Rs (List D))(fg:D->En->Rs En)(b:En->Ou):En->Ou:=λ ρ=>(fi ρ).bo λ ds=>forL fg b ds ρ
theorem eX(hi:SI C tg e fi)(hg:SG C tg ks fg)(hb:SSs C ss f)(hs:∀i,∀x,foldedSetIterable e (C.X i).env x=pure x:=by intro _ _;rfl):SS C (.For tg e ss [] pos) (dj fi fg f):=by
 obtain⟨wi,i1,i2⟩:=hi;obtain⟨gg,g1,g2,_,g4⟩:=hg;obtain⟨tb,b1,b2⟩:=hb;refine⟨_,λ i=>aJ6 (C.own i) (C.calm i) (i1 i) (g1 i) (b1 i) (hs i),λ τ σ H ρ lab De R W=>i2 τ σ H ρ lab _ R (W.bo.imp λ ds _ w J H1 lab1 τ1 s1 _ R1 jl=>?_)⟩;refine⟨λ i n σ' H'=>∃ρ' lab',RR C.K C.G (τ1++τ) ρ' σ' H' lab'/\n=ds.length-i/\i<=ds.length/\WS C.K C.G τ (forL fg f (ds.drop i) ρ') De,⟨ds.length,ρ,lab1,R1,by lia,by lia,w⟩,?_⟩;rintro i n σ' H' ⟨ρ',lab',R',rfl,hi,w'⟩;have jj:=jl lab' H' λ q hq=>R'.tm q (List.mem_append_left _ hq)
 by_cases hlt:i<ds.length
 ·obtain⟨go,yl⟩:=(jj i).2 hlt
  refine .inr ⟨go,λ σ2 H2=>∃ρ2 lab2,RR C.K C.G (τ1++τ) ρ2 σ2 H2 lab2/\WS C.K C.G τ (forL fg f (ds.drop (i+1)) ρ2) De,λ σ2 H2 ⟨ρ2,lab2,R2,w2⟩=>⟨ds.length-(i+1),by lia,ρ2,lab2,R2,rfl,hlt,w2⟩,λ x H2 hy=>?_⟩;obtain⟨s2,d,ed,rx⟩:=yl x H2 hy;replace R':=R'.up s2;have ed2:ds.drop i=d::ds.drop (i+1):=by
   rw[List.drop_eq_getElem_cons hlt]
   have:=List.getElem?_eq_getElem hlt
   rw[ed]at this;cases this;rfl
  rw[ed2]at w';unfold forL at w';cases eg:fg d ρ' with
  |ex c=>rw[eg]at w';exact False.elim w'
  |st=>rw[eg]at w';exact False.elim w'
  |ok ρ1=>
   rw[eg]at w';refine g2 (τ1++τ) x d σ' H2 ρ' lab' _ ρ1 R' rx eg λ σ1 R1'=>b2 (τ1++τ) σ1 H2 ρ1 lab' _ R1' ?_
   dsimp only at w';cases eb:f ρ1 with
   |nx ρ2=>rw[eb]at w';exact λ σ2 H3 lab2 R2=>⟨ρ2,lab2,R2,w'⟩
   |ct ρ2=>rw[eb]at w';exact λ σ2 H3 lab2 R2=>⟨ρ2,lab2,R2,w'⟩
   |bk ρ2=>rw[eb]at w';exact λ σ2 H3 lab2 R2=>w' σ2 H3 lab2 R2.drop
   |rt d=>rw[eb]at w';exact w'
   |ex c=>rw[eb]at w';exact w'
   |st=>rw[eb]at w';exact w'
 ·have e:i=ds.length:=by lia
  subst e;rw[List.drop_length]at w';exact .inl ⟨(jj _).1 (Nat.le_refl _),w' σ' H' lab' R'.drop⟩
def itW(c:En->Rs Bool)(b:En->Ou):Nat->En->Ou
 |0,_=>.st
 |n+1,ρ=>(c ρ).bo λ k=>if k=true then(match b ρ with
   | .nx ρ2=>itW c b n ρ2
   | .ct ρ2=>itW c b n ρ2
   | .bk ρ2=>.nx ρ2
   |o=>o)else .nx ρ
def fuel:Nat:=1000000
def zX(c:En->Rs Bool)(b:En->Ou):En->Ou:=itW c b fuel
theorem aFB(hc:ST C c fc)(hb:SSs C ss f):SS C (.While c ss [] pos) (zX fc f):=by
 obtain⟨tc,c1,c2⟩:=hc;obtain⟨tb,b1,b2⟩:=hb;refine⟨_,λ i=>aF5 (C.own i) (c1 i) (b1 i),λ τ σ H ρ lab De R W=>?_⟩;refine⟨λ n σ' H'=>∃ρ' lab',RR C.K C.G τ ρ' σ' H' lab'/\WS C.K C.G τ (itW fc f n ρ') De,⟨fuel,ρ,lab,R,W⟩,?_⟩;rintro n σ' H' ⟨ρ',lab',R',w'⟩;cases n with
 |zero=>exact False.elim w'
 |succ n=>
  refine c2 τ σ' H' ρ' lab' _ R' (WS.bo (show WS C.K C.G τ ((fc ρ').bo _) De from w') |>.imp λ k _ w H1 s1=>?_);cases k with
  |false=>
   rw[if_neg Bool.false_ne_true]at w ⊢;exact w σ' H1 lab' (R'.up s1)
  |true=>
   rw[if_pos rfl]at w ⊢;refine⟨λ σ2 H2=>∃ρ2 lab2,RR C.K C.G τ ρ2 σ2 H2 lab2/\WS C.K C.G τ (itW fc f n ρ2) De,λ σ2 H2 ⟨ρ2,lab2,R2,w2⟩=>⟨n,Nat.lt_succ_self n,ρ2,lab2,R2,w2⟩,?_⟩;refine b2 τ σ' H1 ρ' lab' _ (R'.up s1) ?_;cases eb:f ρ' with
   |nx ρ2=>rw[eb]at w;exact λ σ2 H3 lab2 R2=>⟨ρ2,lab2,R2,w⟩
   |ct ρ2=>rw[eb]at w;exact λ σ2 H3 lab2 R2=>⟨ρ2,lab2,R2,w⟩
   |bk ρ2=>rw[eb]at w;exact w
   |rt d=>rw[eb]at w;exact w
   |ex c=>rw[eb]at w;exact w
   |st=>rw[eb]at w;exact w
def wA(x:Str)(ga:En->Rs (List D)):En->Ou:=λ ρ=>(ga ρ).bo λ ds=>if ds.length<=sizeLine then .ex x else .st
theorem aAw{rest:List Expr}(hd:C.dOk=true)(hm:C.mg x=some (.ref Ca))(hcl:C.G.cl x=Ca)(hC:jU C.K Ca)(ha:SA C m (e₀::rest) ga)(he:∀i,starEach (e₀::rest) (C.X i).env=(false,eval e₀ (C.X i).env)::starEach rest (C.X i).env:=by intro _;rfl)(hplain:∀i,(backTo cpos (starEach rest (C.X i).env)).any (·.1)=false:=by intro _;rfl)(hdb:(x==("__debug__":Str))=false:=by decide)(hg:∀i,Gl (C.X i) x:=by intro _;rfl):SS C (.Raise (some (.Call (.Name x np) (e₀::rest) [] cpos)) none pos) (wA x ga):=by
 obtain⟨t,h1,h2⟩:=ha;refine⟨_,λ i=>aF7 (C.dcx hd i) (C.calm i) (by rw[(C.cx i).2.2.2.1];exact hm) (by rw[C.hK i];exact hC) (hg i) (h1 i) (he i) (hplain i) hdb,λ τ σ H ρ lab De R W=>h2 τ σ H ρ lab _ R (W.bo.imp λ ds _ w vs H1 s r=>?_)⟩;by_cases hz:ds.length<=sizeLine
 ·rw[if_pos hz]at w
  refine⟨by rw[r.length];exact hz,?_⟩
  have:=w H1 (R.old.trans s)
  rwa [hcl]at this
 ·rw[if_neg hz]at w
  exact False.elim w
def spF(K:PySem.W.Frag)(cl:Str->Addr)(n:Nat)(F:List D->Rs D):Sp:=λ vs H Q E=>∃ds,vs.length=n/\Rps K (λ _=>True) H vs ds/\WR ⟨H,E,cl⟩ (F ds) (λ d=>∀v H',aV H H'->Rp K (λ p=>H p=none) H' v d->Q v H')
def aM(F:List D->Rs D)(ga:En->Rs (List D)):En->Rs D:=λ ρ=>(ga ρ).bd F
theorem aAy{K:PySem.W.Frag}(hn:∀ρ ds,ga ρ= .ok ds->ds.length=n)(h:aI8 K G m t ga):lA K G (some []) (yd (spF K G.cl n F) [] G.E t) (aM F ga):=by
 intro τ σ H ρ lab Q R W;refine h τ σ H ρ lab _ R (W.bd.imp λ ds eds w vs H1 s r=>⟨ds,by rw[List.append_nil,r.length];exact hn ρ ds eds,by rw[List.append_nil];exact r.wk λ _ _ _ _=>trivial,?_⟩);cases hF:F ds with
 |ok d=>
  rw[hF]at w;exact λ v H' s' r'=>w v H' (s.trans s') (r'.wk λ p o _ z=>.inl (s.free z))
 |ex c=>rw[hF]at w;exact λ H' s'=>w H' ((R.old.trans s).trans s')
 |st=>rw[hF]at w;exact w
variable{k:Nat}{fn:Addr}{fd:FuncData}{ps:List Str}{x:Str}{p:Pos}{F:List D->Rs D}{n:Nat}
theorem aHP(hF:cg C.prog C.w C.K C.mg C.base (CX1 C.prog C.w) k fn fd ps (spF C.K C.G.cl n F))(hr:k<=C.k)(hm:C.mg x=some (.ref fn))(hk:PySem.W.keepIn C.K (.ref fn)=true)(hb:Binds C.K fd ps [])(ha:SA C m (e::es) ga)(hn:∀ρ ds,ga ρ= .ok ds->ds.length=n)(hdb:(x==("__debug__":Str))=false:=by decide)(he:∀i,starEach (e::es) (C.X i).env=(false,eval e (C.X i).env)::starEach es (C.X i).env:=by intro _;rfl)(hpl:∀i,(backTo pos (starEach es (C.X i).env)).any (·.1)=false:=by intro _;rfl)(hg:∀i,Gl (C.X i) x:=by intro _;rfl):SE C (some []) (.Call (.Name x p) (e::es) [] pos) (aM F ga):=by
 obtain⟨t,h1,h2⟩:=ha;refine⟨_,λ i=>?_,aAy hn h2⟩;obtain⟨e1,e2,e3,e4,e5⟩:=C.cx i;refine aHa (CX:=CX1 (C.X i).prog (C.X i).w) (by rw[e1,e2,e3,e4,e5];exact hF) ((C.room i).mono hr) (hg i) (by rw[e4];exact hm) (by rw[e3];exact hk) (by rw[e3];exact hb) .nil (C.pass i) (h1 i) hdb (he i) (hpl i)
theorem aD9(h:aF ρ= .ok ds):ds.length=0:=by cases h;rfl
theorem wV(h:∀ρ ds,ga ρ= .ok ds->ds.length=n):∀ρ ds,aA fa ga ρ= .ok ds->ds.length=n+1:=λ ρ ds e=>by
 obtain⟨d,_,e⟩:=cP e;obtain⟨r,er,e⟩:=cP e;cases e;rw[List.length_cons,h ρ r er]
end
def bD(mg:Str->Option Value):Str->Addr:=λ x=>match mg x with
 |some (.ref a)=>a
 |_=>0
abbrev ctD(P:Program)(w:World)(K:PySem.W.Frag)(mg:Str->Option Value)(base:Heap)(N:List Str)(q:Str)(sc:Scope)(f:Addr)(cdv:Value)(A:Around)(outer:List Env)(s:Shared)(H:Hp)(E:XK)(k:Nat)(hr:fY k (A.deeper (envOfC q sc s.heap.objs.size f cdv))):Ct where
 ι:=Unit
 X:=λ _=>ux (CX1 P w) P w K mg base N q sc f cdv A outer s H E
 prog:=P
 w:=w
 K:=K
 mg:=mg
 base:=base
 k:=k
 G:=⟨H,E,bD mg⟩
 cx:=λ _=>⟨rfl,rfl,rfl,rfl,rfl⟩
 calm:=λ _=>rfl
 room:=λ _=>hr
 own:=λ _=>eQ.own eQ.of
 pass:=λ _=>eQ.pass eQ.of
 dOk:=true
 dcx:=λ _ _=>eQ.of
def bF(n:Nat)(ds:List D):En:=ds.map .sh++List.replicate (n-ds.length) .no
def eY(n:Nat)(f:En->Ou):List D->Rs D:=λ ds=>match f (bF n ds)with
 | .nx _=>.ok .non
 | .rt d=>.ok d
 | .ex c=>.ex c
 |_=>.st
theorem RR.start{K:PySem.W.Frag}(r:Rps K (λ _=>True) H vs ds):RR K ⟨H,E,cl⟩ [] (bF N.length ds) (start N vs) H (λ _=>(0,0)):=by
 have hl:=r.length;refine⟨by unfold bF L2.start;simp[hl],λ i s e=>?_,aV.refl H,λ p hp=>absurd rfl hp,λ q hq=>by cases hq⟩;unfold bF at e;by_cases hi:i<ds.length
 ·rw[List.getElem?_append_left (by simpa using hi),List.getElem?_map]at e
  cases ed:ds[i]? with
  |none=>rw[ed]at e;cases e
  |some d=>
   rw[ed]at e;cases e;obtain⟨x,ex,rx⟩:=r.getD ed;refine .inr ⟨x,?_,rx.wk λ _ _ _ _=>Nat.zero_le _⟩;unfold L2.start;rw[List.getElem?_append_left (by simpa[hl]using hi),List.getElem?_map,ex];rfl
 ·rw[List.getElem?_append_right (by simpa using hi),List.getElem?_replicate]at e
  split at e
  ·cases e;exact .inl rfl
  ·cases e
section
variable{P:Program}{w:World}{K:PySem.W.Frag}{mg:Str->Option Value}{base:Heap}
theorem aKe{x q:Str}{st:Stmt}(F:L2.Fun K x q st fn fd)(S:aa N ps (aH st))
  (hb:∀cdv A outer s H E hr,SSs (ctD P w K mg base N q (aH st) fn cdv A outer s H E k hr) (eE st) f):
  cg P w K mg base (CX1 P w) (k+1) fn fd ps (spF K (bD mg) ps.length (eY N.length f)):=by
 refine F.okX S (λ vs H Q E ⟨ds,hl,_⟩=>hl) λ cdv A outer s H vs Q E hr ⟨ds,hl,r,W⟩=>?_
 obtain⟨t,h1,h2⟩:=hb cdv A outer s H E hr;refine⟨t,h1 (),h2 [] _ H _ _ _ (RR.start r) ?_⟩;unfold eY at W;cases e:f (bF N.length ds)with
 |nx ρ=>rw[e]at W;exact λ σ' H' lab R=>W .non H' R.old .non
 |rt d=>rw[e]at W;exact λ v H' s r=>W v H' s r
 |ex c=>rw[e]at W;exact W
 |bk ρ=>rw[e]at W;exact False.elim W
 |ct ρ=>rw[e]at W;exact False.elim W
 |st=>rw[e]at W;exact False.elim W
theorem aIR{st:Stmt}(F:L2.Fun K x q st fn fd)(S:aa N ps (aH st))
  (hb:∀cdv A outer s H E hr,SSs (ctD P w K mg base N q (aH st) fn cdv A outer s H E k hr) (eE st) f)(hn:ps.length=n)(hF:eY N.length f=FF):
  cg P w K mg base (CX1 P w) (k+1) fn fd ps (spF K (bD mg) n FF):=by
 subst hn hF;exact aKe F S hb
end
theorem OpR.or(h:OpR X f r)(h':OpR X f r'):OpR X f (λ x y H Q=>r x y H Q\/r' x y H Q):=by
 intro pins s σ H x y v u Q I rx ry q;rcases q with q|q
 ·exact h pins s σ H x y v u Q I rx ry q
 ·exact h' pins s σ H x y v u Q I rx ry q
theorem OpS.or{K:PySem.W.Frag}(h:OpS K r fd)(h':OpS K r' fd'):OpS K (λ x y H Q=>r x y H Q\/r' x y H Q) (λ d e=>match fd d e with
  | .ok z=>.ok z
  |_=>fd' d e):=by
 intro A x y d e H Q z rx ry ez q;dsimp only at ez;cases hd:fd d e with
 |ok w=>rw[hd]at ez;cases ez;exact .inl (h A x y d e H Q _ rx ry hd q)
 |ex c=>rw[hd]at ez;exact .inr (h' A x y d e H Q z rx ry ez q)
 |st=>rw[hd]at ez;exact .inr (h' A x y d e H Q z rx ry ez q)
section
variable{K:PySem.W.Frag}
def i2(p:Int->Int->Bool)(g:Int->Int->D):D->D->Rs D
 | .int i,.int j=>if p i j=true then .ok (g i j)else .st
 |_,_=>.st
theorem aC4{g:Int->Int->Int}(hp:∀i j,p i j=true->c i j):OpS K (rI c λ i j=>.int (g i j)) (i2 p λ i j=>.int (g i j)):=by
 intro A x y d e H Q z rx ry ez q;unfold i2 at ez;split at ez
 ·rename_i i j
  split at ez
  ·rename_i h
   cases ez;obtain rfl:=rx.int_inv;obtain rfl:=ry.int_inv;exact⟨i,j,rfl,rfl,hp i j h,q _ H (aV.refl H) (.int _)⟩
  ·cases ez
 ·cases ez
theorem aHe{g:Int->Int->Int}:OpS K (rI0 λ i j=>.int (g i j)) (i2 (λ _ _=>true) λ i j=>.int (g i j)):=by
 intro A x y d e H Q z rx ry ez q;unfold i2 at ez;split at ez
 ·rename_i i j
  cases ez;obtain rfl:=rx.int_inv;obtain rfl:=ry.int_inv;exact⟨i,j,rfl,rfl,q _ H (aV.refl H) (.int _)⟩
 ·cases ez
theorem aC5{g:Int->Int->Bool}:OpS K (rI0 λ i j=>.bl (g i j)) (i2 (λ _ _=>true) λ i j=>.bl (g i j)):=by
 intro A x y d e H Q z rx ry ez q;unfold i2 at ez;split at ez
 ·rename_i i j
  cases ez;obtain rfl:=rx.int_inv;obtain rfl:=ry.int_inv;exact⟨i,j,rfl,rfl,q _ H (aV.refl H) (.bl _)⟩
 ·cases ez
theorem aAb{g:Int->Int->Int}:∀x y z,i2 p (λ i j=>.int (g i j)) x y= .ok z->imm z=true:=by
 intro x y z e;unfold i2 at e;split at e
 ·split at e
  ·cases e;rfl
  ·cases e
 ·cases e
theorem aGT{g:Int->Int->Bool}:∀x y z,i2 p (λ i j=>.bl (g i j)) x y= .ok z->imm z=true:=by
 intro x y z e;unfold i2 at e;split at e
 ·split at e
  ·cases e;rfl
  ·cases e
 ·cases e
def au:D->D->Rs D
 | .int i,.int j=>.ok (.int (i+j))
 | .lst l,.lst m=>if l.length+m.length<=sizeLine then .ok (.lst (l++m))else .st
 | .tup l,.tup m=>if l.length+m.length<=sizeLine then .ok (.tup (l++m))else .st
 |_,_=>.st
def aIp(K:PySem.W.Frag):R2:=λ x y H Q=>∃a b xs ys,x= .ref a/\y= .ref b/\SqT K H a xs/\SqT K H b ys/\xs.length+ys.length<=sizeLine/\
 (xs=[]->Q (.ref b) H)/\(ys=[]->Q (.ref a) H)/\New H (.tup (xs++ys)) Q
theorem aHh:OpR X (binaryOp .Add) (aIp X.K):=by
 intro pins s σ H x y v u Q I rx ry h;obtain⟨a,b,xs,ys,rfl,rfl,ha,hb,hz,q0,q1,q2⟩:=h;by_cases hx:xs=[]
 ·subst hx
  cases rx;cases ry;obtain⟨its,r1,p1,_⟩:=I.tuple ha;obtain⟨its2,r2,p2,_⟩:=I.tuple hb;cases r1;exact HT.aGh p1 p2 ⟨.ref b,H,I,rfl,q0 rfl⟩
 ·exact aHi pins s σ H _ _ v u Q I rx ry ⟨a,b,xs,ys,rfl,rfl,ha,hb,hx,hz,q1,λ _ p hp=>q2.at hp⟩
def aDU(K:PySem.W.Frag):R2:=λ x y H Q=>rI0 (λ i j=>.int (i+j)) x y H Q\/(aF0 x y H Q\/aIp K x y H Q)
theorem aHj:OpR X (binaryOp .Add) (aDU X.K):=OpR.or aKI (OpR.or aAK aHh)
theorem aFk:OpS K (aDU K) au:=by
 intro A x y d e H Q z rx ry ez q;unfold au at ez;split at ez
 ·cases ez;obtain rfl:=rx.int_inv;obtain rfl:=ry.int_inv;exact .inl ⟨_,_,rfl,rfl,q _ H (aV.refl H) (.int _)⟩
 ·split at ez
  ·rename_i hl
   cases ez;obtain⟨_,_,rfl,h1,m1,r1⟩:=rx.lst_inv;obtain⟨_,_,rfl,h2,m2,r2⟩:=ry.lst_inv;refine .inr (.inl ⟨_,_,_,_,rfl,rfl,h1,h2,by rw[r1.length,r2.length];exact hl,λ p H' s hp hn=>q _ H' s (.lst hp (.inl hn) ?_)⟩);exact(((r1.wk λ _ _ _ z=>z.1).append (r2.wk λ _ _ _ z=>z.1)).wk (A':=λ q=>(H q=none\/A q)/\q≠p) λ q o e z=>⟨.inr z,λ e'=>by subst e';rw[hn]at e;cases e⟩).up s
  ·cases ez
 ·split at ez
  ·rename_i hl
   cases ez;obtain⟨_,_,rfl,h1,r1⟩:=rx.tup_inv;obtain⟨_,_,rfl,h2,r2⟩:=ry.tup_inv;have r1':=r1.wk (A':=λ p=>H p=none\/A p) λ _ _ _ z=>.inr z
   have r2':=r2.wk (A':=λ p=>H p=none\/A p) λ _ _ _ z=>.inr z
   refine .inr (.inr ⟨_,_,_,_,rfl,rfl,h1,h2,by rw[r1.length,r2.length];exact hl,λ e=>?_,λ e=>?_,λ p H' s hp hn=>q _ H' s (.tup (SqT.of hp) ((r1'.append r2').up s))⟩)
   ·subst e
    cases r1';exact q _ H (aV.refl H) (.tup h2 r2')
   ·subst e
    cases r2';rw[List.append_nil]at q;exact q _ H (aV.refl H) (.tup h1 r1')
  ·cases ez
 ·cases ez
def lr:D->D->Rs D
 | .int i,.int j=>if (decide (-(2^64)<i)&&decide (i<2^64))||(decide (-(2^64)<j)&&decide (j<2^64))then .ok (.int (i*j))else .st
 | .lst l,.int k=>if decide (-(2^63)<=k)&&decide (k<2^63)&&decide (l.length*k.toNat<=sizeLine)&&uw l then .ok (.lst (List.replicate k.toNat l).flatten)else .st
 |_,_=>.st
theorem Rps.rep(r:Rps K A H xs ds):∀k:Nat,Rps K A H (List.replicate k xs).flatten (List.replicate k ds).flatten
 |0=>.nil
 |k+1=>by
  rw[List.replicate_succ,List.replicate_succ,List.flatten_cons,List.flatten_cons];exact r.append (Rps.rep r k)
def aIl:R2:=λ x y H Q=>rI aIf (λ i j=>.int (i*j)) x y H Q\/aLR x y H Q
theorem aHf:OpR X (binaryOp .Mult) aIl:=OpR.or aJx aJu
theorem aJr:OpS K aIl lr:=by
 intro A x y d e H Q z rx ry ez q;unfold lr at ez;split at ez
 ·split at ez
  ·rename_i hc
   cases ez;obtain rfl:=rx.int_inv;obtain rfl:=ry.int_inv;refine .inl ⟨_,_,rfl,rfl,?_,q _ H (aV.refl H) (.int _)⟩;simp only[Bool.or_eq_true,Bool.and_eq_true,decide_eq_true_eq]at hc;exact hc
  ·cases ez
 ·split at ez
  ·rename_i hc
   simp only[Bool.and_eq_true,decide_eq_true_eq]at hc;cases ez;obtain⟨_,_,rfl,h1,m1,r1⟩:=rx.lst_inv;obtain rfl:=ry.int_inv;refine .inr ⟨_,_,_,rfl,rfl,h1,hc.1.1.1,hc.1.1.2,by rw[r1.length];exact hc.1.2,λ p hp=>q _ _ (bL hp _) (.lst bA (.inl hp) ?_)⟩;exact((r1.rep _).wk (A':=λ q=>(H q=none\/A q)/\q≠p) λ q o e z=>⟨.inr z.1,λ e'=>by subst e';rw[hp]at e;cases e⟩).up (bL hp _)
  ·cases ez
 ·cases ez
def intsOf:List D->Option (List Int)
 |[]=>some []
 | .int i::r=>(intsOf r).map (i::·)
 |_=>none
theorem cT:∀{l:List D} {ns:List Int},intsOf l=some ns->l=ns.map .int
 |[],ns,h=>by cases h;rfl
 | .int i::r,ns,h=>by
  simp only[intsOf,Option.map_eq_some_iff]at h;obtain⟨ms,h1,rfl⟩:=h;rw[cT h1];rfl
 | .non::_,_,h=>by cases h
 | .bl _::_,_,h=>by cases h
 | .str _::_,_,h=>by cases h
 | .tup _::_,_,h=>by cases h
 | .lst _::_,_,h=>by cases h
 | .dct _ _::_,_,h=>by cases h
 | .set _::_,_,h=>by cases h
 | .scr _::_,_,h=>by cases h
theorem fQ:∀ns:List Int,intsOf (ns.map .int)=some ns
 |[]=>rfl
 |n::ns=>by simp only[List.map_cons,intsOf,fQ ns,Option.map_some]
def ltT(p:List Int->List Int->Bool):D->D->Rs D
 | .tup l,.tup m=>match intsOf l,intsOf m with
  |some ns,some ms=>.ok (.bl (p ns ms))
  |_,_=>.st
 |_,_=>.st
theorem aDT(r:Rp K A H x (.tup l))(e:intsOf l=some ns):∃a,x= .ref a/\SqT K H a (ns.map V.int):=by
 have:=cT e
 subst this;cases r with
 |tup h r=>
  have:=r.ints_of
  subst this;exact⟨_,rfl,h⟩
theorem aDY(hr:∀x y H Q,(∃a b ns ms,x= .ref a/\y= .ref b/\SqT K H a (ns.map V.int)/\SqT K H b (ms.map V.int)/\Q (.bl (p ns ms)) H)->r x y H Q):OpS K r (ltT p):=by
 intro A x y d e H Q z rx ry ez q;unfold ltT at ez;split at ez
 ·split at ez
  ·rename_i ns ms e1 e2
   cases ez;obtain⟨a,rfl,ha⟩:=aDT rx e1;obtain⟨b,rfl,hb⟩:=aDT ry e2;exact hr _ _ _ _ ⟨a,b,ns,ms,rfl,rfl,ha,hb,q _ H (aV.refl H) (.bl _)⟩
  ·cases ez
 ·cases ez
def ltD:D->D->Rs D:=λ d e=>match i2 (λ _ _=>true) (λ i j=>.bl (decide (i<j))) d e with
 | .ok z=>.ok z
 |_=>ltT HT.lexLt d e
def leD:D->D->Rs D:=λ d e=>match i2 (λ _ _=>true) (λ i j=>.bl (decide (i<=j))) d e with
 | .ok z=>.ok z
 |_=>ltT HT.lexLe d e
def geD:D->D->Rs D:=i2 (λ _ _=>true) (λ i j=>.bl (decide (j<=i)))
theorem aJz(hu:X.A.units<cLine):OpR X (compareOp .Lt) (λ x y H Q=>rI0 (λ i j=>.bl (decide (i<j))) x y H Q\/aHU X.K x y H Q):=OpR.or aLZ (aKA hu)
theorem aKB(hu:X.A.units<cLine):OpR X (compareOp .LtE) (λ x y H Q=>rI0 (λ i j=>.bl (decide (i<=j))) x y H Q\/aHV X.K x y H Q):=OpR.or aL0 (aKC hu)
theorem aDZ:OpS K (λ x y H Q=>rI0 (λ i j=>.bl (decide (i<j))) x y H Q\/aHU K x y H Q) ltD:=OpS.or aC5 (aDY λ _ _ _ _ h=>h)
theorem aD0:OpS K (λ x y H Q=>rI0 (λ i j=>.bl (decide (i<=j))) x y H Q\/aHV K x y H Q) leD:=OpS.or aC5 (aDY λ _ _ _ _ h=>h)
theorem aDe(e:ltT p x y= .ok z):imm z=true:=by
 unfold ltT at e;split at e
 ·split at e
  ·cases e;rfl
  ·cases e
 ·cases e
theorem aCu:∀x y z,ltD x y= .ok z->imm z=true:=by
 intro x y z e;unfold ltD at e;split at e
 ·rename_i w hw;cases e;exact aGT _ _ _ hw
 ·exact aDe e
theorem aK8:∀x y z,leD x y= .ok z->imm z=true:=by
 intro x y z e;unfold leD at e;split at e
 ·rename_i w hw;cases e;exact aGT _ _ _ hw
 ·exact aDe e
def isD(neg:Bool):D->D->Rs D
 | .bl a,.bl b=>if neg then .st else .ok (.bl (a==b))
 |d,.non=>match d with
  | .non=>.ok (.bl (!neg))
  |_=>.ok (.bl neg)
 |_,_=>.st
theorem aKD:OpR X (compareOp .Is) (λ x y H Q=>(∃b c,x= .bl b/\y= .bl c/\Q (.bl (b==c)) H)\/(y= .non/\Q (.bl (decide (x= .non))) H)):=OpR.or aFl aKE
theorem aJ1(r:Rp K A H x d)(h:d≠.non):x≠.non:=by
 cases r with
 |non=>exact absurd rfl h
 |_=>exact λ e=>by cases e
theorem aLY:OpS K (λ x y H Q=>(∃b c,x= .bl b/\y= .bl c/\Q (.bl (b==c)) H)\/(y= .non/\Q (.bl (decide (x= .non))) H)) (isD false):=by
 intro A x y d e H Q z rx ry ez q;unfold isD at ez;split at ez
 ·cases ez;cases rx;cases ry;exact .inl ⟨_,_,rfl,rfl,q _ H (aV.refl H) (.bl _)⟩
 ·cases ry
  split at ez
  ·cases ez;cases rx;exact .inr ⟨rfl,by rw[decide_eq_true rfl];exact q _ H (aV.refl H) (.bl _)⟩
  ·rename_i hn
   cases ez;exact .inr ⟨rfl,by rw[decide_eq_false (aJ1 rx hn)];exact q _ H (aV.refl H) (.bl _)⟩
 ·cases ez
theorem aK9:∀x y z,isD n x y= .ok z->imm z=true:=by
 intro x y z e;unfold isD at e;split at e
 ·split at e
  ·cases e
  ·cases e;rfl
 ·split at e<;>(cases e;rfl)
 ·cases e
def aBY:D->Rs D
 | .int i=>.ok (.int (-i))
 |_=>.st
theorem aJG:UnS K (rU λ i=>.int (-i)) aBY:=by
 intro A x d H Q z rx ez q;cases rx with
 |int i=>cases ez;exact⟨i,rfl,q _ H (aV.refl H) (.int _)⟩
 |_=>cases ez
theorem aII:∀x z,aBY x= .ok z->imm z=true:=by
 intro x z e;cases x with
 |int i=>cases e;rfl
 |_=>cases e
def atD(l:List D)(i:Int):Rs D:=match atI l i with
 |some d=>.ok d
 |none=>.st
def ixD:D->D->Rs D
 | .tup l,.int i=>atD l i
 | .lst l,.int i=>atD l i
 | .scr l,.int i=>atD (l.map .int) i
 |_,_=>.st
theorem Rps.at(r:Rps K A H xs ds)(e:atI ds i=some d):∃x,atI xs i=some x/\Rp K A H x d:=by
 unfold atI at e ⊢;rw[r.length];cases h:ixN ds.length i with
 |none=>rw[h]at e;cases e
 |some j=>
  rw[h]at e;obtain⟨x,e1,e2⟩:=r.getD (i:=j) (d:=d) e;exact⟨x,e1,e2⟩
theorem aLX:OpS K (rIx K) ixD:=by
 intro A x y d e H Q z rx ry ez q;unfold ixD at ez;split at ez
 ·unfold atD at ez
  split at ez
  ·rename_i w hw
   cases ez;obtain⟨_,_,rfl,h,r⟩:=rx.tup_inv;obtain rfl:=ry.int_inv;obtain⟨v,e1,e2⟩:=r.at hw;exact .inr (.inl ⟨_,_,_,v,rfl,rfl,h,e1,q v H (aV.refl H) (e2.wk λ _ _ _ z=>.inr z)⟩)
  ·cases ez
 ·unfold atD at ez
  split at ez
  ·rename_i w hw
   cases ez;obtain⟨_,_,rfl,h,m,r⟩:=rx.lst_inv;obtain rfl:=ry.int_inv;obtain⟨v,e1,e2⟩:=r.at hw;exact .inl ⟨_,_,_,v,rfl,rfl,SqL.of h,e1,q v H (aV.refl H) (e2.wk λ _ _ _ z=>.inr z.1)⟩
  ·cases ez
 ·unfold atD at ez
  split at ez
  ·rename_i w hw
   cases ez;obtain⟨_,rfl,h⟩:=rx.scr_inv;obtain rfl:=ry.int_inv;obtain⟨v,e1,e2⟩:=(Rps.ints (K:=K) (A:=A) (H:=H)).at hw;exact .inl ⟨_,_,_,v,rfl,rfl,h.sq,e1,q v H (aV.refl H) (e2.wk λ _ _ _ z=>.inr z)⟩
  ·cases ez
 ·cases ez
def cO:List D->Rs D
 |[.tup l]=>.ok (.int l.length)
 |[.lst l]=>.ok (.int l.length)
 |[.scr l]=>.ok (.int l.length)
 |_=>.st
theorem aGe:qK K (λ xs H Q=>∃p ys,xs=[.ref p]/\(SqL K H p ys\/SqT K H p ys)/\Q (.int ys.length) H) cO:=by
 intro A xs ds H Q z r ez q;unfold cO at ez;split at ez
 ·cases ez
  obtain⟨_,rfl,h0⟩:=r.one_inv;obtain⟨_,_,rfl,h,r⟩:=h0.tup_inv;exact⟨_,_,rfl,.inr h,by rw[r.length];exact q _ H (aV.refl H) (.int _)⟩
 ·cases ez
  obtain⟨_,rfl,h0⟩:=r.one_inv;obtain⟨_,_,rfl,h,m,r⟩:=h0.lst_inv;exact⟨_,_,rfl,.inl (SqL.of h),by rw[r.length];exact q _ H (aV.refl H) (.int _)⟩
 ·cases ez
  obtain⟨_,rfl,h0⟩:=r.one_inv;obtain⟨_,rfl,h⟩:=h0.scr_inv;exact⟨_,_,rfl,.inl h.sq,by rw[List.length_map];exact q _ H (aV.refl H) (.int _)⟩
 ·cases ez
theorem aDf:∀x z,cO x= .ok z->imm z=true:=by
 intro x z e;unfold cO at e;split at e<;>first|(cases e;rfl)|cases e
def tyD:D->String
 | .non=>"NoneType"| .bl _=>"bool"| .int _=>"int"| .str _=>"str"| .tup _=>"tuple"| .lst _=>"list"| .dct _ _=>"dict"| .set _=>"set"| .scr _=>"script"| .fn _=>"function"
def fK(T:String):D->Rs D:=λ d=>if pZ (tyD d) T true=true then .ok (.bl true)else if pZ (tyD d) T false=true then .ok (.bl false)else .st
def aIm(K:PySem.W.Frag)(T:String):List V->Hp->VK->Prop:=λ xs H Q=>∃x d A b,xs=[x,.ty T]/\Rp K A H x d/\pZ (tyD d) T b=true/\Q (.bl b) H
theorem aEc:dG X (.builtin "isinstance") (aIm X.K T):=by
 intro pins s σ H xs us Q I rv h;obtain⟨x,d,A,b,rfl,rd,ok,q⟩:=h;cases rd with
 |tup h r=>
  obtain⟨u,w',rfl,ru,rw'⟩:=vals2 rv;cases ru;cases rw';obtain⟨its,_,⟨o,h1,h2,_⟩,_⟩:=I.tuple h;exact PySem.W.kia_one PySem.W.kitx_tuple I.kIn ⟨o,h1,h2⟩ (aCn ok) (λ z=>nomatch z) λ tk=>⟨.bl b,H,I.tok _,rfl,q⟩
 |set h m hS nd=>cases b<;>simp[pZ,tyD]at ok
 |scr h=>cases b<;>simp[pZ,tyD]at ok
 |fn h=>cases b<;>simp[pZ,tyD]at ok
 |non=>exact mO pins s σ H _ us Q I rv ⟨_,T,_,b,rfl,.non,ok,q⟩
 |bl c=>exact mO pins s σ H _ us Q I rv ⟨_,T,_,b,rfl,.bl c,ok,q⟩
 |int c=>exact mO pins s σ H _ us Q I rv ⟨_,T,_,b,rfl,.int c,ok,q⟩
 |str c=>exact mO pins s σ H _ us Q I rv ⟨_,T,_,b,rfl,.str c,ok,q⟩
 |lst h m r=>exact mO pins s σ H _ us Q I rv ⟨_,T,_,b,rfl,.lst h,ok,q⟩
 |dK h m r=>exact mO pins s σ H _ us Q I rv ⟨_,T,_,b,rfl,.dK h,ok,q⟩
 |dT h m r=>
  obtain⟨u,w',rfl,ru,rw'⟩:=vals2 rv;cases ru;cases rw';obtain⟨⟨_,_,_,o,_,_,_,h1,h2,_⟩,_⟩:=(show dZ X.prog X.w H s.heap _ (dxO _ _)from I.hok _ _ h.at_);exact PySem.W.kia_one PySem.W.kitx_dict I.kIn ⟨o,h1,h2.1⟩ (aCn ok) (λ z=>nomatch z) λ tk=>⟨.bl b,H,I.tok _,rfl,q⟩
end
section
variable{C:Ct}{pos p p2:Pos}{m:Mode}{a:Expr}{fa:En->Rs D}
theorem iU(ha:SE C m a fa)(hm:C.mg "isinstance"=none)(hmT:C.mg x=none)(hn:x≠"__name__":=by decide)(hd:(x==("__debug__":Str))=false:=by decide)(he:∀i,starEach [a,.Name x p2] (C.X i).env=(false,eval a (C.X i).env)::starEach [.Name x p2] (C.X i).env:=by intro _;rfl)(hpl:∀i,(backTo pos (starEach [.Name x p2] (C.X i).env)).any (·.1)=false:=by intro _;rfl)(hg:∀i,Gl (C.X i) "isinstance":=by intro _;rfl)(hv:bootBuiltins "isinstance"=some (.builtin "isinstance"):=by decide+kernel)(hgT:∀i,Gl (C.X i) x:=by intro _;rfl)(hvT:bootBuiltins x=some (.type T):=by decide+kernel):
  SE C (some []) (.Call (.Name "isinstance" p) [a,.Name x p2] [] pos) (op1 (fK T) fa):=by
 obtain⟨t,h1,h2⟩:=ha;refine⟨tCB (aIm C.K T) (jo t (jo (tC (.ty T)) rB)),λ i=>?_,λ τ σ H ρ lab Q R W=>?_⟩
 ·rw[<-C.hK i]
  exact rJ aEc (hg i) (by rw[(C.cx i).2.2.2.1];exact hm) hv (az (h1 i) (az (aDX (v:=.ty T) (hgT i) (by rw[(C.cx i).2.2.2.1];exact hmT) hvT rfl hn hd) dU) (he i)) (by decide) (by decide) (he i) (hpl i)
 ·refine h2 τ σ H ρ lab _ R (W.bd.imp λ d _ w x H1 s1 r1=>?_)
  obtain⟨z,ez,w⟩:=w.okD;unfold fK at ez;split at ez
  ·rename_i h;cases ez;exact⟨x,d,_,true,rfl,r1,h,w _ H1 s1 (.bl _)⟩
  ·split at ez
   ·rename_i h;cases ez;exact⟨x,d,_,false,rfl,r1,h,w _ H1 s1 (.bl _)⟩
   ·cases ez
end
def qN:Slot->Slot
 | .ow d=>.sh d
 | .nw d=>.sh d
 | .oz d=>.sh d
 | .o2 l=>.sh (.lst (l.map .lst))
 |s=>s
def shE(ρ:En):En:=ρ.map qN
def stV(js:List (Option Nat))(σ:L2.St):L2.St:=js.map λ o=>o.bind λ j=>(σ[j]?).join
def stE(js:List (Option Nat))(ρ:En):En:=js.map λ o=>match o with
 |none=>.no
 |some j=>(ρ[j]?).getD .no
theorem aHR{K:PySem.W.Frag}(h:gH K H lab i v s):∃d,(s= .no\/qN s= .sh d)/\(s= .no\/Rp K (λ _=>True) H v d):=by
 cases s with
 |no=>exact⟨.non,.inl rfl,.inl rfl⟩
 |sh d=>exact⟨d,.inr rfl,.inr (Rp.wk (λ _ _ _ _=>trivial) h)⟩
 |nw d=>exact⟨d,.inr rfl,.inr (Rp.wk (λ _ _ _ _=>trivial) h)⟩
 |ow d=>exact⟨d,.inr rfl,.inr (Rp.wk (λ _ _ _ _=>trivial) h.1)⟩
 |oz d=>exact⟨d,.inr rfl,.inr (Rp.wk (λ _ _ _ _=>trivial) (aIt h))⟩
 |o2 l=>exact⟨_,.inr rfl,.inr (Rp.wk (λ _ _ _ _=>trivial) (aD3 h))⟩
theorem RR.shE{K:PySem.W.Frag}(R:RR K G τ ρ σ H lab):RR K G τ (shE ρ) σ H (λ _=>(0,0)):=by
 refine⟨by unfold VL.shE;rw[List.length_map];exact R.len,λ i s e=>?_,R.old,λ p hp=>absurd rfl hp,λ q hq=>(R.tm q hq).wk λ _ _ _ _=>Nat.zero_le _⟩;unfold VL.shE at e;rw[List.getElem?_map]at e;cases e0:ρ[i]? with
 |none=>rw[e0]at e;cases e
 |some s0=>
  rw[e0]at e;cases e;rcases R.sl i s0 e0 with rfl|⟨v,ev,hv⟩
  ·exact .inl rfl
  ·obtain⟨d,h1,h2⟩:=aHR hv
   rcases h1 with rfl|h1
   ·exact .inl rfl
   ·rcases h2 with rfl|h2
    ·exact .inl rfl
    ·exact .inr ⟨v,ev,by rw[h1];exact h2.wk λ _ _ _ _=>Nat.zero_le _⟩
theorem aFA{i:Nat}(e:(stE js ρ)[i]? =some s):s= .no\/∃j,js[i]? =some (some j)/\ρ[j]? =some s:=by
 unfold stE at e;rw[List.getElem?_map]at e;cases ej:js[i]? with
 |none=>rw[ej]at e;cases e
 |some o=>
  rw[ej]at e;cases o with
  |none=>cases e;exact .inl rfl
  |some j=>
   cases er:ρ[j]? with
   |none=>simp[er]at e;exact .inl e.symm
   |some s'=>simp[er]at e;subst e;exact .inr ⟨j,rfl,er⟩
theorem RR.block{K:PySem.W.Frag}{τ:List (V×D)}(R:RR K G τ (VL.shE ρ) σ H lab)(hz:∀p,(lab p).1<=1)(hl:H l=none):
  RR K G τ (stE js (VL.shE ρ)) (stV js σ) H (λ p=>if p=l then(2,0)else(0,0)):=by
 have nl:∀p o,H p=some o->p≠l:=λ p o e z=>by subst z;rw[hl]at e;cases e
 refine⟨by unfold stE stV;rw[List.length_map,List.length_map],λ i s e=>?_,R.old,λ p hp=>?_,λ q hq=>(R.tm q hq).wk λ p o e _=>by rw[if_neg (nl p o e)];exact Nat.zero_le _⟩
 ·rcases aFA e with rfl|⟨j,ej,es⟩
  ·exact .inl rfl
  ·rcases R.sl j s es with rfl|⟨v,ev,hv⟩
   ·exact .inl rfl
   ·refine .inr ⟨v,?_,?_⟩
    ·unfold stV
     rw[List.getElem?_map,ej];simp[ev]
    ·unfold VL.shE at es
     rw[List.getElem?_map]at es;cases e0:ρ[j]? with
     |none=>rw[e0]at es;cases es
     |some s0=>
      rw[e0]at es;cases es;cases s0 with
      |no=>trivial
      |oz d=>exact Rp.wk (λ p o e _=>by show(if p=l then((2,0):Nat×Nat)else(0,0)).1<=1;rw[if_neg (nl p o e)];exact Nat.zero_le _) hv
      |nw d=>exact Rp.wk (λ p o e _=>by show(if p=l then((2,0):Nat×Nat)else(0,0)).1<=1;rw[if_neg (nl p o e)];exact Nat.zero_le _) hv
      |sh d=>exact Rp.wk (λ p o e _=>by show(if p=l then((2,0):Nat×Nat)else(0,0)).1<=1;rw[if_neg (nl p o e)];exact Nat.zero_le _) hv
      |ow d=>exact Rp.wk (λ p o e _=>by show(if p=l then((2,0):Nat×Nat)else(0,0)).1<=1;rw[if_neg (nl p o e)];exact Nat.zero_le _) hv
      |o2 d=>exact Rp.wk (λ p o e _=>by show(if p=l then((2,0):Nat×Nat)else(0,0)).1<=1;rw[if_neg (nl p o e)];exact Nat.zero_le _) hv
 ·by_cases hp':p=l
  ·subst hp';exact R.old.free hl
  ·exact absurd (show(if p=l then((2,0):Nat×Nat)else(0,0)).1=0 by rw[if_neg hp']) hp
def aMB(XN N:List Str)(js:List (Option Nat))(ks:List Nat)(sc:Scope):Bool:=(List.range js.length).all λ i=>match js[i]? with
 |some (some j)=>match N[i]?,XN[j]? with
  |some x,some y=>x==y&&sc.names.lookup x==some .free&& !ks.contains i
  |_,_=>false
 |_=>true
theorem aAn(h1:sc.kind= .function)(h2:(sc.names.all λ y=>y.2 != .cell)=true)(h3:(sc.names.all λ y=>y.2 != .local||sc.names.lookup y.1==some .local)=true)
  (h4:(sc.names.all λ y=>y.2 != .free||(X.env.kindOf y.1==some .cell||X.env.kindOf y.1==some .free))=true)(h5:js.length=N.length)(h6:aMB X.N N js ks sc=true):fZ X sc N (stV js) ks:=by
 refine⟨h1,λ y hy=>?_,λ y hy e=>?_,λ y hy e=>?_,λ σ=>by unfold stV;rw[List.length_map];exact h5,λ σ i x v e1 e2=>?_⟩
 ·have:=List.all_eq_true.mp h2 y hy
  simpa using this
 ·have:=List.all_eq_true.mp h3 y hy
  rw[e]at this;simpa using this
 ·have:=List.all_eq_true.mp h4 y hy
  rw[e]at this;simpa using this
 ·unfold stV at e2
  rw[List.getElem?_map]at e2;cases ej:js[i]? with
  |none=>rw[ej]at e2;cases e2
  |some o=>
   rw[ej]at e2;cases o with
   |none=>cases e2
   |some j=>
    have hi:i<js.length:=(List.getElem?_eq_some_iff.mp ej).1
    have:=List.all_eq_true.mp h6 i (List.mem_range.mpr hi)
    rw[ej,e1]at this;dsimp only at this;cases ey:X.N[j]? with
    |none=>rw[ey]at this;cases this
    |some y=>
     rw[ey]at this;simp only[Bool.and_eq_true,beq_iff_eq,Bool.not_eq_true']at this;obtain⟨⟨h,h'⟩,h''⟩:=this;subst h;refine⟨h',λ hk=>?_,j,ey,?_⟩
     ·rw[List.contains_iff_mem.mpr hk]at h'';cases h''
     ·simp only[Option.map_some,Option.bind_some,Option.some.injEq]at e2
      cases es:σ[j]? with
      |none=>rw[es]at e2;cases e2
      |some w=>rw[es]at e2;simp at e2;subst e2;rfl
abbrev Ct.blk(C:Ct)(sc:Scope)(N:List Str):Ct where
 ι:=C.ι×Addr×List Addr×Shared×Hp
 X:=λ i=>(C.X i.1).block sc i.2.1 N i.2.2.1 i.2.2.2.1 i.2.2.2.2
 prog:=C.prog
 w:=C.w
 K:=C.K
 mg:=C.mg
 base:=C.base
 k:=C.k
 G:={C.G with E:=λ _ _ _=>False}
 cx:=λ i=>C.cx i.1
 calm:=λ i=>C.calm i.1
 room:=λ i=>C.room i.1
 own:=λ i=>PassesOwn.never
 pass:=λ i pins σ H s e s' I h=>by obtain⟨_,_,_,_,_,_,_,_,_,_,_,_,_,hE⟩:=h;exact hE
 dOk:=false
 dcx:=λ h=>absurd h Bool.false_ne_true
def lcL(ρ:En)(fg:D->En->Rs En)(ft:En->Rs Bool)(fe:En->Rs D):List D->Rs (List D)
 |[]=>.ok []
 |d::ds=>(fg d ρ).bd λ ρ1=>(ft ρ1).bd λ k=>if k=true then(fe ρ1).bd λ y=>(lcL ρ fg ft fe ds).bd λ ys=>.ok (y::ys)else lcL ρ fg ft fe ds
def lcD(fi:En->Rs (List D))(js:List (Option Nat))(fg:D->En->Rs En)(ft:En->Rs Bool)(fe:En->Rs D):En->Rs D:=λ ρ=>(fi (shE ρ)).bd λ ds=>
 if ds.length<sizeLine then(match lcL (stE js (shE ρ)) fg ft fe ds with
  | .ok l=>.ok (.lst l)
  |_=>.st)else .st
def aEe(C:Ct)(ifs:List Expr)(f:En->Rs Bool):Prop:=∃t,(∀i,aAs (C.X i) ifs t)/\aBs C.K C.G t f
def cz:En->Rs Bool:=λ _=>.ok true
theorem lM:aEe C [] cz:=⟨_,λ _=>aJd,λ τ σ H ρ lab Q R W=>W H (aV.refl H)⟩
theorem aCK(h:ST C c f):aEe C [c] f:=let⟨t,h1,h2⟩:=h;⟨t,λ i=>aJc (h1 i),h2⟩
theorem aB1(h:lcL ρ fg ft fe (d::ds)= .ok l):
  ∃ρ1 k,fg d ρ= .ok ρ1/\ft ρ1= .ok k/\((k=true/\∃y ys,fe ρ1= .ok y/\lcL ρ fg ft fe ds= .ok ys/\l=y::ys)\/(k=false/\lcL ρ fg ft fe ds= .ok l)):=by
 unfold lcL at h;obtain⟨ρ1,e1,h⟩:=cP h;obtain⟨k,e2,h⟩:=cP h;refine⟨ρ1,k,e1,e2,?_⟩;cases k with
 |true=>
  rw[if_pos rfl]at h;obtain⟨y,e3,h⟩:=cP h;obtain⟨ys,e4,h⟩:=cP h;cases h;exact .inl ⟨rfl,y,ys,e3,e4,rfl⟩
 |false=>
  rw[if_neg Bool.false_ne_true]at h;exact .inr ⟨rfl,h⟩
theorem RR.but_blk{K:PySem.W.Frag}{τ:List (V×D)}(R:RR K G τ (stE js (VL.shE ρ)) σ H (λ p=>if p=l then(2,0)else(0,0)))(B:mW l H H')(hl:H l=some o)(ho:kJ o=true)(h0:G.H0 l=none):
  RR K G τ (stE js (VL.shE ρ)) σ H' (λ p=>if p=l then(2,0)else(0,0)):=by
 have lab1l:¬((λ p=>if p=l then((2,0):Nat×Nat)else(0,0)) l).1<=1:=by simp
 refine⟨R.len,λ j s e=>?_,λ b o hb=>?_,R.new,λ q hq=>(R.tm q hq).but B hl ho lab1l⟩
 ·rcases R.sl j s e with z|⟨u,e1,e2⟩
  ·exact .inl z
  ·refine .inr ⟨u,e1,?_⟩
   rcases aFA e with rfl|⟨jx,ej,es⟩
   ·trivial
   ·unfold VL.shE at es
    rw[List.getElem?_map]at es;cases e0:ρ[jx]? with
    |none=>rw[e0]at es;cases es
    |some s0=>rw[e0]at es;cases es;cases s0<;>first|trivial|exact Rp.but B hl ho lab1l e2
 ·exact B b o (λ z=>by subst z;rw[h0]at hb;cases hb) (R.old b o hb)
theorem RR.blk0{K:PySem.W.Frag}(R:RR K G τ (VL.shE ρ) σ H lab)(hG:G'.H0=G.H0):RR K G' τ (VL.shE ρ) σ H (λ _=>(0,0)):=by
 refine⟨R.len,λ i s e=>?_,by rw[hG];exact R.old,λ p hp=>absurd rfl hp,λ q hq=>(R.tm q hq).wk λ _ _ _ _=>Nat.zero_le _⟩;rcases R.sl i s e with rfl|⟨v,ev,hv⟩
 ·exact .inl rfl
 ·unfold VL.shE at e
  rw[List.getElem?_map]at e;cases e0:ρ[i]? with
  |none=>rw[e0]at e;cases e
  |some s0=>rw[e0]at e;cases e;cases s0<;>first|exact .inl rfl|exact .inr ⟨v,ev,Rp.wk (λ _ _ _ _=>Nat.zero_le _) hv⟩
section
variable{K:PySem.W.Frag}{G:Gx}{wi:TI}{fi:En->Rs (List D)}{js:List (Option Nat)}{g:TG}{fg:D->En->Rs En}{tt:TT}{ft:En->Rs Bool}{te:TE}{fe:En->Rs D}
theorem aFG(hi:aGp K G wi fi)(hg:aGq K {G with E:=λ _ _ _=>False} g fg)(ht:aBs K {G with E:=λ _ _ _=>False} tt ft)(he:lA K {G with E:=λ _ _ _=>False} (some []) te fe):
  lA K G (some []) (tLC wi (stV js) g tt te) (lcD fi js fg ft fe):=by
 intro τ σ H ρ lab Q R W;refine hi τ σ H _ _ _ R.shE (W.bd.imp λ ds _ w J H1 lab1 τ1 s1 _ R1 jl=>?_);intro l hl;obtain⟨hlen,out,hout,w⟩:ds.length<sizeLine/\∃out,lcL (stE js (VL.shE ρ)) fg ft fe ds= .ok out/\QE K (some []) lab H Q (.lst out):=by
  by_cases hlen:ds.length<sizeLine
  ·rw[if_pos hlen]at w
   cases hout:lcL (stE js (VL.shE ρ)) fg ft fe ds with
   |ok out=>rw[hout]at w;exact⟨hlen,out,rfl,w⟩
   |ex c=>rw[hout]at w;exact False.elim w
   |st=>rw[hout]at w;exact False.elim w
  ·rw[if_neg hlen]at w
   exact False.elim w
 have R0:RR K {G with E:=λ _ _ _=>False} (τ1++τ) (VL.shE ρ) σ H1 (λ _=>(0,0)):=R1.blk0 rfl;have RB:=R0.block (js:=js) (λ _=>Nat.zero_le _) hl;have hHl:H l=none:=s1.free hl;have lab1l:¬((λ p=>if p=l then((2,0):Nat×Nat)else(0,0)) l).1<=1:=by simp
 refine⟨λ i n acc H2=>∃pre,n=ds.length-i/\i<=ds.length/\H2 l=some (.lst acc)/\RR K {G with E:=λ _ _ _=>False} (τ1++τ) (stE js (VL.shE ρ)) (stV js σ) H2 (λ p=>if p=l then(2,0)else(0,0))/\aV H H2/\acc.length<=i/\
  Rps K (λ p=>H p=none/\p≠l) H2 acc pre/\∃post,lcL (stE js (VL.shE ρ)) fg ft fe (ds.drop i)= .ok post/\out=pre++post,⟨ds.length,[],by lia,by lia,bA,RB.up (bL hl _),s1.trans (bL hl _),Nat.le_refl _,.nil,out,hout,rfl⟩,?_⟩
 rintro i n acc H2 ⟨pre,rfl,hi,hH2,R2,s2,hacc,rpre,post,hpost,eout⟩;refine⟨hH2,by lia,?_⟩;have jj:=jl _ H2 λ q hq=>R2.tm q (List.mem_append_left _ hq)
 by_cases hlt:i<ds.length
 ·obtain⟨go,yl⟩:=(jj i).2 hlt
  refine .inr ⟨go,λ x H3 hy=>?_⟩;obtain⟨s3,d,ed,rx⟩:=yl x H3 hy;replace R2:=R2.up s3;replace hH2:=s3 _ _ hH2;replace s2:=s2.trans s3;replace rpre:=rpre.up s3;have ed2:ds.drop i=d::ds.drop (i+1):=by
   rw[List.drop_eq_getElem_cons hlt]
   have:=List.getElem?_eq_getElem hlt
   rw[ed]at this;cases this;rfl
  rw[ed2]at hpost;obtain⟨ρ1,k,e1,e2,e3⟩:=aB1 hpost;refine hg (τ1++τ) x d _ H3 _ _ _ ρ1 R2 rx e1 λ σ4 R4=>?_
  refine ht (τ1++τ) σ4 H3 ρ1 _ _ R4 ?_;rw[e2];intro H5 s5;rcases e3 with ⟨rfl,y,ys,e3,e4,rfl⟩|⟨rfl,e4⟩
  ·rw[if_pos rfl]
   refine he (τ1++τ) σ4 H5 ρ1 _ _ (R4.up s5) ?_;rw[e3];intro v H6 s6 r6;have hl6:H6 l=some (.lst acc):=s6 _ _ (s5 _ _ hH2);have B:mW l H6 (upd H6 l (.lst (acc++[v]))):=λ b o ne hb=>by rw[aZ ne];exact hb
   refine⟨hl6,ds.length-(i+1),by lia,pre++[y],rfl,hlt,bA,?_,?_,by rw[List.length_append];simp;lia,?_,ys,e4,by rw[eout];simp⟩
   ·exact(R2.up (s5.trans s6)).but_blk B hl6 rfl (R1.old.free hl)
   ·exact λ b o hb=>B b o (λ z=>by subst z;rw[hHl]at hb;cases hb) (((s2.trans s5).trans s6) b o hb)
   ·refine((rpre.up (s5.trans s6)).append (.cons (r6.wk λ p o _ z=>?_) .nil)).but B hl6 rfl λ z=>z.2 rfl
    rcases z with z|z
    ·exact⟨(s2.trans s5).free z,λ e=>by subst e;rw[s5 _ _ hH2]at z;cases z⟩
    ·cases z
  ·rw[if_neg Bool.false_ne_true]
   exact⟨ds.length-(i+1),by lia,pre,rfl,hlt,s5 _ _ hH2,R2.up s5,s2.trans s5,by lia,rpre.up s5,post,e4,eout⟩
 ·have ei:i=ds.length:=by lia
  subst ei;rw[List.drop_length]at hpost;cases hpost;rw[List.append_nil]at eout;subst eout;exact .inl ⟨(jj _).1 (Nat.le_refl _),w _ H2 s2 (.lst hH2 (.inl hHl) (rpre.wk λ p o _ z=>⟨.inl z.1,z.2⟩))⟩
end
section
variable{C:Ct}{pos:Pos}{elt tg iter:Expr}{ifs:List Expr}{sc:Scope}{N:List Str}{js:List (Option Nat)}{ks:List Nat}{fi:En->Rs (List D)}{fg:D->En->Rs En}{ft:En->Rs Bool}{fe:En->Rs D}
theorem cF{C:Ct}(nd:N.Nodup:=by decide+kernel)(hk:i∈ks:=by decide)(hN:∀j,((C.blk sc N).X j).N[i]? =some x:=by intro _;rfl)(hx:∀j,Loc ((C.blk sc N).X j).env.scope x:=by intro _;first|exact Or.inl rfl|exact Or.inr rfl)
  (hf:∀j,((C.blk sc N).X j).fn x=true\/((C.blk sc N).X j).env.scope.names.lookup x=some .local:=by intro _;first|exact .inl rfl|exact .inr rfl):SG (C.blk sc N) (.Name x pos) ks (gnm i):=
 bx hN hx hf (λ _=>nd) hk
theorem vf(hi:SI C tg iter fi)(hg:SG (C.blk sc N) tg ks fg)(ht:aEe (C.blk sc N) ifs ft)(he:SE (C.blk sc N) (some []) elt fe)(hs:∀i x,foldedSetIterable iter (C.X i).env x=pure x:=by intro _ _;rfl)(hB:∀i,fZ (C.X i) sc N (stV js) ks:=by intro _;exact aAn rfl rfl rfl rfl rfl rfl):SE C (some []) (.ListComp elt [⟨tg,iter,ifs,0⟩] sc pos) (lcD fi js fg ft fe):=by
 obtain⟨wi,i1,i2⟩:=hi;obtain⟨g,g1,g2,g3,g4⟩:=hg;obtain⟨tt,t1,t2⟩:=ht;obtain⟨te,e1,e2⟩:=he;exact⟨_,λ i=>aLV (hB i) (C.calm i) (i1 i) (λ c fp s₀ H₀=>g1 (i,c,fp,s₀,H₀)) g3 (λ c fp s₀ H₀=>t1 (i,c,fp,s₀,H₀)) (λ c fp s₀ H₀=>e1 (i,c,fp,s₀,H₀)) (hs i),aFG i2 g2 t2 e2⟩
theorem aLG(hi:SI C tg iter fi)(hg:SG (C.blk sc N) tg ks fg)(ht:aEe (C.blk sc N) ifs ft)(he:SE (C.blk sc N) (some []) elt fe)(hN:∀j,(C.X j).N[i]? =some x:=by intro _;rfl)(hx:∀j,Loc (C.X j).env.scope x:=by intro _;first|exact Or.inl rfl|exact Or.inr rfl)(hsw:∀j,swapsWith (.ListComp elt [⟨tg,iter,ifs,0⟩] sc pos) (some (.Name x pos')) spos.line (C.X j).env=pure true:=by intro _;rfl)(hs:∀i x,foldedSetIterable iter (C.X i).env x=pure x:=by intro _ _;rfl)(hf:∀j,(C.X j).fn x=true\/(C.X j).env.scope.names.lookup x=some .local:=by intro _;first|exact .inl rfl|exact .inr rfl)(nd:∀j,(C.X j).N.Nodup:=by intro _;assumption)(hB:∀i,fZ (C.X i) sc N (stV js) ks:=by intro _;exact aAn rfl rfl rfl rfl rfl rfl):
  SV C i (.Assign [.Name x pos'] (.ListComp elt [⟨tg,iter,ifs,0⟩] sc pos) spos) (some []) (lcD fi js fg ft fe):=by
 obtain⟨wi,i1,i2⟩:=hi;obtain⟨g,g1,g2,g3,g4⟩:=hg;obtain⟨tt,t1,t2⟩:=ht;obtain⟨te,e1,e2⟩:=he;exact⟨_,λ j=>aBQ (nd j) (hN j) (hx j) (hB j) (C.calm j) (i1 j) (λ c fp s₀ H₀=>g1 (j,c,fp,s₀,H₀)) g3 (λ c fp s₀ H₀=>t1 (j,c,fp,s₀,H₀)) (λ c fp s₀ H₀=>e1 (j,c,fp,s₀,H₀)) (hsw j) (hs j) (hf j),aFG i2 g2 t2 e2⟩
end
section
variable{K:PySem.W.Frag}{G:Gx}{wi:TI}{fi:En->Rs (List D)}{js:List (Option Nat)}{g:TG}{fg:D->En->Rs En}{tt:TT}{ft:En->Rs Bool}{te:TE}{fe:En->Rs D}{m:Mode}
end
section
variable{C:Ct}{pos:Pos}{elt tg iter:Expr}{ifs:List Expr}{sc:Scope}{N:List Str}{js:List (Option Nat)}{ks:List Nat}{fi:En->Rs (List D)}{fg:D->En->Rs En}{ft:En->Rs Bool}{fe:En->Rs D}{m:Mode}
end
theorem RR.mut{K:PySem.W.Frag}(R:RR K G τ ρ σ H lab)(ev:σ[i]? =some (some v))(hl:H l=some o)(ho:kJ o=true)(hlab:(lab l).1=i+2)
  (B:mW l H H')(h':gH K H' lab i v s'):RR K G τ (ρ.set i s') σ H' lab:=by
 refine⟨by rw[List.length_set];exact R.len,λ j x e=>?_,λ b u hb=>B b u (λ z=>?_) (R.old b u hb),R.new,λ q hq=>(R.tm q hq).but B hl ho λ z=>by lia⟩
 ·by_cases hj:i=j
  ·subst hj
   have hi:i<ρ.length:=by
    have:=(List.getElem?_eq_some_iff.mp e).1
    rwa [List.length_set]at this
   rw[List.getElem?_set_self hi]at e;cases e;exact .inr ⟨v,ev,h'⟩
  ·rw[List.getElem?_set_ne hj]at e
   rcases R.sl j x e with z|⟨u,e1,e2⟩
   ·exact .inl z
   ·refine .inr ⟨u,e1,?_⟩
    cases x with
    |no=>trivial
    |sh d=>exact Rp.but B hl ho (λ z=>by lia) e2
    |nw d=>exact Rp.but B hl ho (λ z=>by lia) e2
    |ow d=>exact⟨Rp.but B hl ho (λ z=>by lia) e2.1,e2.2⟩
    |oz d=>
     obtain⟨a,xs,ds,q1,q2,q3,q4,q5⟩:=e2;exact⟨a,xs,ds,q1,q2,B a _ (λ z=>by subst z;exact hj (by lia)) q3,q4,Rps.but B hl ho (λ z=>by lia) q5⟩
    |o2 ll=>
     obtain⟨a,xs,q1,q2,q3,q4,q5⟩:=e2;refine⟨a,xs,q1,B a _ (λ z=>?_) q2,q3,q4,λ jj y ds f1 f2=>(q5 jj y ds f1 f2).but B hl ho λ z=>?_⟩
     ·rw[z]at q3;rw[q3]at hlab;exact hj (by simpa using hlab.symm)
     ·rw[z]at hlab;exact hj (by simpa using hlab.symm)
 ·subst z
  have:=R.new b (by rw[hlab];lia)
  rw[this]at hb;cases hb
section
variable{C:Ct}{pos apos cpos p:Pos}{e a:Expr}{fe fa:En->Rs D}{i:Nat}{x:Str}{m:Mode}
def yV(i:Nat)(fe:En->Rs D):En->Ou:=λ ρ=>match ρ[i]? with
 |some (.ow (.lst ds))=>(fe ρ).bo λ d=>if ds.length<sizeLine then .nx (ρ.set i (.ow (.lst (ds++[d]))))else .st
 |_=>.st
theorem sX(i:Nat)(he:SE C m e fe)(hm:okN m=true:=by rfl)(hN:∀j,(C.X j).N[i]? =some x:=by intro _;rfl)(hv:∀j,Vis (C.X j).env.scope x:=by intro _;first|exact Or.inl rfl|exact Or.inr (Or.inl rfl)|exact Or.inr (Or.inr rfl))(hd:(x==("__debug__":Str))=false:=by decide)
  (hcd:(x==("__classdict__":Str))=false:=by decide)(hs1:∀j,starEach [e] (C.X j).env=[(false,eval e (C.X j).env)]:=by intro _;rfl)
  (hbase:∀j,attributeBase (.Name x p) "append" (C.X j).env (eval (.Name x p) (C.X j).env)=eval (.Name x p) (C.X j).env:=by intro _;rfl)
  (hfew:∀j,((backTo cpos (starEach [e] (C.X j).env)).all (λ x=>!x.1)&&(backToKw cpos (keywordEach [] (C.X j).env)).all (λ x=>x.1.isSome)&&decide ([e].length+([]:List Keyword).length+(if ([]:List Keyword).isEmpty then 0 else 1)<30))=true:=by intro _;rfl)
  (hline:(apos.endLine==cpos.line)=true:=by rfl)
  (hsw:∀j,swapsWith (.Call (.Attribute (.Name x p) "append" apos) [e] [] cpos) none pos.line (C.X j).env=pure false:=by intro _;rfl):
  SS C (.Expr (.Call (.Attribute (.Name x p) "append" apos) [e] [] cpos) pos) (yV i fe):=by
 obtain⟨t,h1,h2⟩:=he;refine⟨v4 (tBM C.K "list" wB (n8 i) (jo t rB)),λ j=>pB (by rw[<-C.hK j];exact yr PySem.F.plainAttrs_list PySem.F.slot_list_append PySem.F.type_list_append wK (iK (hN j) (hv j) hd hcd) (az (h1 j) dU (hs1 j)) (hbase j) (hfew j) hline (hs1 j) rfl) (hsw j),λ τ σ H ρ lab De R W=>?_⟩;unfold yV at W;cases es:ρ[i]? with
 |none=>rw[es]at W;exact False.elim W
 |some s=>
  rw[es]at W;split at W
  ·rename_i ds hs
   cases hs;rcases R.sl i _ es with z|⟨v,ev,hv'⟩
   ·cases z
   ·obtain⟨hv1,htop⟩:=hv'
    obtain⟨a0,ea0,la0⟩:=htop rfl;subst ea0;cases hv1 with
    |lst h mm r=>
     rename_i xs;refine⟨.ref a0,ev,.inl ⟨rfl,xs,SqL.of h⟩,h2 τ σ H ρ lab _ R (W.bo.imp λ d _ w y H2 s2 r2=>?_)⟩;by_cases hz:ds.length<sizeLine
     ·rw[if_pos hz]at w
      refine⟨a0,xs,y,rfl,rfl,s2 _ _ h,by rw[r.length];exact hz,λ H3 B h3=>?_⟩;obtain⟨R',r'⟩:=R.fresh (P:=λ k=>k=1) rfl (λ k hk=>beq_iff_eq.mp (pF hm k hk)) s2 r2;have la:(cJ H 1 lab a0).1=i+2:=by rw[bc h];exact la0
      refine w σ H3 _ (R'.mut ev (s2 _ _ h) rfl la B ⟨.lst h3 (.inr la) ?_,λ _=>⟨a0,rfl,la⟩⟩);have ra:Rps C.K (λ p=>((cJ H 1 lab p).1=1\/(cJ H 1 lab p).1=i+2)/\p≠a0) H2 (xs++[y]) (ds++[d]):=by
       refine(r.mono s2 λ p o e z=>⟨by rw[bc e];exact z.1,z.2⟩).append (.cons (r'.wk λ p o e z=>⟨.inl z,λ q=>?_⟩) .nil);subst q;rw[la]at z;lia
      exact ra.but B (s2 _ _ h) rfl λ z=>z.2 rfl
     ·rw[if_neg hz]at w
      exact False.elim w
  ·exact False.elim W
def at2(ll:List (List D)):D->Option (Nat×List D)
 | .int n=>(ixN ll.length n).bind λ j=>(ll[j]?).map λ ds=>(j,ds)
 |_=>none
def j6(i:Nat)(fa fe:En->Rs D):En->Ou:=λ ρ=>match ρ[i]? with
 |some (.o2 ll)=>(fa ρ).bo λ k=>match at2 ll k with
  |some (j,ds)=>(fe ρ).bo λ d=>if ds.length<sizeLine then .nx (ρ.set i (.o2 (ll.set j (ds++[d]))))else .st
  |none=>.st
 |_=>.st
theorem aGm(h:at2 ll k=some (j,ds)):∃n,k= .int n/\ixN ll.length n=some j/\ll[j]? =some ds:=by
 cases k with
 |int n=>
  simp only[at2,Option.bind_eq_some_iff,Option.map_eq_some_iff]at h;obtain⟨j',h1,ds',h2,h3⟩:=h;cases h3;exact⟨n,rfl,h1,h2⟩
 |_=>cases h
theorem m6(i:Nat){p2:Pos}(ha:SE C m a fa)(he:SE C (some []) e fe)(hN:∀j,(C.X j).N[i]? =some x:=by intro _;rfl)(hv:∀j,Vis (C.X j).env.scope x:=by intro _;first|exact Or.inl rfl|exact Or.inr (Or.inl rfl)|exact Or.inr (Or.inr rfl))(hd:(x==("__debug__":Str))=false:=by decide)
  (hcd:(x==("__classdict__":Str))=false:=by decide)(hs1:∀j,starEach [e] (C.X j).env=[(false,eval e (C.X j).env)]:=by intro _;rfl)(hp:aAr a:=by exact λ _ _=>rfl)
  (hbase:∀j,attributeBase (.Subscript (.Name x p) a p2) "append" (C.X j).env (eval (.Subscript (.Name x p) a p2) (C.X j).env)=eval (.Subscript (.Name x p) a p2) (C.X j).env:=by intro _;rfl)
  (hfew:∀j,((backTo cpos (starEach [e] (C.X j).env)).all (λ x=>!x.1)&&(backToKw cpos (keywordEach [] (C.X j).env)).all (λ x=>x.1.isSome)&&decide ([e].length+([]:List Keyword).length+(if ([]:List Keyword).isEmpty then 0 else 1)<30))=true:=by intro _;rfl)
  (hline:(apos.endLine==cpos.line)=true:=by rfl)
  (hsw:∀j,swapsWith (.Call (.Attribute (.Subscript (.Name x p) a p2) "append" apos) [e] [] cpos) none pos.line (C.X j).env=pure false:=by intro _;rfl):
  SS C (.Expr (.Call (.Attribute (.Subscript (.Name x p) a p2) "append" apos) [e] [] cpos) pos) (j6 i fa fe):=by
 obtain⟨t,h1,h2⟩:=he;obtain⟨ta,a1,a2⟩:=ha;refine⟨v4 (tBM C.K "list" wB (tOp (aJ3 C.K) (n8 i) ta) (jo t rB)),λ j=>pB (by rw[<-C.hK j];exact yr PySem.F.plainAttrs_list PySem.F.slot_list_append PySem.F.type_list_append wK (aFe aA7 (iK (hN j) (hv j) hd hcd) (a1 j) hp) (az (h1 j) dU (hs1 j)) (hbase j) (hfew j) hline (hs1 j) rfl) (hsw j),λ τ σ H ρ lab De R W=>?_⟩;unfold j6 at W;cases es:ρ[i]? with
 |none=>rw[es]at W;exact False.elim W
 |some s=>
  rw[es]at W;cases s with
  |o2 ll=>
   dsimp only at W;rcases R.sl i _ es with z|⟨v,ev,top,xs,rfl,ht,hlt,hlen,hin⟩
   ·cases z
   ·refine⟨.ref top,ev,a2 τ σ H ρ lab _ R (W.bo.imp λ k _ w kv H1 s1 r1=>?_)⟩
    cases hk:at2 ll k with
    |none=>rw[hk]at w;exact False.elim w
    |some q=>
     obtain⟨j,ds⟩:=q;rw[hk]at w;dsimp only at w;obtain⟨n,rfl,hj,hds⟩:=aGm hk;cases r1;have hjx:∃xj,xs[j]? =some xj:=by
      have:j<xs.length:=by rw[hlen];exact(List.getElem?_eq_some_iff.mp hds).1
      exact⟨_,List.getElem?_eq_getElem this⟩
     obtain⟨xj,hxj⟩:=hjx;have hr:=hin j xj ds hxj hds;cases hr with
     |lst hl ml rl=>
      rename_i l ys;refine⟨top,xs,n,.ref l,rfl,rfl,SqL.of (s1 _ _ ht),by unfold atI;rw[hlen,hj];exact hxj,.inl ⟨rfl,ys,SqL.of (s1 _ _ hl)⟩,h2 τ σ H1 ρ lab _ (R.up s1) (w.bo.imp λ d _ w y H2 s2 r2=>?_)⟩;by_cases hz:ds.length<sizeLine
      ·rw[if_pos hz]at w
       have s12:=s1.trans s2;refine⟨l,ys,y,rfl,rfl,s12 _ _ hl,by rw[rl.length];exact hz,λ H3 B h3=>?_⟩;have ltop:l≠top:=λ e=>by rw[e,hlt]at ml;cases ml
       let lab':Lab:=λ p=>match H1 p with
        |none=>(i+2,j+1)
        |some _=>lab p
       have lo:∀{p o},H1 p=some o->lab' p=lab p:=λ{p o} e=>by show(match H1 p with|none=>_|some _=>_)=_;rw[e]
       have ln:∀{p},H1 p=none->lab' p=(i+2,j+1):=λ{p} e=>by show(match H1 p with|none=>_|some _=>_)=_;rw[e]
       have R':RR C.K C.G τ ρ σ H2 lab':=((R.up s1).relab (λ p o e=>lo e) λ p hp=>by
        cases e:H1 p with
        |none=>exact(R.old.trans s1).free e
        |some o=>rw[lo e]at hp;exact R.new p hp).up s2
       have labl:lab' l=(i+2,j+1):=by rw[lo (s1 _ _ hl)];exact ml
       refine w σ H3 lab' (R'.mut ev (s12 _ _ hl) rfl (by rw[labl]) B ⟨top,xs,rfl,B _ _ (Ne.symm ltop) (s12 _ _ ht),by rw[lo (s1 _ _ ht)];exact hlt,by rw[List.length_set];exact hlen,λ jj z dz f1 f2=>?_⟩);by_cases hjj:j=jj
       ·subst hjj
        rw[hxj]at f1;cases f1;rw[List.getElem?_set_self (List.getElem?_eq_some_iff.mp hds).1]at f2;cases f2;refine .lst h3 labl ?_;have ra:Rps C.K (λ p=>lab' p=(i+2,j+1)/\p≠l) H2 (ys++[y]) (ds++[d]):=by
         refine(rl.mono s12 λ p o e z=>⟨by rw[lo (s1 _ _ e)];exact z.1,z.2⟩).append (.cons (r2.wk λ p o e z=>?_) .nil);rcases z with z|z
         ·exact⟨ln z,λ q=>by subst q;rw[s1 _ _ hl]at z;cases z⟩
         ·cases z
        exact ra.but B (s12 _ _ hl) rfl λ z=>z.2 rfl
       ·rw[List.getElem?_set_ne hjj]at f2
        refine((hin jj z dz f1 f2).mono s12 (A':=λ p=>lab' p=(i+2,jj+1)) λ p o e q=>by rw[lo (s1 _ _ e)];exact q).but B (s12 _ _ hl) rfl λ q=>?_
        rw[labl]at q;simp only[Prod.mk.injEq]at q;lia
      ·rw[if_neg hz]at w
       exact False.elim w
  |_=>exact False.elim W
end
mutual
def eqD:D->D->Bool
 | .non,.non=>true
 | .bl a,.bl b=>a==b
 | .bl a,.int b=>(if a then 1 else 0)==b
 | .int a,.bl b=>a==(if b then 1 else 0)
 | .int a,.int b=>a==b
 | .str a,.str b=>a==b
 | .tup l,.tup m=>iR l m
 | .lst l,.lst m=>iR l m
 |_,_=>false
def iR:List D->List D->Bool
 |[],[]=>true
 |x::xs,y::ys=>eqD x y&&iR xs ys
 |_,_=>false
end
mutual
def fP:D->Nat
 | .tup l=>cI l+1
 | .lst l=>cI l+1
 |_=>0
def cI:List D->Nat
 |[]=>0
 |d::r=>max (fP d) (cI r)
end
mutual
def aQ:D->Bool
 | .tup l=>ao l
 | .lst l=>ao l
 | .dct _ _=>false
 | .set _=>false
 | .scr _=>false
 | .fn _=>false
 |_=>true
def ao:List D->Bool
 |[]=>true
 |d::r=>aQ d&&ao r
end
mutual
theorem jP:∀d:D,aQ d=true->eqD d d=true
 | .non,_=>by simp[eqD]
 | .bl b,_=>by simp[eqD]
 | .int i,_=>by simp[eqD]
 | .str x,_=>by simp[eqD]
 | .tup l,h=>by simp only[eqD];exact iY l (by simpa[aQ]using h)
 | .lst l,h=>by simp only[eqD];exact iY l (by simpa[aQ]using h)
 | .dct _ _,h=>by simp[aQ]at h
 | .set _,h=>by simp[aQ]at h
 | .scr _,h=>by simp[aQ]at h
theorem iY:∀l:List D,ao l=true->iR l l=true
 |[],_=>by simp[iR]
 |d::r,h=>by
  simp only[ao,Bool.and_eq_true]at h;simp only[iR,Bool.and_eq_true];exact⟨jP d h.1,iY r h.2⟩
end
structure mU(K:PySem.W.Frag)(H:Hp)(s:Shared):Prop where
 tup:∀{a:Addr} {xs:List V},SqT K H a xs->∃its:List Value,Vals xs its/\s.heap.IsTuple a its.toArray
 lst:∀{a:Addr} {xs:List V},H a=some (.lst xs)->∃its:List Value,Vals xs its/\s.heap.IsList a its.toArray
 inj:∀{a:Addr} {xs ys:List V},SqT K H a xs->SqT K H a ys->xs=ys
 ne:∀{a:Addr} {xs ys:List V},SqT K H a xs->H a=some (.lst ys)->False
theorem Inv.seqOk(I:L2.Inv X pins σ H s):mU X.K H s where
 tup:=λ h=>let⟨its,r,p,_⟩:=I.tuple h;⟨its,r,p⟩
 lst:=λ h=>let⟨its,r,p,_⟩:=I.list (SqL.of h);⟨its,r,p.isList⟩
 inj:=λ h h'=>I.tuple_inj h h'
 ne:=λ h h'=>by
  obtain⟨its,_,⟨o,e,c,_⟩,_⟩:=I.tuple h;obtain⟨its2,_,⟨o2,n2,e2,c2,_⟩,_⟩:=I.list (SqL.of h');rw[e]at e2;cases e2;rw[c]at c2;injection c2 with c3
  exact absurd c3 (by decide)
section
variable{K:PySem.W.Frag}{H:Hp}{s:Shared}
theorem aW(h:aQ (.dct a b)=true):False:=by simp[aQ]at h
theorem bj(h:aQ (.set a)=true):False:=by simp[aQ]at h
theorem bu(h:aQ (.scr a)=true):False:=by simp[aQ]at h
theorem cH(h:aQ (.fn a)=true):False:=by simp[aQ]at h
theorem jf(h:aQ (.tup a)=true):ao a=true:=by simpa[aQ]using h
theorem jg(h:aQ (.lst a)=true):ao a=true:=by simpa[aQ]using h
theorem lF(h:ao (d::a)=true):aQ d=true/\ao a=true:=by
 simp only[ao,Bool.and_eq_true]at h;exact h
def aIb(K:PySem.W.Frag)(s:Shared)(H:Hp)(x:V)(d:D):Prop:=mU K H s->∀(A':Addr->Prop) (e:D),Rp K A' H x e->aQ d=true->aQ e=true->d=e
def aBu(K:PySem.W.Frag)(s:Shared)(H:Hp)(xs:List V)(ds:List D):Prop:=mU K H s->∀(A':Addr->Prop) (es:List D),Rps K A' H xs es->ao ds=true->ao es=true->ds=es
theorem aID(ha:SqT K H a xs)(ih:aBu K s H xs ds):aIb K s H (.ref a) (.tup ds):=λ ok A' e h n1 n2=>by
 cases h with
 |tup hb r'=>
  have e:=ok.inj ha hb;subst e;rw[ih ok _ _ r' (jf n1) (jf n2)]
 |lst hb _ _=>exact(ok.ne ha hb).elim
 |dK _ _ _=>exact(aW n2).elim
 |dT _ _ _=>exact(aW n2).elim
 |set _ _ _ _=>exact(bj n2).elim
 |scr _=>exact(bu n2).elim
 |fn _=>exact(cH n2).elim
theorem aIE(ha:H a=some (.lst xs))(ih:aBu K s H xs ds):aIb K s H (.ref a) (.lst ds):=λ ok A' e h n1 n2=>by
 cases h with
 |tup hb r'=>exact(ok.ne hb ha).elim
 |lst hb _ r'=>
  rw[ha]at hb;cases hb;rw[ih ok _ _ r' (jg n1) (jg n2)]
 |dK _ _ _=>exact(aW n2).elim
 |dT _ _ _=>exact(aW n2).elim
 |set _ _ _ _=>exact(bj n2).elim
 |scr _=>exact(bu n2).elim
 |fn _=>exact(cH n2).elim
theorem aGN(h1:aIb K s H x d)(h2:aBu K s H xs ds):aBu K s H (x::xs) (d::ds):=λ ok A' es h n1 n2=>by
 cases h with
 |cons k r'=>rw[h1 ok _ _ k (lF n1).1 (lF n2).1,h2 ok _ _ r' (lF n1).2 (lF n2).2]
theorem Rp.inj(ok:mU K H s)(r:Rp K A H x d)(h:Rp K A' H x e)(n1:aQ d=true)(n2:aQ e=true):d=e:=
 Rp.rec (motive_1:=λ _ H x d _=>aIb K s H x d) (motive_2:=λ _ H xs ds _=>aBu K s H xs ds)
  (λ _ _ _ h _ _=>by cases h;rfl) (λ _ _ _ _ h _ _=>by cases h;rfl) (λ _ _ _ _ h _ _=>by cases h;rfl) (λ _ _ _ _ h _ _=>by cases h;rfl) (λ ha _ ih=>aID ha ih) (λ ha _ _ ih=>aIE ha ih)
  (λ _ _ _ _ _ _ _ _ n1 _=>(aW n1).elim) (λ _ _ _ _ _ _ _ _ n1 _=>(aW n1).elim) (λ _ _ _ _ _ _ _ _ n1 _=>(bj n1).elim) (λ _ _ _ _ _ n1 _=>(bu n1).elim) (λ _ _ _ _ _ n1 _=>(cH n1).elim)
  (λ _ _ _ h _ _=>by cases h;rfl) (λ _ _ h1 h2=>aGN h1 h2) r ok A' e h n1 n2
end
theorem oW:∀(l m:List D),iR l m=((List.range (min l.length m.length)).all (λ j=>match l[j]?,m[j]? with|some a,some b=>eqD a b|_,_=>true)&&l.length==m.length)
 |[],[]=>by simp[iR]
 |[],y::ys=>by simp[iR]
 |x::xs,[]=>by simp[iR]
 |x::xs,y::ys=>by
  have ih:=oW xs ys;simp only[iR,ih,List.length_cons,Nat.succ_min_succ,List.range_succ_eq_map,List.all_cons,List.all_map,List.getElem?_cons_zero,Function.comp_def,List.getElem?_cons_succ,Nat.succ_eq_add_one,Nat.add_one_inj,Bool.and_assoc];congr 1;congr 1;simp
theorem mJ:∀{l:List D} {d:D},d∈l->fP d<=cI l
 |x::r,d,h=>by
  simp only[cI];rcases List.mem_cons.mp h with rfl|h
  ·exact Nat.le_max_left _ _
  ·exact Nat.le_trans (mJ h) (Nat.le_max_right _ _)
theorem gW:∀{l:List D} {d:D},d∈l->ao l=true->aQ d=true
 |x::r,d,h,n=>by
  simp only[ao,Bool.and_eq_true]at n;rcases List.mem_cons.mp h with rfl|h
  ·exact n.1
  ·exact gW h n.2
theorem cW(hn:n=ds.length)(hm:m=es.length):((List.range (min n m)).all (λ j=>match ds[j]?,es[j]? with|some a,some b=>eqD a b|_,_=>true)&&n==m)=iR ds es:=by
 subst hn hm;exact(oW ds es).symm
section
variable{K:PySem.W.Frag}{H:Hp}{s:Shared}
def aGu(K:PySem.W.Frag)(H:Hp)(s:Shared)(n:Nat):Prop:=∀(A1 A2:Addr->Prop) (x y:V) (d e:D) (A:Around) (u v:Value),Rp K A1 H x d->Rp K A2 H y e->RelV x u->RelV y v->fP d<=n->aQ d=true->aQ e=true->A.units+n<cLine->SeqAt.EqAt A s u v (eqD d e)
def aGv(K:PySem.W.Frag)(H:Hp)(s:Shared)(n:Nat):Prop:=∀(A1 A2:Addr->Prop) (xs ys:List V) (ds es:List D) (A:Around) (us vs:List Value),Rps K A1 H xs ds->Rps K A2 H ys es->Vals xs us->Vals ys vs->cI ds<=n->ao ds=true->ao es=true->A.units+n<cLine->
  ∀(j:Nat) (h1:j<us.toArray.size) (h2:j<vs.toArray.size),SeqAt.EqAt A s us.toArray[j] vs.toArray[j] (match ds[j]?,es[j]? with|some a,some b=>eqD a b|_,_=>true)
theorem xN(ok:mU K H s)(n:Nat)(IH:∀k,n=k+1->aGv K H s k):aGu K H s n:=by
 intro A1 A2 x y d e A u v r1 r2 ru rv hd nd ne hu;have hu0:A.units<cLine:=by lia
 cases r1 with
 |tup h1 q1=>
  rename_i a xs ds;cases ru;obtain⟨its,w1,t1⟩:=ok.tup h1;cases r2 with
  |tup h2 q2=>
   rename_i b ys es;cases rv;obtain⟨its2,w2,t2⟩:=ok.tup h2;by_cases hab:a=b
   ·subst hab
    have e:=Rp.inj ok (Rp.tup h1 q1) (Rp.tup h2 q2) nd ne;rw[<-e,jP _ nd];exact SeqAt.EqAt.same _
   ·simp only[fP]at hd
    obtain⟨k,rfl⟩:∃k,n=k+1:=⟨n-1,by lia⟩
    have z:=SeqAt.RcAt.tuples t1 t2 hu0 (IH k rfl _ _ _ _ _ _ _ _ _ q1 q2 w1 w2 (by lia) (jf nd) (jf ne) (by show A.units+1+k<cLine;lia));rw[cW (by rw[List.size_toArray,<-w1.length,q1.length]) (by rw[List.size_toArray,<-w2.length,q2.length])]at z;simp only[eqD];exact SeqAt.EqAt.of_refs hab z
  |lst h2 mm2 q2=>
   cases rv;obtain⟨its2,w2,t2⟩:=ok.lst h2;simp only[eqD];exact SeqAt.EqAt.tuple_list t1 t2 hu0
  |dK _ _ _=>exact(aW ne).elim
  |dT _ _ _=>exact(aW ne).elim
  |set _ _ _ _=>exact(bj ne).elim
  |scr _=>exact(bu ne).elim
  |fn _=>exact(cH ne).elim
  |non=>cases rv;simp only[eqD];exact SeqAt.EqAt.tuple_none t1 hu0
  |bl b=>cases rv;simp only[eqD];exact SeqAt.EqAt.tuple_bool b t1 hu0
  |int i=>obtain⟨tk,rfl⟩:=rv;simp only[eqD];exact SeqAt.EqAt.tuple_int i tk t1 hu0
  |str i=>obtain⟨tk,rfl⟩:=rv;simp only[eqD];exact SeqAt.EqAt.tuple_str i tk t1 hu0
 |lst h1 mm1 q1=>
  rename_i a xs ds;cases ru;obtain⟨its,w1,t1⟩:=ok.lst h1;cases r2 with
  |lst h2 mm2 q2=>
   rename_i b ys es;cases rv;obtain⟨its2,w2,t2⟩:=ok.lst h2;by_cases hab:a=b
   ·subst hab
    have e:=Rp.inj ok (Rp.lst h1 mm1 q1) (Rp.lst h2 mm2 q2) nd ne;rw[<-e,jP _ nd];exact SeqAt.EqAt.same _
   ·simp only[fP]at hd
    obtain⟨k,rfl⟩:∃k,n=k+1:=⟨n-1,by lia⟩
    have l1:its.toArray.size=ds.length:=by rw[List.size_toArray,<-w1.length,q1.length]
    have l2:its2.toArray.size=es.length:=by rw[List.size_toArray,<-w2.length,q2.length]
    by_cases hl:its.toArray.size=its2.toArray.size
    ·have z:=SeqAt.RcAt.lists t1 t2 hl hu0 (IH k rfl _ _ _ _ _ _ _ _ _ q1 q2 w1 w2 (by lia) (jg nd) (jg ne) (by show A.units+1+k<cLine;lia))
     have z':=cW (ds:=ds) (es:=es) l1 l2;rw[<-hl,Nat.min_self,beq_self_eq_true,Bool.and_true]at z';rw[z']at z;simp only[eqD];exact SeqAt.EqAt.of_refs hab z
    ·have z:=SeqAt.RcAt.lists_lengths t1 t2 (by simpa using hl) hu0
     have z':=cW (ds:=ds) (es:=es) l1 l2;rw[beq_eq_false_iff_ne.mpr hl,Bool.and_false]at z';simp only[eqD];rw[<-z'];exact SeqAt.EqAt.of_refs hab z
  |tup h2 q2=>
   cases rv;obtain⟨its2,w2,t2⟩:=ok.tup h2;simp only[eqD];exact SeqAt.EqAt.list_tuple t1 t2 hu0
  |dK _ _ _=>exact(aW ne).elim
  |dT _ _ _=>exact(aW ne).elim
  |set _ _ _ _=>exact(bj ne).elim
  |scr _=>exact(bu ne).elim
  |fn _=>exact(cH ne).elim
  |non=>cases rv;simp only[eqD];exact SeqAt.EqAt.list_none t1 hu0
  |bl b=>cases rv;simp only[eqD];exact SeqAt.EqAt.list_bool b t1 hu0
  |int i=>obtain⟨tk,rfl⟩:=rv;simp only[eqD];exact SeqAt.EqAt.list_int i tk t1 hu0
  |str i=>obtain⟨tk,rfl⟩:=rv;simp only[eqD];exact SeqAt.EqAt.list_str i tk t1 hu0
 |dK _ _ _=>exact(aW nd).elim
 |dT _ _ _=>exact(aW nd).elim
 |set _ _ _ _=>exact(bj nd).elim
 |scr _=>exact(bu nd).elim
 |fn _=>exact(cH nd).elim
 |non=>
  cases ru;cases r2 with
  |tup h2 q2=>cases rv;obtain⟨_,_,t2⟩:=ok.tup h2;simp only[eqD];exact SeqAt.EqAt.none_tuple t2 hu0
  |lst h2 mm2 q2=>cases rv;obtain⟨_,_,t2⟩:=ok.lst h2;simp only[eqD];exact SeqAt.EqAt.none_list t2 hu0
  |dK _ _ _=>exact(aW ne).elim
  |dT _ _ _=>exact(aW ne).elim
  |set _ _ _ _=>exact(bj ne).elim
  |scr _=>exact(bu ne).elim
  |fn _=>exact(cH ne).elim
  |non=>cases rv;simp only[eqD];exact SeqAt.EqAt.same _
  |bl b=>cases rv;simp only[eqD];exact SeqAt.EqAt.none_bool b
  |int i=>obtain⟨tk,rfl⟩:=rv;simp only[eqD];exact SeqAt.EqAt.none_int i tk
  |str i=>obtain⟨tk,rfl⟩:=rv;simp only[eqD];exact SeqAt.EqAt.none_str i tk
 |bl a=>
  cases ru;cases r2 with
  |tup h2 q2=>cases rv;obtain⟨_,_,t2⟩:=ok.tup h2;simp only[eqD];exact SeqAt.EqAt.bool_tuple a t2 hu0
  |lst h2 mm2 q2=>cases rv;obtain⟨_,_,t2⟩:=ok.lst h2;simp only[eqD];exact SeqAt.EqAt.bool_list a t2 hu0
  |dK _ _ _=>exact(aW ne).elim
  |dT _ _ _=>exact(aW ne).elim
  |set _ _ _ _=>exact(bj ne).elim
  |scr _=>exact(bu ne).elim
  |fn _=>exact(cH ne).elim
  |non=>cases rv;simp only[eqD];exact SeqAt.EqAt.bool_none a
  |bl b=>cases rv;simp only[eqD];exact SeqAt.EqAt.bool_bool a b
  |int i=>obtain⟨tk,rfl⟩:=rv;simp only[eqD];exact SeqAt.EqAt.bool_int a i tk
  |str i=>obtain⟨tk,rfl⟩:=rv;simp only[eqD];exact SeqAt.EqAt.bool_str a i tk
 |int a=>
  obtain⟨tu,rfl⟩:=ru;cases r2 with
  |tup h2 q2=>cases rv;obtain⟨_,_,t2⟩:=ok.tup h2;simp only[eqD];exact SeqAt.EqAt.int_tuple a tu t2 hu0
  |lst h2 mm2 q2=>cases rv;obtain⟨_,_,t2⟩:=ok.lst h2;simp only[eqD];exact SeqAt.EqAt.int_list a tu t2 hu0
  |dK _ _ _=>exact(aW ne).elim
  |dT _ _ _=>exact(aW ne).elim
  |set _ _ _ _=>exact(bj ne).elim
  |scr _=>exact(bu ne).elim
  |fn _=>exact(cH ne).elim
  |non=>cases rv;simp only[eqD];exact SeqAt.EqAt.int_none a tu
  |bl b=>cases rv;simp only[eqD];exact SeqAt.EqAt.int_bool a tu b
  |int i=>obtain⟨tk,rfl⟩:=rv;simp only[eqD];exact SeqAt.EqAt.int_int a tu i tk
  |str i=>obtain⟨tk,rfl⟩:=rv;simp only[eqD];exact SeqAt.EqAt.int_str a tu i tk
 |str a=>
  obtain⟨tu,rfl⟩:=ru;cases r2 with
  |tup h2 q2=>cases rv;obtain⟨_,_,t2⟩:=ok.tup h2;simp only[eqD];exact SeqAt.EqAt.str_tuple a tu t2 hu0
  |lst h2 mm2 q2=>cases rv;obtain⟨_,_,t2⟩:=ok.lst h2;simp only[eqD];exact SeqAt.EqAt.str_list a tu t2 hu0
  |dK _ _ _=>exact(aW ne).elim
  |dT _ _ _=>exact(aW ne).elim
  |set _ _ _ _=>exact(bj ne).elim
  |scr _=>exact(bu ne).elim
  |fn _=>exact(cH ne).elim
  |non=>cases rv;simp only[eqD];exact SeqAt.EqAt.str_none a tu
  |bl b=>cases rv;simp only[eqD];exact SeqAt.EqAt.str_bool a tu b
  |int i=>obtain⟨tk,rfl⟩:=rv;simp only[eqD];exact SeqAt.EqAt.str_int a tu i tk
  |str i=>obtain⟨tk,rfl⟩:=rv;simp only[eqD];exact SeqAt.EqAt.str_str a tu i tk
theorem zF(ok:mU K H s)(n:Nat)(IH:aGu K H s n):aGv K H s n:=by
 intro A1 A2 xs ys ds es A us vs q1 q2 w1 w2 hd nd ne hu j h1 h2;have hj1:j<us.length:=by simpa using h1
 have hj2:j<vs.length:=by simpa using h2
 have hx:j<xs.length:=by rw[w1.length];exact hj1
 have hy:j<ys.length:=by rw[w2.length];exact hj2
 have ex:=List.getElem?_eq_getElem hx;have ey:=List.getElem?_eq_getElem hy;obtain⟨d,ed,rd⟩:=q1.get ex;obtain⟨e,ee,re⟩:=q2.get ey;obtain⟨u,eu,ru⟩:=w1.get ex;obtain⟨v,ev,rv⟩:=w2.get ey;have e1:us.toArray[j]=u:=by
  rw[List.getElem_toArray];exact Option.some.inj ((List.getElem?_eq_getElem hj1).symm.trans eu)
 have e2:vs.toArray[j]=v:=by
  rw[List.getElem_toArray];exact Option.some.inj ((List.getElem?_eq_getElem hj2).symm.trans ev)
 rw[e1,e2,ed,ee];exact IH _ _ _ _ _ _ _ _ _ rd re ru rv (Nat.le_trans (mJ (List.mem_of_getElem? ed)) hd) (gW (List.mem_of_getElem? ed) nd) (gW (List.mem_of_getElem? ee) ne) hu
theorem aG8(ok:mU K H s):∀n,aGu K H s n
 |0=>xN ok 0 λ k h=>absurd h (by simp)
 |n+1=>xN ok (n+1) λ k h=>by
  have h':=Nat.succ.inj h;subst h';exact zF ok n (aG8 ok n)
theorem aAe(ok:mU K H s):∀{A1 A2:Addr->Prop} {x y:V} {d e:D} (n:Nat) {A:Around} {u v:Value},Rp K A1 H x d->Rp K A2 H y e->RelV x u->RelV y v->fP d<=n->aQ d=true->aQ e=true->A.units+n<cLine->SeqAt.EqAt A s u v (eqD d e)
 |_,_,_,_,_,_,n,A,u,v,r1,r2,ru,rv,hd,nd,ne,hu=>aG8 ok n _ _ _ _ _ _ _ _ _ r1 r2 ru rv hd nd ne hu
theorem xO(ok:mU K H s):∀{A1 A2:Addr->Prop} {xs ys:List V} {ds es:List D} (n:Nat) {A:Around} {us vs:List Value},Rps K A1 H xs ds->Rps K A2 H ys es->Vals xs us->Vals ys vs->cI ds<=n->ao ds=true->ao es=true->A.units+n<cLine->
  ∀(j:Nat) (h1:j<us.toArray.size) (h2:j<vs.toArray.size),SeqAt.EqAt A s us.toArray[j] vs.toArray[j] (match ds[j]?,es[j]? with|some a,some b=>eqD a b|_,_=>true)
 |_,_,xs,ys,ds,es,n,A,us,vs,q1,q2,w1,w2,hd,nd,ne,hu,j,h1,h2=>zF ok n (aG8 ok n) _ _ _ _ _ _ _ _ _ q1 q2 w1 w2 hd nd ne hu j h1 h2
theorem aCW(ok:mU K H s)(n:Nat)(r1:Rp K A1 H x d)(r2:Rp K A2 H y e)(ru:RelV x u)(rv:RelV y v)(hd:fP d<=n)(nd:aQ d=true)(ne:aQ e=true)(hu:A.units+n<cLine):
  SeqAt.RcAt A s u v (eqD d e)/\SeqAt.RcNeAt A s u v (!eqD d e):=by
 have hu0:A.units<cLine:=by lia
 cases r1 with
 |tup h1 q1=>
  rename_i a xs ds;cases ru;obtain⟨its,w1,t1⟩:=ok.tup h1;cases r2 with
  |tup h2 q2=>
   rename_i b ys es;cases rv;obtain⟨its2,w2,t2⟩:=ok.tup h2;simp only[fP]at hd;obtain⟨k,rfl⟩:∃k,n=k+1:=⟨n-1,by lia⟩
   have he:=xO ok (A:=A.in1) k q1 q2 w1 w2 (by lia) (jf nd) (jf ne) (by show A.units+1+k<cLine;lia);have z:=SeqAt.RcAt.tuples t1 t2 hu0 he;have z2:=SeqAt.RcNeAt.tuples t1 t2 hu0 he;rw[cW (by rw[List.size_toArray,<-w1.length,q1.length]) (by rw[List.size_toArray,<-w2.length,q2.length])]at z z2;simp only[eqD];exact⟨z,z2⟩
  |lst h2 mm2 q2=>
   cases rv;obtain⟨its2,w2,t2⟩:=ok.lst h2;simp only[eqD];exact⟨SeqAt.RcAt.tuple_list t1 t2 hu0,SeqAt.RcNeAt.tuple_list t1 t2 hu0⟩
  |dK _ _ _=>exact(aW ne).elim
  |dT _ _ _=>exact(aW ne).elim
  |set _ _ _ _=>exact(bj ne).elim
  |scr _=>exact(bu ne).elim
  |fn _=>exact(cH ne).elim
  |non=>cases rv;simp only[eqD];exact⟨SeqAt.RcAt.tuple_none t1 hu0,SeqAt.RcNeAt.tuple_none t1 hu0⟩
  |bl b=>cases rv;simp only[eqD];exact⟨SeqAt.RcAt.tuple_bool b t1 hu0,SeqAt.RcNeAt.tuple_bool b t1 hu0⟩
  |int i=>obtain⟨tk,rfl⟩:=rv;simp only[eqD];exact⟨SeqAt.RcAt.tuple_int i tk t1 hu0,SeqAt.RcNeAt.tuple_int i tk t1 hu0⟩
  |str i=>obtain⟨tk,rfl⟩:=rv;simp only[eqD];exact⟨SeqAt.RcAt.tuple_str i tk t1 hu0,SeqAt.RcNeAt.tuple_str i tk t1 hu0⟩
 |lst h1 mm1 q1=>
  rename_i a xs ds;cases ru;obtain⟨its,w1,t1⟩:=ok.lst h1;cases r2 with
  |lst h2 mm2 q2=>
   rename_i b ys es;cases rv;obtain⟨its2,w2,t2⟩:=ok.lst h2;simp only[fP]at hd;obtain⟨k,rfl⟩:∃k,n=k+1:=⟨n-1,by lia⟩
   have l1:its.toArray.size=ds.length:=by rw[List.size_toArray,<-w1.length,q1.length]
   have l2:its2.toArray.size=es.length:=by rw[List.size_toArray,<-w2.length,q2.length]
   have z':=cW (ds:=ds) (es:=es) l1 l2;by_cases hl:its.toArray.size=its2.toArray.size
   ·have he:=xO ok (A:=A.in1) k q1 q2 w1 w2 (by lia) (jg nd) (jg ne) (by show A.units+1+k<cLine;lia)
    have z:=SeqAt.RcAt.lists t1 t2 hl hu0 he;have z2:=SeqAt.RcNeAt.lists t1 t2 hl hu0 he;rw[<-hl,Nat.min_self,beq_self_eq_true,Bool.and_true]at z';rw[z']at z z2;simp only[eqD];exact⟨z,z2⟩
   ·rw[beq_eq_false_iff_ne.mpr hl,Bool.and_false]at z'
    simp only[eqD];rw[<-z'];exact⟨SeqAt.RcAt.lists_lengths t1 t2 (by simpa using hl) hu0,SeqAt.RcNeAt.lists_lengths t1 t2 (by simpa using hl) hu0⟩
  |tup h2 q2=>
   cases rv;obtain⟨its2,w2,t2⟩:=ok.tup h2;simp only[eqD];exact⟨SeqAt.RcAt.list_tuple t1 t2 hu0,SeqAt.RcNeAt.list_tuple t1 t2 hu0⟩
  |dK _ _ _=>exact(aW ne).elim
  |dT _ _ _=>exact(aW ne).elim
  |set _ _ _ _=>exact(bj ne).elim
  |scr _=>exact(bu ne).elim
  |fn _=>exact(cH ne).elim
  |non=>cases rv;simp only[eqD];exact⟨SeqAt.RcAt.list_none t1 hu0,SeqAt.RcNeAt.list_none t1 hu0⟩
  |bl b=>cases rv;simp only[eqD];exact⟨SeqAt.RcAt.list_bool b t1 hu0,SeqAt.RcNeAt.list_bool b t1 hu0⟩
  |int i=>obtain⟨tk,rfl⟩:=rv;simp only[eqD];exact⟨SeqAt.RcAt.list_int i tk t1 hu0,SeqAt.RcNeAt.list_int i tk t1 hu0⟩
  |str i=>obtain⟨tk,rfl⟩:=rv;simp only[eqD];exact⟨SeqAt.RcAt.list_str i tk t1 hu0,SeqAt.RcNeAt.list_str i tk t1 hu0⟩
 |dK _ _ _=>exact(aW nd).elim
 |dT _ _ _=>exact(aW nd).elim
 |set _ _ _ _=>exact(bj nd).elim
 |scr _=>exact(bu nd).elim
 |fn _=>exact(cH nd).elim
 |non=>
  cases ru;cases r2 with
  |tup h2 q2=>cases rv;obtain⟨_,_,t2⟩:=ok.tup h2;simp only[eqD];exact⟨SeqAt.RcAt.none_tuple t2 hu0,SeqAt.RcNeAt.none_tuple t2 hu0⟩
  |lst h2 mm2 q2=>cases rv;obtain⟨_,_,t2⟩:=ok.lst h2;simp only[eqD];exact⟨SeqAt.RcAt.none_list t2 hu0,SeqAt.RcNeAt.none_list t2 hu0⟩
  |dK _ _ _=>exact(aW ne).elim
  |dT _ _ _=>exact(aW ne).elim
  |set _ _ _ _=>exact(bj ne).elim
  |scr _=>exact(bu ne).elim
  |fn _=>exact(cH ne).elim
  |non=>cases rv;simp only[eqD];exact⟨SeqAt.RcAt.none_none,SeqAt.RcNeAt.none_none⟩
  |bl b=>cases rv;simp only[eqD];exact⟨SeqAt.RcAt.none_bool b,SeqAt.RcNeAt.none_bool b⟩
  |int i=>obtain⟨tk,rfl⟩:=rv;simp only[eqD];exact⟨SeqAt.RcAt.none_int i tk,SeqAt.RcNeAt.none_int i tk⟩
  |str i=>obtain⟨tk,rfl⟩:=rv;simp only[eqD];exact⟨SeqAt.RcAt.none_str i tk,SeqAt.RcNeAt.none_str i tk⟩
 |bl a=>
  cases ru;cases r2 with
  |tup h2 q2=>cases rv;obtain⟨_,_,t2⟩:=ok.tup h2;simp only[eqD];exact⟨SeqAt.RcAt.bool_tuple a t2 hu0,SeqAt.RcNeAt.bool_tuple a t2 hu0⟩
  |lst h2 mm2 q2=>cases rv;obtain⟨_,_,t2⟩:=ok.lst h2;simp only[eqD];exact⟨SeqAt.RcAt.bool_list a t2 hu0,SeqAt.RcNeAt.bool_list a t2 hu0⟩
  |dK _ _ _=>exact(aW ne).elim
  |dT _ _ _=>exact(aW ne).elim
  |set _ _ _ _=>exact(bj ne).elim
  |scr _=>exact(bu ne).elim
  |fn _=>exact(cH ne).elim
  |non=>cases rv;simp only[eqD];exact⟨SeqAt.RcAt.bool_none a,SeqAt.RcNeAt.bool_none a⟩
  |bl b=>cases rv;simp only[eqD];exact⟨SeqAt.RcAt.bool_bool a b,SeqAt.RcNeAt.bool_bool a b⟩
  |int i=>obtain⟨tk,rfl⟩:=rv;simp only[eqD];exact⟨SeqAt.RcAt.bool_int a i tk,SeqAt.RcNeAt.bool_int a i tk⟩
  |str i=>obtain⟨tk,rfl⟩:=rv;simp only[eqD];exact⟨SeqAt.RcAt.bool_str a i tk,SeqAt.RcNeAt.bool_str a i tk⟩
 |int a=>
  obtain⟨tu,rfl⟩:=ru;cases r2 with
  |tup h2 q2=>cases rv;obtain⟨_,_,t2⟩:=ok.tup h2;simp only[eqD];exact⟨SeqAt.RcAt.int_tuple a tu t2 hu0,SeqAt.RcNeAt.int_tuple a tu t2 hu0⟩
  |lst h2 mm2 q2=>cases rv;obtain⟨_,_,t2⟩:=ok.lst h2;simp only[eqD];exact⟨SeqAt.RcAt.int_list a tu t2 hu0,SeqAt.RcNeAt.int_list a tu t2 hu0⟩
  |dK _ _ _=>exact(aW ne).elim
  |dT _ _ _=>exact(aW ne).elim
  |set _ _ _ _=>exact(bj ne).elim
  |scr _=>exact(bu ne).elim
  |fn _=>exact(cH ne).elim
  |non=>cases rv;simp only[eqD];exact⟨SeqAt.RcAt.int_none a tu,SeqAt.RcNeAt.int_none a tu⟩
  |bl b=>cases rv;simp only[eqD];exact⟨SeqAt.RcAt.int_bool a tu b,SeqAt.RcNeAt.int_bool a tu b⟩
  |int i=>obtain⟨tk,rfl⟩:=rv;simp only[eqD];exact⟨SeqAt.RcAt.int_int a tu i tk,SeqAt.RcNeAt.int_int a tu i tk⟩
  |str i=>obtain⟨tk,rfl⟩:=rv;simp only[eqD];exact⟨SeqAt.RcAt.int_str a tu i tk,SeqAt.RcNeAt.int_str a tu i tk⟩
 |str a=>
  obtain⟨tu,rfl⟩:=ru;cases r2 with
  |tup h2 q2=>cases rv;obtain⟨_,_,t2⟩:=ok.tup h2;simp only[eqD];exact⟨SeqAt.RcAt.str_tuple a tu t2 hu0,SeqAt.RcNeAt.str_tuple a tu t2 hu0⟩
  |lst h2 mm2 q2=>cases rv;obtain⟨_,_,t2⟩:=ok.lst h2;simp only[eqD];exact⟨SeqAt.RcAt.str_list a tu t2 hu0,SeqAt.RcNeAt.str_list a tu t2 hu0⟩
  |dK _ _ _=>exact(aW ne).elim
  |dT _ _ _=>exact(aW ne).elim
  |set _ _ _ _=>exact(bj ne).elim
  |scr _=>exact(bu ne).elim
  |fn _=>exact(cH ne).elim
  |non=>cases rv;simp only[eqD];exact⟨SeqAt.RcAt.str_none a tu,SeqAt.RcNeAt.str_none a tu⟩
  |bl b=>cases rv;simp only[eqD];exact⟨SeqAt.RcAt.str_bool a tu b,SeqAt.RcNeAt.str_bool a tu b⟩
  |int i=>obtain⟨tk,rfl⟩:=rv;simp only[eqD];exact⟨SeqAt.RcAt.str_int a tu i tk,SeqAt.RcNeAt.str_int a tu i tk⟩
  |str i=>obtain⟨tk,rfl⟩:=rv;simp only[eqD];exact⟨SeqAt.RcAt.str_str a tu i tk,SeqAt.RcNeAt.str_str a tu i tk⟩
end
section
variable{K:PySem.W.Frag}{H:Hp}{s:Shared}
open Classical in
def jY(K:PySem.W.Frag)(H:Hp)(d:D)(u:Value):Bool:=if h:∃e,aQ e=true/\∃y,RelV y u/\Rp K (λ _=>True) H y e then eqD (choose h) d else false
theorem nH(ok:mU K H s)(r:RelV y u)(h:Rp K A H y e)(ne:aQ e=true):jY K H d u=eqD e d:=by
 have hx:∃e,aQ e=true/\∃y,RelV y u/\Rp K (λ _=>True) H y e:=⟨e,ne,y,r,h.wk λ _ _ _ _=>trivial⟩
 unfold jY;rw[dif_pos hx];obtain⟨n',y',r',h'⟩:=Classical.choose_spec hx;have e1:=RelV.inj r r';subst e1;rw[Rp.inj ok h' h n' ne]
def inD(d:D)(es:List D):Bool:=es.any λ e=>eqD e d
theorem mQ(ok:mU K H s):∀{A:Addr->Prop} {xs:List V} {es:List D} {us:List Value},Rps K A H xs es->Vals xs us->ao es=true->us.any (jY K H d)=inD d es:=by
 intro A xs es us h v n;induction v generalizing es with
 |nil=>cases h;rfl
 |cons k t ih=>
  cases h with
  |cons h r=>
   simp only[ao,Bool.and_eq_true]at n;unfold inD;rw[List.any_cons,List.any_cons,nH ok k h n.1,ih r n.2];rfl
theorem lK(ok:mU K H s)(rx:Rp K A0 H x d)(rv:RelV x v)(hu:A.units+n<cLine)(nd:aQ d=true):∀{A1:Addr->Prop} {xs:List V} {es:List D} {us:List Value},Rps K A1 H xs es->Vals xs us->cI es<=n->ao es=true->∀u∈us,SeqAt.EqAt A s u v (jY K H d u):=by
 intro A1 xs es us h v' hd ne u hm;induction v' generalizing es with
 |nil=>cases hm
 |cons k t ih=>
  cases h with
  |cons h r=>
   simp only[cI]at hd;simp only[ao,Bool.and_eq_true]at ne;rcases List.mem_cons.mp hm with z|z
   ·subst z
    rw[nH ok k h ne.1];exact aAe ok n h rx k rv (Nat.le_trans (Nat.le_max_left _ _) hd) ne.1 nd hu
   ·exact ih r (Nat.le_trans (Nat.le_max_right _ _) hd) ne.2 z
end
section
variable{X:Cx}
def aFZ(K:PySem.W.Frag)(neg:Bool):R2:=λ x y H Q=>∃A B d e,Rp K A H x d/\Rp K B H y e/\fP d<=60/\aQ d=true/\aQ e=true/\Q (.bl (if neg then !eqD d e else eqD d e)) H
theorem aKG(hu:X.A.units+64<cLine):OpR X (compareOp .Eq) (aFZ X.K false):=by
 intro pins s σ H x y v u Q I rx ry h;obtain⟨A,B,d,e,r1,r2,hd,nd,ne,q⟩:=h;exact(aCW (Inv.seqOk I) 60 r1 r2 rx ry hd nd ne (by lia)).1 X.prog X.w X.xe _ ⟨.bl (eqD d e),H,I,rfl,q⟩
theorem aJw(hu:X.A.units+64<cLine):OpR X (compareOp .NotEq) (aFZ X.K true):=by
 intro pins s σ H x y v u Q I rx ry h;obtain⟨A,B,d,e,r1,r2,hd,nd,ne,q⟩:=h;exact(aCW (Inv.seqOk I) 60 r1 r2 rx ry hd nd ne (by lia)).2 X.prog X.w X.xe _ ⟨.bl (!eqD d e),H,I,rfl,q⟩
def aFY(K:PySem.W.Frag)(neg:Bool):R2:=λ x y H Q=>∃A B d a es,Rp K A H x d/\y= .ref a/\(Rp K B H (.ref a) (.lst es)\/Rp K B H (.ref a) (.tup es))/\cI es<=60/\aQ d=true/\ao es=true/\Q (.bl (if neg then !inD d es else inD d es)) H
theorem aKF(hu:X.A.units+64<cLine):OpR X (compareOp .In) (aFY X.K false):=by
 intro pins s σ H x y v u Q I rx ry h;obtain⟨A,B,d,a,es,rd,rfl,ra,hd,nd,ne,q⟩:=h;cases ry;have ok:=Inv.seqOk I;have hu1:X.A.in1.units+60<cLine:=by show X.A.units+1+60<cLine;lia
 rcases ra with ra|ra
 ·cases ra with
  |lst ha _ r=>
   obtain⟨its,rv,tl⟩:=ok.lst ha;refine SeqAt.in_listAt (jY X.K H d) tl (λ w hw=>lK ok rd rx hu1 nd r rv hd ne w (by simpa using hw)) ⟨.bl _,H,I,rfl,?_⟩;rw[show its.toArray.any (jY X.K H d)=its.any (jY X.K H d)by simp,mQ ok r rv ne];exact q
 ·cases ra with
  |tup ha r=>
   obtain⟨its,rv,tl⟩:=ok.tup ha;refine SeqAt.in_tupleAt (jY X.K H d) tl (λ w hw=>lK ok rd rx hu1 nd r rv hd ne w (by simpa using hw)) ⟨.bl _,H,I,rfl,?_⟩;rw[show its.toArray.any (jY X.K H d)=its.any (jY X.K H d)by simp,mQ ok r rv ne];exact q
theorem aEF(hu:X.A.units+64<cLine):OpR X (compareOp .NotIn) (aFY X.K true):=by
 intro pins s σ H x y v u Q I rx ry h;obtain⟨A,B,d,a,es,rd,rfl,ra,hd,nd,ne,q⟩:=h;cases ry;have ok:=Inv.seqOk I;have hu1:X.A.in1.units+60<cLine:=by show X.A.units+1+60<cLine;lia
 rcases ra with ra|ra
 ·cases ra with
  |lst ha _ r=>
   obtain⟨its,rv,tl⟩:=ok.lst ha;refine SeqAt.notIn_listAt (jY X.K H d) tl (λ w hw=>lK ok rd rx hu1 nd r rv hd ne w (by simpa using hw)) ⟨.bl _,H,I,rfl,?_⟩;rw[show its.toArray.any (jY X.K H d)=its.any (jY X.K H d)by simp,mQ ok r rv ne];exact q
 ·cases ra with
  |tup ha r=>
   obtain⟨its,rv,tl⟩:=ok.tup ha;refine SeqAt.notIn_tupleAt (jY X.K H d) tl (λ w hw=>lK ok rd rx hu1 nd r rv hd ne w (by simpa using hw)) ⟨.bl _,H,I,rfl,?_⟩;rw[show its.toArray.any (jY X.K H d)=its.any (jY X.K H d)by simp,mQ ok r rv ne];exact q
end
section
variable{K:PySem.W.Frag}
def eqR(neg:Bool):D->D->Rs D:=λ d e=>if decide (fP d<=60)&&aQ d&&aQ e then .ok (.bl (if neg then !eqD d e else eqD d e))else .st
def inR(neg:Bool):D->D->Rs D:=λ d e=>match e with
 | .lst es=>if decide (cI es<=60)&&aQ d&&ao es then .ok (.bl (if neg then !inD d es else inD d es))else .st
 | .tup es=>if decide (cI es<=60)&&aQ d&&ao es then .ok (.bl (if neg then !inD d es else inD d es))else .st
 |_=>.st
theorem os_eq:OpS K (aFZ K n) (eqR n):=by
 intro A x y d e H Q z rx ry ez q;unfold eqR at ez;split at ez
 ·rename_i h
  simp only[Bool.and_eq_true,decide_eq_true_eq]at h;cases ez;exact⟨A,A,d,e,rx,ry,h.1.1,h.1.2,h.2,q _ H (aV.refl H) (.bl _)⟩
 ·cases ez
theorem aIu:OpS K (aFY K n) (inR n):=by
 intro A x y d e H Q z rx ry ez q;unfold inR at ez;split at ez
 ·split at ez
  ·rename_i h
   simp only[Bool.and_eq_true,decide_eq_true_eq]at h;cases ez;cases ry with
   |lst ha mm r=>exact⟨A,A,d,_,_,rx,rfl,.inl (.lst ha mm r),h.1.1,h.1.2,h.2,q _ H (aV.refl H) (.bl _)⟩
  ·cases ez
 ·split at ez
  ·rename_i h
   simp only[Bool.and_eq_true,decide_eq_true_eq]at h;cases ez;cases ry with
   |tup ha r=>exact⟨A,A,d,_,_,rx,rfl,.inr (.tup ha r),h.1.1,h.1.2,h.2,q _ H (aV.refl H) (.bl _)⟩
  ·cases ez
 ·cases ez
theorem aGS:∀x y z,eqR n x y= .ok z->imm z=true:=by
 intro x y z e;unfold eqR at e;split at e
 ·cases e;rfl
 ·cases e
end
section
variable{K:PySem.W.Frag}
def boolsOf:List D->Option (List Bool)
 |[]=>some []
 | .bl i::r=>(boolsOf r).map (i::·)
 |_=>none
theorem sS:∀{l:List D} {ns:List Bool},boolsOf l=some ns->l=ns.map .bl
 |[],ns,h=>by cases h;rfl
 | .bl i::r,ns,h=>by
  simp only[boolsOf,Option.map_eq_some_iff]at h;obtain⟨ms,h1,rfl⟩:=h;rw[sS h1];rfl
 | .non::_,_,h=>by cases h
 | .int _::_,_,h=>by cases h
 | .str _::_,_,h=>by cases h
 | .tup _::_,_,h=>by cases h
 | .lst _::_,_,h=>by cases h
 | .dct _ _::_,_,h=>by cases h
 | .set _::_,_,h=>by cases h
 | .scr _::_,_,h=>by cases h
theorem ul:∀ns:List Bool,boolsOf (ns.map .bl)=some ns
 |[]=>rfl
 |n::ns=>by simp only[List.map_cons,boolsOf,ul ns,Option.map_some]
theorem zP{X:Cx}:∀{bs:List Bool} {us:List Value},Vals (bs.map V.bl) us->LSm.BoolsAre us bs
 |[],_,.nil=>.nil
 |b::bs,_,.cons r t=>by
  have e:_=Value.bool b:=r;subst e;exact .cons b (zP (X:=X) t)
theorem Rps.bools_of:∀{xs:List V} {bs:List Bool},Rps K A H xs (bs.map D.bl)->xs=bs.map V.bl
 |_,[],.nil=>rfl
 |_,n::ns,.cons h r=>by
  cases h;rw[List.map_cons,Rps.bools_of r]
def uy(f:List Bool->Bool):List D->Rs D
 |[.lst l]=>match boolsOf l with
  |some bs=>.ok (.bl (f bs))
  |none=>.st
 |_=>.st
theorem aGk{X:Cx}(hc:X.calm=true):dG X (.builtin "all") (λ xs H Q=>∃(p:Addr) (bs:List Bool),xs=[.ref p]/\H p=some (.lst (bs.map V.bl))/\Q (.bl (bs.all id)) H):=by
 intro pins s σ H xs us Q I r h;obtain⟨p,bs,rfl,hp,q⟩:=h;obtain⟨u,rfl,ru⟩:=vals1 r;cases ru;obtain⟨its,rv,pl,hz⟩:=I.list (SqL.of hp);have hb:=zP (X:=X) rv;have hl:=pl.isList;have hlt:p<s.heap.objs.size:=by obtain⟨_,e,_⟩:=hl;exact Heap.lt_size e
 refine call_all_walk (wpAny_pyIter_list hl ?_);refine⟨s.heap.objs.size,[s.heap.objs.size,p],[s.heap.objs.size],its.toArray.size,_,_,λ i=>(bs[i]?).getD true,rfl,Walks.list (A:=X.A.in1) (I.ok.hd hc) _ p (Nat.ne_of_lt hlt) its.toArray,
  ⟨⟨_,Heap.get?_push_size _ rfl,rfl,rfl⟩,hl.push _⟩,λ i v s' Q' E' hP hQ=>?_,λ h' tk hk=>?_⟩
 ·obtain⟨b,e,rfl⟩:=hb.get i v (by simpa using hP)
  simp only[e,Option.getD_some]at hQ;exact wpAny_truthy_bool hQ
 ·have e:((List.range its.toArray.size).all λ i=>(bs[i]?).getD true)=bs.all id:=by
   rw[List.size_toArray,hb.length];exact LSm.range_all bs
  rw[e];exact⟨.bl _,H,I.kept (LSm.kept_iter hk),rfl,q⟩
theorem aKf:qK K (λ xs H Q=>∃(p:Addr) (bs:List Bool),xs=[.ref p]/\H p=some (.lst (bs.map V.bl))/\Q (.bl (f bs)) H) (uy f):=by
 intro A xs ds H Q z r ez q;unfold uy at ez;split at ez
 ·split at ez
  ·rename_i l bs e
   cases ez
   have:=sS e
   subst this;cases r with
   |cons h r=>
    cases r;cases h with
    |lst h m r=>
     have:=r.bools_of
     subst this;exact⟨_,bs,rfl,h,q _ H (aV.refl H) (.bl _)⟩
  ·cases ez
 ·cases ez
theorem aIK:∀x z,uy f x= .ok z->imm z=true:=by
 intro x z e;unfold uy at e;split at e
 ·split at e
  ·cases e;rfl
  ·cases e
 ·cases e
def mmD(f:Int->Int->Int):List D->Rs D
 |[.int i,.int j]=>.ok (.int (f i j))
 |_=>.st
theorem aJC:qK K (λ xs H Q=>∃i j,xs=[.int i,.int j]/\Q (.int (f i j)) H) (mmD f):=by
 intro A xs ds H Q z r ez q;unfold mmD at ez;split at ez
 ·cases ez
  cases r with
  |cons h r=>
   cases h;cases r with
   |cons h r=>
    cases h;cases r;exact⟨_,_,rfl,q _ H (aV.refl H) (.int _)⟩
 ·cases ez
theorem aGP:∀x z,mmD f x= .ok z->imm z=true:=by
 intro x z e;unfold mmD at e;split at e
 ·cases e;rfl
 ·cases e
def dO:List D->Rs D
 |[.lst l]=>.ok (.tup l)
 |[.tup l]=>.ok (.tup l)
 |_=>.st
def uO:List D->Rs D
 |[.lst l]=>.ok (.lst l)
 |[.tup l]=>.ok (.lst l)
 |_=>.st
theorem aGc:qK K (λ xs H Q=>∃p ys,xs=[.ref p]/\((SqL K H p ys/\∀l,H l=none->Q (.ref l) (upd H l (.tup ys)))\/(SqT K H p ys/\Q (.ref p) H))) dO:=by
 intro A xs ds H Q z r ez q;unfold dO at ez;split at ez
 ·cases ez
  cases r with
  |cons h r=>
   cases r;cases h with
   |lst h m r=>exact⟨_,_,rfl,.inl ⟨SqL.of h,λ l hl=>q _ _ (bL hl _) (.tup (SqT.of bA) ((r.wk λ _ _ _ z=>.inr z.1).up (bL hl _)))⟩⟩
 ·cases ez
  cases r with
  |cons h r=>
   cases r;cases h with
   |tup h r=>exact⟨_,_,rfl,.inr ⟨h,q _ H (aV.refl H) (.tup h (r.wk λ _ _ _ z=>.inr z))⟩⟩
 ·cases ez
theorem aIY:qK K (λ xs H Q=>∃p ys,xs=[.ref p]/\(SqL K H p ys\/SqT K H p ys)/\∀l,H l=none->Q (.ref l) (upd H l (.lst ys))) uO:=by
 intro A xs ds H Q z r ez q;unfold uO at ez;split at ez
 ·cases ez
  cases r with
  |cons h r=>
   cases r;cases h with
   |lst h m r=>exact⟨_,_,rfl,.inl (SqL.of h),λ l hl=>q _ _ (bL hl _) (.lst bA (.inl hl) ((r.wk λ p o e z=>⟨.inr z.1,λ e'=>by subst e';rw[hl]at e;cases e⟩).up (bL hl _)))⟩
 ·cases ez
  cases r with
  |cons h r=>
   cases r;cases h with
   |tup h r=>exact⟨_,_,rfl,.inr h,λ l hl=>q _ _ (bL hl _) (.lst bA (.inl hl) ((r.wk λ p o e z=>⟨.inr z,λ e'=>by subst e';rw[hl]at e;cases e⟩).up (bL hl _)))⟩
 ·cases ez
end
def cutD(l:List D)(lo hi:Option Int):List D:=(l.drop (HT.sIx l.length 0 lo)).take (HT.sIx l.length l.length hi-HT.sIx l.length 0 lo)
theorem Rps.cut{K:PySem.W.Frag}(r:Rps K A H xs ds)(lo hi:Option Int):Rps K A H (xV xs lo hi) (cutD ds lo hi):=by
 unfold xV cutD;rw[r.length];exact(r.drop _).take _
def slD(d:D)(lo hi:Option Int):Rs D:=match d with
 | .tup l=>.ok (.tup (cutD l lo hi))
 | .lst l=>.ok (.lst (cutD l lo hi))
 |_=>.st
def aLO(K:PySem.W.Frag):V->Option Int->Option Int->Hp->VK->Prop:=λ x lo hi H Q=>(∃a xs,x= .ref a/\SqT K H a xs/\∀c H',aV H H'->SqT K H' c (xV xs lo hi)->Q (.ref c) H')\/aLP K x lo hi H Q
theorem aHI:SlR X (λ x lo hi H Q=>∃a xs,x= .ref a/\SqT X.K H a xs/\∀c H',aV H H'->SqT X.K H' c (xV xs lo hi)->Q (.ref c) H'):=by
 intro pins s σ H x v vl vu lo hi sl Q I rx hs pl pu h;obtain⟨a,xs,rfl,hx,q⟩:=h;cases rx;obtain⟨its,r,ht,hz⟩:=I.tuple hx;have hlen:its.toArray.size=xs.length:=by rw[List.size_toArray];exact r.length.symm
 refine⟨"tuple",_,PyProof.Rows.slot_tuple_getitem.lookup,ht.typeIs,?_⟩;by_cases hw:HT.sIx xs.length 0 lo=0/\HT.sIx xs.length xs.length hi=xs.length
 ·refine HT.rW ht hs pl pu (by rw[hlen];exact hw.1) (by rw[hlen];exact hw.2) ⟨.ref a,H,I,rfl,q a H (aV.refl H) ?_⟩
  have:xV xs lo hi=xs:=by
   unfold xV;rw[hw.1,hw.2,List.drop_zero,Nat.sub_zero,List.take_length]
  rw[this];exact hx
 ·refine HT.rT ht hs pl pu (by rw[hlen];exact hw) ?_ (by rw[hlen];exact hz)
  rw[hlen];refine⟨.ref s.heap.objs.size,_,I.laid (t':=s.toks) (o:=.tup (xV xs lo hi)) (λ b ob q=>Heap.get?_push_of_some _ q) (Nat.le_refl _) ?_,rfl,q _ _ (bL (I.hok.fresh (Nat.le_refl _)) _) (SqT.of bA)⟩;exact⟨Nat.le_trans (uf xs lo hi) hz,_,(r.drop (HT.sIx xs.length 0 lo)).take (HT.sIx xs.length xs.length hi-HT.sIx xs.length 0 lo),IsTup.new _ _⟩
theorem aLw:SlR X (aLO X.K):=aHI.or aHJ
section
variable{C:Ct}{pos p2:Pos}{m m1 m2:Mode}{a e:Expr}{fa fe:En->Rs D}{lo hi:Option Expr}
def aMF(K:PySem.W.Frag)(G:Gx)(t:TO)(f:En->Rs (Option Int)):Prop:=∀τ σ H ρ lab (Q:Option Int->Hp->Prop),RR K G τ ρ σ H lab->WR G (f ρ) (λ o=>∀H',aV H H'->Q o H')->t σ H Q
def SO(C:Ct)(e:Option Expr)(f:En->Rs (Option Int)):Prop:=∃t,(∀i,PO (C.X i) e t)/\aMF C.K C.G t f
def cB:En->Rs (Option Int):=λ _=>.ok none
def cA(fe:En->Rs D):En->Rs (Option Int):=λ ρ=>(fe ρ).bd λ d=>match d with
 | .int i=>.ok (some i)
 |_=>.st
theorem dN:SO C none cB:=⟨_,λ _=>aH4,λ τ σ H ρ lab Q R W=>W H (aV.refl H)⟩
theorem dM(h:SE C m e fe):SO C (some e) (cA fe):=by
 obtain⟨t,h1,h2⟩:=h;refine⟨_,λ i=>aH3 (h1 i),λ τ σ H ρ lab Q R W=>h2 τ σ H ρ lab _ R (W.bd.imp λ d _ w x H1 s r=>?_)⟩;cases r with
 |int i=>exact⟨i,rfl,w H1 s⟩
 |_=>exact False.elim w
def bM(fa:En->Rs D)(fl fh:En->Rs (Option Int)):En->Rs D:=λ ρ=>(fa ρ).bd λ d=>(fl ρ).bd λ l=>(fh ρ).bd λ h=>okD (slD d l h)
theorem cN{fl fh:En->Rs (Option Int)}(ha:SE C m a fa)(hl:SO C lo fl)(hh:SO C hi fh):SE C m (.Subscript a (.Slice lo hi none p2) pos) (bM fa fl fh):=by
 obtain⟨t,h1,h2⟩:=ha;obtain⟨tl,l1,l2⟩:=hl;obtain⟨th,k1,k2⟩:=hh;refine⟨tSl (aLO C.K) t tl th,λ i=>by rw[<-C.hK i];exact aFd aLw (h1 i) (l1 i) (k1 i),λ τ σ H ρ lab Q R W=>h2 τ σ H ρ lab _ R (W.bd.imp λ d _ w x H1 s1 r1=>?_)⟩;refine l2 τ σ H1 ρ lab _ (R.up s1) (w.bd.imp λ ol _ w H2 s2=>?_);refine k2 τ σ H2 ρ lab _ ((R.up s1).up s2) (w.bd.imp λ oh _ w H3 s3=>?_);obtain⟨z,ez,w⟩:=w.okD;have s:=s1.trans (s2.trans s3);have r3:=r1.up (s2.trans s3);cases d with
 |tup l=>
  cases ez;cases r3 with
  |tup h r=>exact .inl ⟨_,_,rfl,h,λ c H' s' hc=>w _ H' (s.trans s') (.tup hc ((r.cut ol oh).up s'))⟩
 |lst l=>
  cases ez;cases r3 with
  |lst h mm r=>
   exact .inr ⟨_,_,rfl,SqL.of h,λ p hp=>w _ _ (s.trans (bL hp _)) (.lst bA (.inl (s.free hp)) (((r.cut ol oh).wk λ q o e z=>⟨z.1,λ e'=>by subst e';rw[hp]at e;cases e⟩).up (bL hp _)))⟩
 |_=>cases ez
def uq:D->Rs D
 | .tup l=>.ok (.tup l.reverse)
 |_=>.st
def aIi(K:PySem.W.Frag)(te:TE):TE:=λ σ H Q=>te σ H λ x H1=>∃a xs,x= .ref a/\SqT K H1 a xs/\∀c H',aV H1 H'->H' c=some (.tup xs.reverse)->Q (.ref c) H'
theorem aH8(he:PE X e te):PE X (.Subscript e (.Slice none none (some (.UnaryOp .USub (.Constant (.int 1) j p3) p4)) p2) pos) (aIi X.K te):=by
 intro pins s σ H Q I h;refine Subscript_ (thn (he pins s σ H _ I h) λ v s1 ⟨x,H1,I1,r1,q1⟩=>?_);obtain⟨a,xs,rfl,hx,q⟩:=q1;cases r1;have hm:PE X (.UnaryOp .USub (.Constant (.int 1) j p3) p4) (tUn (rU λ i=>.int (-i)) (tC (.int 1))):=aIs aEq aC2;refine wpAny_Slice ?_;rw[evalPart_none];refine wpAny_pure (wpAny_pure ?_);rw[evalPart_some];refine thn (hm pins s1 σ H1 (λ z H2=>z= .int (-1)/\H2=H1) I1 ⟨1,rfl,rfl,rfl⟩) λ u s2 ⟨z,H2,I2,r2,ez,eH⟩=>?_
 subst ez eH;obtain⟨tk,rfl⟩:=r2;have I4:Inv X pins σ H2 {s2 with heap:=s2.heap.push {cls:=.type "slice",data:=.fields #[.none,.none,.int (-1) tk]}}:=I2.kept (t':=s2.toks) λ b ob q=>Heap.get?_push_of_some _ q
 obtain⟨its,r,ht,hz⟩:=I4.tuple hx;have hlen:its.toArray.size=xs.length:=by rw[List.size_toArray];exact r.length.symm
 show wpAny (model X.prog X.w) X.A (subscriptTail e _ (.ref a) (.ref s2.heap.objs.size)) (EP X pins σ Q) X.xe _;refine tail_any (ops:=[.ref a,.ref s2.heap.objs.size]) ht.typeIs PyProof.Rows.slot_tuple_getitem.lookup ?_ (by with_unfolding_all rfl);refine HT.rR ht (Heap.IsSliceOf.new ..) ?_ (by rw[hlen];exact hz);refine⟨.ref _,_,I4.laid (t':=s2.toks) (o:=.tup xs.reverse) (λ b ob q=>Heap.get?_push_of_some _ q) (Nat.le_refl _) ?_,rfl,q _ _ (bL (I4.hok.fresh (Nat.le_refl _)) _) bA⟩;exact⟨by rw[List.length_reverse];exact hz,_,r.reverse,IsTup.new _ _⟩
theorem zp(h:SE C m e fe):SE C m (.Subscript e (.Slice none none (some (.UnaryOp .USub (.Constant (.int 1) j p3) p4)) p2) pos) (op1 uq fe):=by
 obtain⟨t,h1,h2⟩:=h;refine⟨aIi C.K t,λ i=>by rw[<-C.hK i];exact aH8 (h1 i),λ τ σ H ρ lab Q R W=>h2 τ σ H ρ lab _ R (W.bd.imp λ d _ w x H1 s1 r1=>?_)⟩;obtain⟨z,ez,w⟩:=w.okD;cases d with
 |tup l=>
  cases ez;cases r1 with
  |tup h r=>exact⟨_,_,rfl,h,λ c H' s hc=>w _ H' (s1.trans s) (.tup (SqT.of hc) (r.reverse.up s))⟩
 |_=>cases ez
end
section
variable{C:Ct}{pos p:Pos}{m m1 m2 m3:Mode}{a b c e:Expr}{fa fb fc fe:En->Rs D}{ga:En->Rs (List D)}{es:List Expr}
theorem Ct.u0(C:Ct)(i:C.ι):(C.X i).A.units<cLine:=(C.room i).units0
theorem Ct.u64(C:Ct)(i:C.ι):(C.X i).A.units+64<cLine:=(C.room i).units
theorem Ct.ltR(C:Ct)(i:C.ι):OpR (C.X i) (compareOp .Lt) (λ x y H Q=>rI0 (λ i j=>.bl (decide (i<j))) x y H Q\/aHU C.K x y H Q):=by have h:=aJz (X:=C.X i) (C.u0 i);rw[C.hK i]at h;exact h
theorem Ct.leR(C:Ct)(i:C.ι):OpR (C.X i) (compareOp .LtE) (λ x y H Q=>rI0 (λ i j=>.bl (decide (i<=j))) x y H Q\/aHV C.K x y H Q):=by have h:=aKB (X:=C.X i) (C.u0 i);rw[C.hK i]at h;exact h
theorem Ct.eqRl(C:Ct)(i:C.ι):OpR (C.X i) (compareOp .Eq) (aFZ C.K false):=by have h:=aKG (X:=C.X i) (C.u64 i);rw[C.hK i]at h;exact h
theorem Ct.neRl(C:Ct)(i:C.ι):OpR (C.X i) (compareOp .NotEq) (aFZ C.K true):=by have h:=aJw (X:=C.X i) (C.u64 i);rw[C.hK i]at h;exact h
theorem Ct.inRl(C:Ct)(i:C.ι):OpR (C.X i) (compareOp .In) (aFY C.K false):=by have h:=aKF (X:=C.X i) (C.u64 i);rw[C.hK i]at h;exact h
theorem Ct.ninRl(C:Ct)(i:C.ι):OpR (C.X i) (compareOp .NotIn) (aFY C.K true):=by have h:=aEF (X:=C.X i) (C.u64 i);rw[C.hK i]at h;exact h
theorem Ct.aKn(C:Ct)(i:C.ι):OpR (C.X i) (binaryOp .Add) (aDU C.K):=by have h:=aHj (X:=C.X i);rw[C.hK i]at h;exact h
def aCG:D->D->Rs D:=i2 (λ _ _=>true) λ i j=>.int (i-j)
def uT:D->D->Rs D:=i2 (λ _ j=>decide (0<j)&&decide (j<1073741824)) λ i j=>.int (i / j)
def oR:D->D->Rs D:=i2 (λ _ j=>decide (0<j)) λ i j=>.int (i%j)
def aJ8:D->D->Rs D:=i2 (λ i j=>decide (0<=j)&&decide (j<=1000000)&&decide (i.natAbs<2^64)) λ i j=>.int (i^j.toNat)
theorem bY(ha:SE C m1 a fa)(hb:SE C m2 b fb):SE C (jn m1 m2) (.BinOp a .Add b pos) (op2 au fa fb):=yo C.aKn aFk ha hb
theorem su(ha:SE C m1 a fa)(hb:SE C m2 b fb):SE C (jn m1 m2) (.BinOp a .Mult b pos) (op2 lr fa fb):=yo (λ _=>aHf) aJr ha hb
theorem aFK(ha:SE C m1 a fa)(hb:SE C m2 b fb):SE C (some []) (.BinOp a .Sub b pos) (op2 aCG fa fb):=gQ (yo (λ _=>aJt) aHe ha hb) λ _ _ h=>lH aAb h
theorem aDQ(ha:SE C m1 a fa)(hb:SE C m2 b fb):SE C (some []) (.BinOp a .FloorDiv b pos) (op2 uT fa fb):=gQ (yo (λ _=>aHg) (aC4 λ i j h=>by simpa[aLl]using h) ha hb) λ _ _ h=>lH aAb h
theorem qR(ha:SE C m1 a fa)(hb:SE C m2 b fb):SE C (some []) (.BinOp a .Mod b pos) (op2 oR fa fb):=gQ (yo (λ _=>aJy) (aC4 λ i j h=>by simpa using h) ha hb) λ _ _ h=>lH aAb h
theorem aJV(ha:SE C m1 a fa)(hb:SE C m2 b fb):SE C (some []) (.BinOp a .Pow b pos) (op2 aJ8 fa fb):=gQ (yo (λ _=>aJv) (aC4 λ i j h=>by simp only[Bool.and_eq_true,decide_eq_true_eq]at h;exact⟨h.1.1,h.1.2,h.2⟩) ha hb) λ _ _ h=>lH aAb h
theorem aFM(ha:SE C m a fa):SE C (some []) (.UnaryOp .USub a pos) (op1 aBY fa):=gQ (aLK (λ _=>aEq) aJG ha) λ _ _ h=>aIH aII h
theorem aLM(ha:SE C m1 a fa)(hb:SE C m2 b fb):SE C (some []) (.Compare a [.Lt] [b] pos) (op2 ltD fa fb):=gQ (zr C.ltR aDZ ha hb) λ _ _ h=>lH aCu h
theorem aDR(ha:SE C m1 a fa)(hb:SE C m2 b fb):SE C (some []) (.Compare a [.Eq] [b] pos) (op2 (eqR false) fa fb):=gQ (zr C.eqRl os_eq ha hb) λ _ _ h=>lH aGS h
theorem aLL(ha:SE C m1 a fa)(hb:SE C m2 b fb):SE C (some []) (.Compare a [.NotEq] [b] pos) (op2 (eqR true) fa fb):=gQ (zr C.neRl os_eq ha hb) λ _ _ h=>lH aGS h
theorem aLN(ha:SE C m1 a fa)(hb:SE C m2 b fb):SE C (some []) (.Compare a [.Is] [b] pos) (op2 (isD false) fa fb):=gQ (zr (λ _=>aKD) aLY ha hb) λ _ _ h=>lH aK9 h
theorem aEy(ha:SE C m1 a fa)(hb:SE C m2 b fb):ST C (.Compare a [.Lt] [b] pos) (tsb (op2 ltD fa fb)):=sW C.ltR aDZ ha hb
theorem aLI(ha:SE C m1 a fa)(hb:SE C m2 b fb):ST C (.Compare a [.GtE] [b] pos) (tsb (op2 geD fa fb)):=sW (λ _=>aL1) aC5 ha hb
theorem aDK(ha:SE C m1 a fa)(hb:SE C m2 b fb):ST C (.Compare a [.Eq] [b] pos) (tsb (op2 (eqR false) fa fb)):=sW C.eqRl os_eq ha hb
theorem nu(ha:SE C m1 a fa)(hb:SE C m2 b fb):ST C (.Compare a [.NotEq] [b] pos) (tsb (op2 (eqR true) fa fb)):=sW C.neRl os_eq ha hb
theorem aLH(ha:SE C m1 a fa)(hb:SE C m2 b fb)(hm:behindInMarks .In b=false:=by with_unfolding_all rfl):ST C (.Compare a [.In] [b] pos) (tsb (op2 (inR false) fa fb)):=sW C.inRl aIu ha hb hm
theorem v7(ha:SE C m1 a fa)(hb:SE C m2 b fb)(hm:behindInMarks .NotIn b=false:=by with_unfolding_all rfl):ST C (.Compare a [.NotIn] [b] pos) (tsb (op2 (inR true) fa fb)):=sW C.ninRl aIu ha hb hm
theorem aHO(ha:SE C m1 a fa)(hb:SE C m2 b fb)(hc:SE C m3 c fc)(hm:lastMarks [.LtE,.LtE] [b,c]=false:=by with_unfolding_all rfl):SE C (some []) (.Compare a [.LtE,.LtE] [b,c] pos) (chD leD leD fa fb fc):=aBD C.leR aD0 C.leR aD0 aK8 ha hb hc hm
theorem aHN(ha:SE C m1 a fa)(hb:SE C m2 b fb)(hc:SE C m3 c fc)(hm:lastMarks [.LtE,.Lt] [b,c]=false:=by with_unfolding_all rfl):SE C (some []) (.Compare a [.LtE,.Lt] [b,c] pos) (chD leD ltD fa fb fc):=aBD C.leR aD0 C.ltR aDZ aCu ha hb hc hm
theorem aHH(ha:SE C m1 a fa)(hb:SE C m2 b fb)(hc:SE C m3 c fc)(hm:lastMarks [.LtE,.Lt] [b,c]=false:=by with_unfolding_all rfl):ST C (.Compare a [.LtE,.Lt] [b,c] pos) (tsb (chD leD ltD fa fb fc)):=aEz C.leR aD0 C.ltR aDZ aCu ha hb hc hm
theorem aY(ha:SE C m1 a fa)(hb:SE C m2 b fb)(hp:aAr b:=by exact λ _ _=>rfl):SE C m1 (.Subscript a b pos) (op2 ixD fa fb):=by
 obtain⟨t,h1,h2⟩:=ha;obtain⟨u,k1,k2⟩:=hb;refine⟨tOp (rIx C.K) t u,λ i=>by rw[<-C.hK i];exact aFe aK5 (h1 i) (k1 i) hp,λ τ σ H ρ lab Q R W=>?_⟩;refine h2 τ σ H ρ lab _ R (W.bd.imp λ d _ w x H1 s1 r1=>?_);refine k2 τ σ H1 ρ lab _ (R.up s1) (w.bd.imp λ e _ w y H2 s2 r2=>?_);obtain⟨z,ez,w⟩:=w.okD;have hi:imm e=true:=by
  unfold ixD at ez;split at ez<;>first|rfl|cases ez
 refine aLX (fpM m1 lab H) x y d e H2 Q z (r1.up s2) (r2.imm hi) ez λ v H' s r=>w v H' ((s1.trans s2).trans s) (r.wk λ p o _ q=>?_)
 rcases q with q|q
 ·exact .inl ((s1.trans s2).free q)
 ·exact q
theorem gD(hm:C.mg "len"=none)(ha:SA C m [a] ga)(he:∀i,starEach [a] (C.X i).env=[(false,eval a (C.X i).env)]:=by intro _;rfl)(hg:∀i,Gl (C.X i) "len":=by intro _;rfl):SE C (some []) (.Call (.Name "len" p) [a] [] pos) (opA cO ga):=
 gQ (lW (λ i=>by have h:=sO (X:=C.X i);rw[C.hK i]at h;exact h) aGe hg hm PySem.boot_len ha (by decide) (by decide) he) λ _ _ h=>pJ aDf h
theorem aFO(hm:C.mg "all"=none)(ha:SA C m [a] ga)(he:∀i,starEach [a] (C.X i).env=[(false,eval a (C.X i).env)]:=by intro _;rfl)(hg:∀i,Gl (C.X i) "all":=by intro _;rfl)(hv:bootBuiltins "all"=some (.builtin "all"):=by decide+kernel):SE C (some []) (.Call (.Name "all" p) [a] [] pos) (opA (uy λ bs=>bs.all id) ga):=
 gQ (lW (λ i=>aGk (C.calm i)) aKf hg hm hv ha (by decide) (by decide) he) λ _ _ h=>pJ aIK h
theorem vG(hm:C.mg "min"=none)(ha:SA C m [a,b] ga)(he:∀i,starEach [a,b] (C.X i).env=(false,eval a (C.X i).env)::starEach [b] (C.X i).env:=by intro _;rfl)(hpl:∀i,(backTo pos (starEach [b] (C.X i).env)).any (·.1)=false:=by intro _;rfl)(hg:∀i,Gl (C.X i) "min":=by intro _;rfl)(hv:bootBuiltins "min"=some (.builtin "min"):=by decide+kernel):SE C (some []) (.Call (.Name "min" p) [a,b] [] pos) (opA (mmD λ i j=>if j<i then j else i) ga):=
 gQ (lW (λ i=>aE9 (C.calm i)) aJC hg hm hv ha (by decide) (by decide) he hpl) λ _ _ h=>pJ aGP h
theorem vH(hm:C.mg "max"=none)(ha:SA C m [a,b] ga)(he:∀i,starEach [a,b] (C.X i).env=(false,eval a (C.X i).env)::starEach [b] (C.X i).env:=by intro _;rfl)(hpl:∀i,(backTo pos (starEach [b] (C.X i).env)).any (·.1)=false:=by intro _;rfl)(hg:∀i,Gl (C.X i) "max":=by intro _;rfl)(hv:bootBuiltins "max"=some (.builtin "max"):=by decide+kernel):SE C (some []) (.Call (.Name "max" p) [a,b] [] pos) (opA (mmD λ i j=>if j>i then j else i) ga):=
 gQ (lW (λ i=>aEa (C.calm i)) aJC hg hm hv ha (by decide) (by decide) he hpl) λ _ _ h=>pJ aGP h
theorem jr(hm:C.mg "tuple"=none)(ha:SA C m [a] ga)(he:∀i,starEach [a] (C.X i).env=[(false,eval a (C.X i).env)]:=by intro _;rfl)(hg:∀i,Gl (C.X i) "tuple":=by intro _;rfl)(hv:bootBuiltins "tuple"=some (.type "tuple"):=by decide+kernel):SE C m (.Call (.Name "tuple" p) [a] [] pos) (opA dO ga):=
 aBE (λ i=>by have h:=yS (X:=C.X i);rw[C.hK i]at h;exact h) aGc hg hm hv ha (by decide) (by decide) he
theorem aDO(hm:C.mg "list"=none)(ha:SA C m [a] ga)(he:∀i,starEach [a] (C.X i).env=[(false,eval a (C.X i).env)]:=by intro _;rfl)(hg:∀i,Gl (C.X i) "list":=by intro _;rfl)(hv:bootBuiltins "list"=some (.type "list"):=by decide+kernel):SE C m (.Call (.Name "list" p) [a] [] pos) (opA uO ga):=
 aBE (λ i=>by have h:=aAk (X:=C.X i);rw[C.hK i]at h;exact h) aIY hg hm hv ha (by decide) (by decide) he
def OpF(K:PySem.W.Frag)(r:R2)(fd:D->D->Rs D):Prop:=∀(A:Addr->Prop) x y d e H (Q:VK) z,Rp K A H x d->Rp K A H y e->fd d e= .ok z->(∀v H',aV H H'->Rp K (λ p=>H p=none\/A p) H' v z->aKw H v z->Q v H')->r x y H Q
theorem aKK{K:PySem.W.Frag}:OpF K (aDU K) au:=by
 intro A x y d e H Q z rx ry ez q;cases z with
 |lst l=>
  unfold au at ez;split at ez
  ·cases ez
  ·split at ez
   ·rename_i hl
    cases ez;cases rx with
    |lst h1 m1 r1=>
     cases ry with
     |lst h2 m2 r2=>
      refine .inr (.inl ⟨_,_,_,_,rfl,rfl,h1,h2,by rw[r1.length,r2.length];exact hl,λ p H' s hp hn=>q _ H' s (.lst hp (.inl hn) ?_) λ _=>⟨p,rfl,hn⟩⟩);exact(((r1.wk λ _ _ _ z=>z.1).append (r2.wk λ _ _ _ z=>z.1)).wk (A':=λ q=>(H q=none\/A q)/\q≠p) λ q o e z=>⟨.inr z,λ e'=>by subst e';rw[hn]at e;cases e⟩).up s
   ·cases ez
  ·split at ez<;>cases ez
  ·cases ez
 |dct ks vs=>
  unfold au at ez;split at ez
  ·cases ez
  ·split at ez<;>cases ez
  ·split at ez<;>cases ez
  ·cases ez
 |set l=>
  unfold au at ez;split at ez
  ·cases ez
  ·split at ez<;>cases ez
  ·split at ez<;>cases ez
  ·cases ez
 |_=>exact aFk A x y d e H Q _ rx ry ez λ v H' s r=>q v H' s r λ hm=>by cases hm
theorem aFH(ha:SE C m1 a fa)(hb:SE C m2 b fb):SF C (jn m1 m2) (.BinOp a .Add b pos) (op2 au fa fb):=by
 obtain⟨t,h1,h2⟩:=ha;obtain⟨u,k1,k2⟩:=hb;refine⟨_,λ i=>aDW (C.aKn i) (h1 i) (k1 i),?_⟩;intro τ σ H ρ lab Q R W;refine h2 τ σ H ρ lab _ R (W.bd.imp λ d _ w x H1 s1 r1=>?_);refine k2 τ σ H1 ρ lab _ (R.up s1) (w.bd.imp λ e _ w y H2 s2 r2=>?_);obtain⟨z,ez,w⟩:=w.okD;refine aKK (fpM (jn m1 m2) lab H) x y d e H2 Q z (r1.mono s2 λ p o _ q=>aG2 q) (r2.wk λ p o _ q=>aG1 (rZ s1 q)) ez λ v H' s r ht=>w v H' ((s1.trans s2).trans s) (r.wk λ p o _ q=>?_) λ hm=>?_
 ·rcases q with q|q
  ·exact .inl ((s1.trans s2).free q)
  ·exact q
 ·obtain⟨a,e1,e2⟩:=ht hm
  exact⟨a,e1,(s1.trans s2).free e2⟩
theorem aJX{K:PySem.W.Frag}{a:Addr}(hO:Only H)(h:SqL K H a (ns.map V.int)):qJ K H a ns:=by
 rcases h with (h|⟨o,h⟩)|h
 ·rcases hO a with z|⟨o,xs,z⟩
  ·rw[h]at z;cases z
  ·rw[h]at z;cases z
 ·exact .inl ⟨o,h⟩
 ·exact .inr h
end
def aBP:V->List V->Hp->VK->Prop:=λ x vs H Q=>∃l b xs zs,x= .ref l/\vs=[.ref b]/\H l=some (.lst xs)/\H b=some (.lst zs)/\xs.length+zs.length<=sizeLine/\∀H',mW l H H'->H' l=some (.lst (xs++zs))->Q .non H'
theorem aCa:MtM X "list.extend" aBP:=λ pins s σ H x xs v us Q I rx rv ⟨l,b,ys,zs,e1,e2,h,h2,z,n⟩=>
 aEJ pins s σ H x xs v us Q I rx rv ⟨l,b,ys,zs,e1,e2,h,h2,z,n _ (λ b o ne hb=>by rw[aZ ne];exact hb) bA⟩
section
variable{C:Ct}{pos apos cpos p:Pos}{e tg:Expr}{fe:En->Rs D}{fg:D->En->Rs En}{i:Nat}{x:Str}{m:Mode}{ks:List Nat}
def aIU(ds:List D)(k:List D->Ou):D->Ou
 | .lst es=>if ds.length+es.length<=sizeLine then k (ds++es)else .st
 |_=>.st
def aIT(i:Nat)(fe:En->Rs D):En->Ou:=λ ρ=>match ρ[i]? with
 |some (.ow (.lst ds))=>(fe ρ).bo (aIU ds λ l=>.nx (ρ.set i (.ow (.lst l))))
 |_=>.st
theorem aDu(i:Nat)(he:SE C m e fe)(hm:okN m=true:=by rfl)(hN:∀j,(C.X j).N[i]? =some x:=by intro _;rfl)(hv:∀j,Vis (C.X j).env.scope x:=by intro _;first|exact Or.inl rfl|exact Or.inr (Or.inl rfl)|exact Or.inr (Or.inr rfl))(hd:(x==("__debug__":Str))=false:=by decide)
  (hcd:(x==("__classdict__":Str))=false:=by decide)(hs1:∀j,starEach [e] (C.X j).env=[(false,eval e (C.X j).env)]:=by intro _;rfl)
  (hbase:∀j,attributeBase (.Name x p) "extend" (C.X j).env (eval (.Name x p) (C.X j).env)=eval (.Name x p) (C.X j).env:=by intro _;rfl)
  (hfew:∀j,((backTo cpos (starEach [e] (C.X j).env)).all (λ x=>!x.1)&&(backToKw cpos (keywordEach [] (C.X j).env)).all (λ x=>x.1.isSome)&&decide ([e].length+([]:List Keyword).length+(if ([]:List Keyword).isEmpty then 0 else 1)<30))=true:=by intro _;rfl)
  (hline:(apos.endLine==cpos.line)=true:=by rfl)
  (hsw:∀j,swapsWith (.Call (.Attribute (.Name x p) "extend" apos) [e] [] cpos) none pos.line (C.X j).env=pure false:=by intro _;rfl):
  SS C (.Expr (.Call (.Attribute (.Name x p) "extend" apos) [e] [] cpos) pos) (aIT i fe):=by
 obtain⟨t,h1,h2⟩:=he;refine⟨v4 (tBM C.K "list" aBP (n8 i) (jo t rB)),λ j=>pB (by rw[<-C.hK j];exact yr PySem.F.plainAttrs_list PySem.F.slot_list_extend PySem.F.type_list_extend aCa (iK (hN j) (hv j) hd hcd) (az (h1 j) dU (hs1 j)) (hbase j) (hfew j) hline (hs1 j) rfl) (hsw j),λ τ σ H ρ lab De R W=>?_⟩;unfold aIT at W;cases es:ρ[i]? with
 |none=>rw[es]at W;exact False.elim W
 |some s=>
  rw[es]at W;split at W
  ·rename_i ds hs
   cases hs;rcases R.sl i _ es with z|⟨v,ev,hv'⟩
   ·cases z
   ·obtain⟨hv1,htop⟩:=hv'
    obtain⟨a0,ea0,la0⟩:=htop rfl;subst ea0;cases hv1 with
    |lst h mm r=>
     rename_i xs;refine⟨.ref a0,ev,.inl ⟨rfl,xs,SqL.of h⟩,h2 τ σ H ρ lab _ R (W.bo.imp λ d _ w y H2 s2 r2=>?_)⟩;cases d with
     |lst es'=>
      dsimp only[aIU]at w;by_cases hz:ds.length+es'.length<=sizeLine
      ·rw[if_pos hz]at w
       obtain⟨R',r'⟩:=R.fresh (P:=λ k=>k=1) rfl (λ k hk=>beq_iff_eq.mp (pF hm k hk)) s2 r2;have la:(cJ H 1 lab a0).1=i+2:=by rw[bc h];exact la0
       cases r' with
       |lst hb mb rb=>
        rename_i b zs;refine⟨a0,b,xs,zs,rfl,rfl,s2 _ _ h,hb,by rw[r.length,rb.length];exact hz,λ H3 B h3=>?_⟩;refine w σ H3 _ (R'.mut ev (s2 _ _ h) rfl la B ⟨.lst h3 (.inr la) ?_,λ _=>⟨a0,rfl,la⟩⟩);have ra:Rps C.K (λ p=>((cJ H 1 lab p).1=1\/(cJ H 1 lab p).1=i+2)/\p≠a0) H2 (xs++zs) (ds++es'):=by
         refine(r.mono s2 λ p o e z=>⟨by rw[bc e];exact z.1,z.2⟩).append (rb.wk λ p o e z=>⟨.inl z.1,λ q=>?_⟩);subst q;have z1:(cJ H 1 lab p).1=1:=z.1;omega
        exact ra.but B (s2 _ _ h) rfl λ z=>z.2 rfl
      ·rw[if_neg hz]at w
       exact False.elim w
     |_=>exact False.elim w
  ·exact False.elim W
end
section
variable{K:PySem.W.Frag}
end
section
variable{C:Ct}{pos p:Pos}{a:Expr}{ga:En->Rs (List D)}{m:Mode}
end
section
variable{C:Ct}{pos:Pos}{a b:Expr}{fa fb:En->Rs D}{m1 m2:Mode}
end
abbrev ctL(P:Program)(w:World)(K:PySem.W.Frag)(mg:Str->Option Value)(base:Heap)(N:List Str)(q:Str)(sc:Scope)(cl:List (Str×Addr))(f:Addr)(cdv:Value)(A:Around)(outer:List Env)(s:Shared)(H:Hp)(E:XK)(k:Nat)(hr:fY k (A.deeper (PySem.W.envX q sc s.heap.objs.size f cdv cl))):Ct where
 ι:=Unit
 X:=λ _=>cxL P w K mg base N q sc cl f cdv A outer s H E
 prog:=P
 w:=w
 K:=K
 mg:=mg
 base:=base
 k:=k
 G:=⟨H,E,bD mg⟩
 cx:=λ _=>⟨rfl,rfl,rfl,rfl,rfl⟩
 calm:=λ _=>rfl
 room:=λ _=>hr
 own:=λ _=>eQ.own eQ.ofL
 pass:=λ _=>eQ.pass eQ.ofL
 dOk:=true
 dcx:=λ _ _=>eQ.ofL
def shS:Slot->Slot
 | .no=>.no
 | .sh d=>.sh d
 | .nw d=>.sh d
 | .ow d=>.sh d
 | .oz d=>.sh d
 | .o2 l=>.sh (.lst (l.map .lst))
theorem gH.shut{K:PySem.W.Frag}{H:Hp}{lab:Lab}{i:Nat}{v:V}{x:Slot}(h:gH K H lab i v x):gH K H (λ _=>(0,0)) i v (shS x):=by
 cases x with
 |no=>exact trivial
 |sh d=>exact Rp.wk (λ _ _ _ _=>Nat.zero_le _) h
 |nw d=>exact Rp.wk (λ _ _ _ _=>Nat.zero_le _) h
 |ow d=>exact Rp.wk (λ _ _ _ _=>Nat.zero_le _) h.1
 |oz d=>
  obtain⟨a,xs,ds,rfl,rfl,e3,e4,e5⟩:=h;exact .lst e3 (Nat.zero_le _) (Rps.wk (λ p o e z=>⟨Nat.zero_le _,λ ep=>by
   have z':(lab p).1<=1:=z;rw[ep,e4]at z';omega⟩) e5)
 |o2 l=>exact Rp.wk (λ _ _ _ _=>Nat.zero_le _) (aD3 h)
theorem RR.shut{K:PySem.W.Frag}{G:Gx}{τ:List (V×D)}{ρ:En}{σ:L2.St}{H:Hp}{lab:Lab}{E:XK}{cl:Str->Addr}(R:RR K G τ ρ σ H lab):RR K ⟨H,E,cl⟩ [] (ρ.map shS) σ H (λ _=>(0,0)):=by
 refine⟨by rw[List.length_map];exact R.len,λ i s e=>?_,aV.refl H,λ p hp=>absurd rfl hp,λ q hq=>by cases hq⟩;rw[List.getElem?_map]at e;cases hr:ρ[i]? with
 |none=>rw[hr]at e;cases e
 |some x=>
  rw[hr]at e;cases e;rcases R.sl i x hr with z|⟨v,e1,e2⟩
  ·subst z;exact .inl rfl
  ·exact .inr ⟨v,e1,e2.shut⟩
def aLJ(cl:Str->Addr)(H1:Hp)(r:Rs D):Sp:=λ vs H Q E=>vs=[]/\aV H1 H/\WR ⟨H,E,cl⟩ r (λ _=>∀v H',aV H H'->Q v H')
def tK(wn:Str->Option Str)(told:Str)(fe:En->Rs D):En->Rs D:=λ ρ=>match fe (ρ.map shS)with
 | .ok _=>.ok (.str told)
 | .ex c=>(match wn c with
  |some w=>.ok (.str w)
  |none=>.st)
 | .st=>.st
def aKz(P:Program)(w:World)(K:PySem.W.Frag)(mg:Str->Option Value)(N:List Str)(q:Str)(params:Arguments)(body:Expr)(scope:Scope)(k0:Nat)(told:Str)(wd:Addr->Option Str)(E:XK):TE:=λ σ H Q=>
 ∀(base:Heap) (cl:List (Str×Addr)) (f c':Addr) (ctv pm:Value) (H1:Hp),aV H H1->aBt q params body scope cl pm H1 f c' ctv->aGw base N σ scope cl->spR P w K mg base k0 told wd [.ref f] H1 Q E
section
variable{C:Ct}{m:Mode}{x pc told q:Str}{p pos lpos:Pos}{k k0 kb:Nat}{fn:Addr}{fd:FuncData}{wd:Addr->Option Str}{wn:Str->Option Str}{params:Arguments}{body:Expr}{scope:Scope}{N:List Str}{fe:En->Rs D}
theorem aCL(hF:∀base,cg C.prog C.w C.K C.mg base (CX1 C.prog C.w) k fn fd [pc] (spR C.prog C.w C.K C.mg base k0 told wd))(hr:k<=C.k)(hm:C.mg x=some (.ref fn))(hk:PySem.W.keepIn C.K (.ref fn)=true)(hb:Binds C.K fd [pc] [])
  (hL:∀i,(∃P,um (C.X i) P)/\(C.X i).outer=[]/\(C.X i).N=N/\(C.X i).tq=q)(S:xm scope)(hcl:C.G.cl=bD C.mg)(hwn:∀c w,wn c=some w->wd (bD C.mg c)=some w)(hkb:kb+1<=k0)
  (hbody:∀base cl f cd A outer s H E hr,SE (ctL C.prog C.w C.K C.mg base N q scope cl f cd A outer s H E kb hr) m body fe)
  (hbnd:∀cl pm c' ctv,bindArgs (PySem.W.kla_fn "<lambda>" q params body scope cl pm (.ref c') ctv) ⟨[],[]⟩=pure []:=by intro _ _ _ _;rfl)(hdef:∀i,defaultsOf params (C.X i).env=([],[]):=by intro _;rfl)
  (hfree:∀i,∀y∈scope.names,y.2= .free->(C.X i).env.kindOf y.1=some .cell\/(C.X i).env.kindOf y.1=some .free)(hdb:(x==("__debug__":Str))=false:=by decide)(hg:∀i,Gl (C.X i) x:=by intro _;rfl):
  SE C (some []) (.Call (.Name x p) [.Lambda params body scope lpos] [] pos) (tK wn told fe):=by
 refine⟨aKz C.prog C.w C.K C.mg N q params body scope k0 told wd C.G.E,λ i=>?_,λ τ σ H ρ lab Q R W=>?_⟩
 ·obtain⟨e1,e2,e3,e4,e5⟩:=C.cx i
  obtain⟨⟨P,Lx⟩,ho,eN,eq⟩:=hL i;intro pins s σ H Q I h;refine wpAny_Call_Name_kw (pG I (hg i) (by rw[e4];exact hm) ?_ hdb);have ha:PA (C.X i) [.Lambda params body scope lpos] _:=az (aJj Lx (hdef i) (hfree i)) dU;refine PySem.W.callWith_K (h₀:=(C.X i).base) I.ok.mod.kin (by rw[e3];exact hk) (thn (ha pos pins s σ H (λ vs H1=>aV H H1/\∃f c' ctv,vs=[.ref f]/\aBt (C.X i).tq params body scope (L2.bD scope (C.X i).env) (((C.X i).mg "__name__").getD .none) H1 f c' ctv) I
   (λ f c' ctv H' sm l=>⟨sm,f,c',ctv,rfl,l⟩)) λ us s1 ⟨vs,H1,I1,r,sm,f,c',ctv,ev,la⟩=>⟨I1.kIn,?_⟩)
  subst ev;have hz:=h (bse (C.X i) s1 H1) (L2.bD scope (C.X i).env) f c' ctv _ H1 sm (by rw[<-eq];exact la) (by rw[<-eN];exact aKh I1 ho S (hfree i));exact aHQ (CX:=CX1 (C.X i).prog (C.X i).w) I1 (by rw[e1,e2,e3,e4];exact hF _) ((C.room i).mono hr) (by rw[e3];exact hb) (C.pass i) r (by rw[e1,e2,e3,e4]at*;exact hz)
 ·intro base cl f c' ctv pm H1 sm la cp
  have R1:=R.up sm;have FL:cg C.prog C.w C.K C.mg base (CX1 C.prog C.w) (kb+1) f (PySem.W.kla_fn "<lambda>" q params body scope cl pm (.ref c') ctv) [] (aLJ (bD C.mg) H1 (fe (ρ.map shS))):=by
   refine aKS la S cp (λ vs H Q E h=>⟨h.1,h.2.1⟩) λ A outer s H2 Q2 E2 hr2 hsp=>?_
   obtain⟨t,h1,h2⟩:=hbody base cl f (.ref c') A outer s H2 E2 hr2;exact⟨t,h1 (),h2 [] σ H2 _ _ Q2 (R1.up hsp.2.1).shut (hsp.2.2.imp λ d _ z v H' s' _=>z v H' s')⟩
  refine⟨f,_,_,_,_,kb+1,_,rfl,la.1,FL,hkb,λ s us _ hl=>?_,rfl,aV.refl H1,?_⟩
  ·have e:us=[]:=by
    rw[List.append_nil]at hl;exact List.length_eq_zero_iff.mp hl
   subst e;exact .of_eq (hbnd cl pm c' ctv)
  ·unfold tK at W
   cases he:fe (ρ.map shS)with
   |ok d=>rw[he]at W;exact λ v H' s'=>W (.str told) H' (sm.trans s') (.str told)
   |ex c=>
    rw[he]at W;cases hw:wn c with
    |none=>simp only[hw]at W;exact W.elim
    |some w=>
     simp only[hw]at W;exact λ H' s'=>⟨_,w,rfl,hwn c w hw,λ H'' s''=>W (.str w) H'' (sm.trans (s'.trans s'')) (.str w)⟩
   |st=>rw[he]at W;exact W.elim
end
end VL
namespace L2
open PySem PySem.Spec PyProof.Rows
def cxW(P:Program)(w:World)(K:PySem.W.Frag)(mg:Str->Option Value)(base:Heap)(N:List Str)(qual:Str)(scope:Scope)(f:Addr)(cd:Value)(A:Around)(s:Shared)(H:Hp)(Pt:Addr):Cx where
 prog:=P
 w:=w
 K:=K
 mg:=mg
 base:=base
 A:=A.deeper (envOfC qual scope s.heap.objs.size f cd)
 N:=N
 s₀:=s
 H₀:=H
 env:=envOfC qual scope s.heap.objs.size f cd
 outer:=[]
 stack:=[envOfC qual scope s.heap.objs.size f cd]
 ex:=[Pt]
 calm:=true
 fn:=λ _=>true
 pn:=[]
 xe:=λ _ _=>False
 ta:=[(Pt,PySem.W.tabObj #[])]
 tq:=qual++".<locals>."++"<lambda>"
section
variable{P:Program}{w:World}{K:PySem.W.Frag}{mg:Str->Option Value}{base:Heap}{N ps:List Str}{qual:Str}{scope:Scope}{f Pt:Addr}{cd:Value}{A:Around}{s s1:Shared}{H:Hp}{vs:List V}{us:List Value}
theorem aCt(S:aa N ps scope)(hd:A.handled=none)(e0:aBv P w K mg base A [] s H)(hl:vs.length=ps.length)(r:Vals vs us)
  (hP:s.heap.get? Pt=some (PySem.W.tabObj #[]))(hH:H Pt=none)(hb:base.get? Pt=none)
  (x:InCallC s s.heap.objs.size (bindL (envOfC qual scope s.heap.objs.size f cd).kindOf (ps.zip us) λ _=>none) (cellsFrom (s.heap.objs.size+1) scope.names []) (bindC (envOfC qual scope s.heap.objs.size f cd).kindOf (ps.zip us) λ _=>none) s1):
  Inv (cxW P w K mg base N qual scope f cd A s H Pt) [] (start N vs) H s1:=by
 have I:Inv (ux (CX1 P w) P w K mg base N qual scope f cd A [] s H λ _ _ _=>False) [] (start N vs) H s1:=tW S hd e0 hl r x;obtain⟨h1,tk,e1,hk⟩:=x.done;have hlt:=Heap.lt_size hP;have hne:∀b∈[Pt],b≠s.heap.objs.size:=λ b hb z=>by
  have e:b=Pt:=by simpa using hb
  rw[e]at z;exact absurd hlt (by rw[z];exact Nat.lt_irrefl _)
 refine⟨⟨I.ok.mod,I.ok.kind,I.ok.glob,I.ok.blt,I.ok.above,I.ok.inj,I.ok.has,I.ok.cab,I.ok.hd,I.ok.frames,I.ok.stk,λ b hb2=>⟨hne b hb2,λ y c e z=>?_⟩,I.ok.bs,I.ok.bsz,λ b o e hb'=>?_,λ b _=>λ z=>(nomatch z),I.ok.funs,I.ok.frf⟩,
  I.os,I.bare,I.base.mono (λ b z=>z) (λ b z=>(nomatch z)),I.loc,I.cell,I.free,I.freeC,I.pin,I.hok,I.len,λ p hp=>?_⟩
 ·have q:s.heap.objs.size<=c:=I.ok.cab y c rfl e
  have e2:b=Pt:=by simpa using(show b∈[Pt]from hb2)
  rw[z,e2]at q;exact absurd hlt (Nat.not_lt.mpr q)
 ·have e2:b=Pt:=by simpa using(show b∈[Pt]from hb')
  have e3:base.get? b=some o:=e;rw[e2,hb]at e3;cases e3
 ·have e2:p=(Pt,PySem.W.tabObj #[]):=by simpa using(show p∈[(Pt,PySem.W.tabObj #[])]from hp)
  subst e2;refine⟨hH,hne Pt List.mem_cons_self,λ z=>(nomatch z),λ q hq=>(nomatch hq),#[],?_,trivial,λ pos cv e=>nomatch e⟩;subst e1;exact hk _ _ hP
end
theorem aET{P:Program}{w:World}{K:PySem.W.Frag}{mg mb:Str->Option Value}{k:Nat}{fa a c Pt:Addr}{x:Str}{s₁:Shared}{vs:List Value}{ns:List Int}{N:List Str}{oc doc pm ct dV kV:Value}{od:Option Addr}{osl:Array (Option Value)}{name qual:Str}{params:Arguments}{body:List Stmt}{scope:Scope}{an:Option Addr}
  (KX:K.In s₁.heap)(hns:s₁.heap.Ns mainGlobals mg)(hb:s₁.heap.Ns builtinsNs mb)(hbb:∀x:Str,x≠"__name__"->mb x=bootBuiltins x)(hlim:s₁.heap.NoLimit)(hg:s₁.gens=#[])
  (ha:s₁.heap.get? a=some {cls:=.type "list",data:=.seq vs.toArray})(hi:IntsAre vs ns)(hl:ns.length<=sizeLine)(hr:fY (k+1) callerA)
  (hP:s₁.heap.get? Pt=some (PySem.W.tabObj #[]))(hKP:K.lookup Pt=none)(hC:PySem.W.codeHdIn K c Pt=true)(hbl:s₁.heap.BuiltinsAt mg Pt)
  (lk:K.lookup fa=some ⟨oc,od,.func (PySem.W.fnOf name qual params body scope dV kV doc pm an (.ref c) ct),osl⟩)(hcd:PySem.W.codeIn K (.ref c) qual=true)(S:aa N [x] scope)
  (hbind:∀(s:Shared) (u:Value),BindsTo s (PySem.W.fnOf name qual params body scope dV kV doc pm an (.ref c) ct) ⟨[u],[]⟩ [(x,u)])
  (hbody:∀(base:Heap) (s:Shared) (H:Hp),fY k (callerA.deeper (envOfC qual scope s.heap.objs.size fa (.ref c)))->um (cxW P w K mg base N qual scope fa (.ref c) callerA s H Pt) Pt->Only H->SqL K H a (ns.map V.int)->
   ∃t,PSs (cxW P w K mg base N qual scope fa (.ref c) callerA s H Pt) body t/\t {nx:=λ _ _=>False,rt:=λ v _=>v= .bl true} (start N [.ref a]) H):
  codeAny (model P w) callerA (.call (.ref fa) ⟨[.ref a],[]⟩) (λ r s'=>r= .ok (.ret (.bool true))/\OldK s₁.heap s'.heap/\s'.os=s₁.os/\AllBare s'.gens) s₁:=by
 have rv:=yX hi;have lenV:=hi.length;have aP:a≠Pt:=λ z=>by
  rw[z,hP]at ha;have e2:=congrArg Obj.cls (Option.some.inj ha);cases e2
 have core:∀H:Hp,Only H->SqL K H a (ns.map V.int)->HOk P w H s₁.heap->(∀b,H b≠none->b=a)->(H a≠none->K.lookup a=none)->
   codeAny (model P w) callerA (.call (.ref fa) ⟨[.ref a],[]⟩) (λ r s'=>r= .ok (.ret (.bool true))/\OldK s₁.heap s'.heap/\s'.os=s₁.os/\AllBare s'.gens) s₁:=by
  intro H hO hS hok hA hK;have hPn:H Pt=none:=by
   cases q:H Pt with
   |none=>rfl
   |some u=>exact absurd (hA Pt (by rw[q];simp)).symm aP
  let B:=PySem.W.hideAll (aGV s₁.heap H) [Pt];have base_of:∀{b:Addr} {o:Obj},s₁.heap.get? b=some o->H b=none->b≠Pt->B.get? b=some o:=λ e n ne=>PySem.W.hideAll_get _ (aGU e n) (by simpa using ne)
  have noA:∀{b:Addr} {o:Obj} {es:Array DictEntry} {ep:Nat},s₁.heap.get? b=some o->o.data= .dict es ep->H b=none/\b≠Pt:=λ{b o es ep} e d=>by
   refine⟨?_,λ z=>?_⟩
   ·cases q:H b with
    |none=>rfl
    |some u=>
     have e':b=a:=hA b (by rw[q];simp);subst e';rw[ha]at e;cases e;have d':Data.seq vs.toArray _=Data.dict es ep:=d;cases d'
   ·rw[z,hP]at e
    cases e;cases d
  have nsK:∀{b:Addr} {m:Str->Option Value},s₁.heap.Ns b m->B.Ns b m:=λ{b m} ⟨o,es,ep,e,d,r⟩=>⟨o,es,ep,base_of e (noA e d).1 (noA e d).2,d,r⟩
  have hKb:K.In B:=λ b o e=>base_of (KX b o e) (by
   cases q:H b with
   |none=>rfl
   |some u=>
    have e':b=a:=hA b (by rw[q];simp);subst e';rw[hK (by rw[q];simp)]at e;cases e) (λ z=>by rw[z,hKP]at e;cases e)
  have hM:Mod K mg B:=⟨hKb,nsK hns,⟨mb,nsK hb,hbb⟩,let⟨mc,h1,h2⟩:=hlim;⟨mc,nsK h1,h2⟩⟩;have e0:aBv P w K mg B callerA [] s₁ H:=⟨rfl,hM,λ b o e=>aHk (PySem.W.of_hideAll _ e),Nat.le_of_eq ((PySem.W.hideAll_size _ _).trans (aE3 _ _)),trivial,λ b hb=>absurd (show b∈([]:List Addr)from hb) (by simp),hok,.of_eq hg⟩;have gP:mainGlobals≠Pt:=by
   obtain⟨o,es,ep,e,d,_⟩:=hns;exact(noA e d).2
  have hLx:um (cxW P w K mg B N qual scope fa (.ref c) callerA s₁ H Pt) Pt:=by
   refine⟨⟨_,rfl⟩,List.mem_cons_self,rfl,⟨c,rfl,PySem.W.codeHd_of_K hKb hC⟩,?_,gP⟩;obtain⟨bm,o,b1,b2,b3,b4,b5,b6,b7,b8⟩:=hbl;refine⟨bm,o,b1,b2,b3,b4,base_of b5 ?_ b4,b6,b7,b8⟩;cases q:H bm with
   |none=>rfl
   |some u=>
    have e':bm=a:=hA bm (by rw[q];simp);rw[e',ha]at b5;cases b5;cases b8
  have hkind:∀y∈[x].zip [Value.ref a],scope.names.lookup y.1=some .local\/(scope.names.lookup y.1=some .cell/\((cellsFrom (s₁.heap.objs.size+1) scope.names []).lookup y.1).isSome=true):=λ⟨n,v⟩ hy=>by
   rcases S.par n (List.of_mem_zip hy).1 with q|q
   ·exact .inl q
   ·exact .inr ⟨q,PySem.W.cellsFrom_some _ _ _ (.inl q)⟩
  refine codeAny_call_function hr.depth (KX _ _ lk) rfl S.co S.gen rfl (PySem.W.codeRec_of KX hcd) (hbind s₁ (.ref a) _ _ _ _ ?_);refine wpAny_newFunctionEnv_cells S.kind hkind λ env he s1 x'=>?_
  subst he;refine⟨hlim.keeps x'.toInCall.keep,codeAny_func ?_⟩;obtain⟨t,ht,hq⟩:=hbody B s₁ H (hr.deeper _) hLx hO hS;have I:Inv (cxW P w K mg B N qual scope fa (.ref c) callerA s₁ H Pt) [] (start N [.ref a]) H s1:=aCt (ps:=[x]) (us:=[.ref a]) S hr.hd e0 rfl (.cons rfl .nil) hP hPn (PySem.W.hideAll_none _ List.mem_cons_self) x';refine wpAny_mono (ht [] s1 (start N [.ref a]) H _ I hq) (λ fl s' hs=>?_) λ e s' hs=>hs.elim
  cases fl with
  |next=>obtain⟨_,_,_,q⟩:=hs;exact q.elim
  |brk=>obtain⟨_,_,_,q⟩:=hs;exact q.elim
  |cont=>obtain⟨_,_,_,q⟩:=hs;exact q.elim
  |ret u=>
   obtain⟨v,σ',H',J,rv',q⟩:=hs;have q':v= .bl true:=q;subst q';obtain rfl:u=Value.bool true:=rv';obtain⟨_,_,_,_,ps,hps,_⟩:=J.tab (Pt,PySem.W.tabObj #[]) List.mem_cons_self;have all:∀b o,s₁.heap.get? b=some o->b≠Pt->s'.heap.get? b=some o:=λ b o e ne=>by
    cases q:H b with
    |none=>exact J.base.keep b o e q (λ z=>(nomatch z)) (by simpa[cxW]using ne)
    |some u=>
     rcases hO b with z|⟨ob,xs,z⟩
     ·rw[q]at z;cases z
     ·have z2:=J.base.frzs b ob _ z
      obtain⟨e1,_⟩:=hok b _ z;obtain⟨e2,_⟩:=J.hok b _ z2;rw[e]at e1;cases e1;exact e2
   refine⟨rfl,⟨λ b o e=>?_,λ b o e=>?_⟩,J.os,J.bare⟩
   ·by_cases hbP:b=Pt
    ·subst hbP
     rw[hP]at e;cases e;obtain⟨⟨o1,vs1,f1,f2,f3,f4⟩,_⟩:=(PySem.W.codeHd_of_K KX hC).tab hP;exact .inr (.inl ⟨⟨c,o1,vs1,f1,f2,f3,f4⟩,rfl,#[],ps,rfl,by simpa using hps⟩)
    ·exact .inl (all b o e hbP)
   ·by_cases hbP:b=Pt
    ·subst hbP;exact⟨_,hps⟩
    ·exact⟨o,all b o e hbP⟩
 cases hk:K.lookup a with
 |some o=>
  have e:=KX a o hk;rw[ha]at e;cases e;refine core (λ _=>none) (λ _=>.inl rfl) (.inr ⟨_,vs.toArray,_,hk,rfl,rfl,rfl,by rw[List.size_toArray,lenV];exact hl,by simpa using rv⟩) (λ b u z=>by have z':(none:Option HO)=some u:=z;cases z') (λ b z=>absurd rfl z) λ z=>absurd rfl z
 |none=>
  refine core (λ b=>if b=a then some (.frz {cls:=.type "list",data:=.seq vs.toArray} (.lst (ns.map V.int)))else none) (λ b=>?_) (.inl (.inr ⟨{cls:=.type "list",data:=.seq vs.toArray},if_pos rfl⟩)) (λ b u z=>?_) (λ b z=>?_) λ _=>hk
  ·by_cases hb:b=a
   ·exact .inr ⟨_,_,if_pos hb⟩
   ·exact .inl (if_neg hb)
  ·by_cases hb:b=a
   ·have z':=(if_pos hb).symm.trans z
    cases z';subst hb;exact⟨ha,by rw[List.length_map];exact hl,vs,_,rv,ha⟩
   ·have z':=(if_neg hb).symm.trans z
    cases z'
  ·by_cases hb:b=a
   ·exact hb
   ·exact absurd (if_neg hb) z
end L2
namespace VL
open PySem PySem.Spec PyProof.Rows L2
abbrev ctW(P:Program)(w:World)(K:PySem.W.Frag)(mg:Str->Option Value)(base:Heap)(N:List Str)(q:Str)(sc:Scope)(f:Addr)(cdv:Value)(A:Around)(s:Shared)(H:Hp)(Pt:Addr)(k:Nat)(hr:fY k (A.deeper (envOfC q sc s.heap.objs.size f cdv))):Ct where
 ι:=Unit
 X:=λ _=>cxW P w K mg base N q sc f cdv A s H Pt
 prog:=P
 w:=w
 K:=K
 mg:=mg
 base:=base
 k:=k
 G:=⟨H,λ _ _ _=>False,bD mg⟩
 cx:=λ _=>⟨rfl,rfl,rfl,rfl,rfl⟩
 calm:=λ _=>rfl
 room:=λ _=>hr
 own:=λ _=>λ _ _ h=>False.elim h
 pass:=λ _=>λ _ _ _ _ _ _ _ ⟨_,_,_,_,_,_,_,_,_,_,_,_,_,z⟩=>z
 dOk:=false
 dcx:=λ z=>nomatch z
theorem aGD{P:Program}{w:World}{K:PySem.W.Frag}{mg:Str->Option Value}{base:Heap}{N:List Str}{q:Str}{sc:Scope}{fa a Pt:Addr}{cdv:Value}{A:Around}{s:Shared}{H:Hp}{k:Nat}{hr:fY k (A.deeper (envOfC q sc s.heap.objs.size fa cdv))}{body:List Stmt}{f:En->Ou}{ns:List Int}
  (hb:SSs (ctW P w K mg base N q sc fa cdv A s H Pt k hr) body f)(e:eY N.length f [.scr ns]= .ok (.bl true))(r:Rps K (λ _=>True) H [.ref a] [.scr ns]):
  ∃t,PSs (cxW P w K mg base N q sc fa cdv A s H Pt) body t/\t {nx:=λ _ _=>False,rt:=λ v _=>v= .bl true} (start N [.ref a]) H:=by
 obtain⟨t,h1,h2⟩:=hb;refine⟨t,h1 (),h2 [] _ H _ _ _ (RR.start r) ?_⟩;unfold eY at e;cases ef:f (bF N.length [.scr ns])with
 |nx ρ=>rw[ef]at e;cases e
 |rt d=>rw[ef]at e;cases e;exact λ v H' s r=>r.bl_inv
 |ex c=>rw[ef]at e;cases e
 |bk ρ=>rw[ef]at e;cases e
 |ct ρ=>rw[ef]at e;cases e
 |st=>rw[ef]at e;cases e
theorem aCT{P:Program}{w:World}{K:PySem.W.Frag}{mg:Str->Option Value}{base:Heap}{x q n0 n1 n2 few cn pe told:Str}{st:Stmt}{f fc C':Addr}{fd fdc:FuncData}{kc k0:Nat}{wd:Addr->Option Str}{p1 p2 p3 p4 p5 p6 p7 p8 p9 p10 p11 p12 p13 p14 p15 p16:Pos}{j1:Nat}
  (F:L2.Fun K x q st f fd)(S:aa [n0,n1,n2] [n0] (aH st))(hst:eE st=[.Assign [.Name n1 p1] (.Constant (.str told) j1 p2) p3,.Try [.Expr (.Call (.Name n0 p4) [] [] p5) p6] [.ExceptHandler (some (.Name few p7)) (some n2) [.Assign [.Name n1 p8] (.Call (.Name cn p9) [.Name n2 p10] [] p11) p12] p13] [] [] p14,.Return (some (.Name n1 p15)) p16])
  (l0:(aH st).names.lookup n0=some .local)(l1:(aH st).names.lookup n1=some .local)(l2:(aH st).names.lookup n2=some .local)(g1:(aH st).names.lookup few=some .globalImplicit)(g2:(aH st).names.lookup cn=some .globalImplicit)
  (hm:mg few=some (.ref C'))(hC':jU K C')(FC:FnH P w K mg base kc fc fdc [pe] (spW wd))(hmc:mg cn=some (.ref fc))(hkc:PySem.W.keepIn K (.ref fc)=true)(hbc:Binds K fdc [pe] [])(hkk:kc<=k0)(hw:∀C w,wd C=some w->jU K C/\uC K C C'=true)
  (d1:(few==("__debug__":Str))=false:=by decide)(d2:(cn==("__debug__":Str))=false:=by decide)(d3:(n0==("__debug__":Str))=false:=by decide)(d4:(n1==("__debug__":Str))=false:=by decide)(d5:(n2==("__debug__":Str))=false:=by decide)
  (d6:(n0==("__classdict__":Str))=false:=by decide)(d7:(n1==("__classdict__":Str))=false:=by decide)(d8:(n2==("__classdict__":Str))=false:=by decide):
  cg P w K mg base (CX1 P w) (k0+1) f fd [n0] (spR P w K mg base k0 told wd):=by
 refine F.okX S (λ vs H Q E ⟨_,_,_,_,_,_,_,e,_⟩=>by rw[e];rfl) λ cdv A outer s H vs Q E hr hsp=>?_
 rw[hst];exact aFU (X:=ux (CX1 P w) P w K mg base [n0,n1,n2] q (aH st) f cdv A outer s H E) eQ.of rfl rfl S.nd l0 l1 l2 (λ _=>rfl) hm g1 hC' FC g2 hmc hkc hbc hr hkk hw hsp d1 d2 d3 d4 d5 d6 d7 d8
end VL
namespace L2
open PySem PySem.Spec PyProof.Rows
theorem iM{X:Cx}{n0:Str}{e:Expr}{c:V}{p p' pos:Pos}(hN:X.N[0]? =some n0)(hv:X.env.scope.names.lookup n0=some .local)(hg:Gl X "isinstance")(hm:X.mg "isinstance"=none)(hc:PE X e (tC c))(hse:starEach [e] X.env=(false,eval e X.env)::starEach [] X.env:=by rfl)
  (hpl:(backTo pos (starEach [e] X.env)).any (·.1)=false:=by rfl)(d:(n0==("__debug__":Str))=false:=by decide)(d':(n0==("__classdict__":Str))=false:=by decide):PE X (.Call (.Name "isinstance" p) [.Name n0 p',e] [] pos) (aCD X.K c):=
 rJ aEd hg hm rfl (az (iK hN (.inl hv) d d') (az hc dU hse)) (hpl:=hpl)
section
variable{P:Program}{w:World}{K:PySem.W.Frag}{mg:Str->Option Value}{base:Heap}{x q n0 n1 n2 odd:Str}{st:Stmt}{f:Addr}{fd:FuncData}{k:Nat}{wd:Addr->Option Str}{c1 c2:V}{k1 k2 k3 k4:List V}{l1 l2:List Str}{a1 a2:Expr}{as1 as2 e1 e2 e3 e4 w1 w2:List Expr}{kw1 kw2:List Keyword}
 {p1 p2 p3 p4 p5 p6 p7 p8 p9 p10 p11 p12 p13 p14 p15 p16 p17 p18 p19 p20 p21 p22 p23 p24 p25 p26 p27 p28 p29 p30 p31 p32 p33 p34 p35 p36 p37 p38 p39 p40:Pos}{q1 q2 q3 q4 q5 q6 q7:Pos}{j1 j2 j3 j4 j5:Nat}
theorem aGf(F:Fun K x q st f fd)(S:aa [n0,n1,n2] [n0] (aH st))
  (hst:eE st=[.If (.BoolOp .Or [.UnaryOp .Not (.Call a1 as1 kw1 p1) p3,.UnaryOp .Not (.Call a2 as2 kw2 p2) p4] p5) [.Return (some (.Constant (.str odd) j1 p6)) p7] [] p8,
   .Assign [.Name n1 p9] (.List e1 p10) p11,.Assign [.Name n1 p12] (.BinOp (.Name n1 p13) .Add (.List e2 p14) p15) p16,.Assign [.Name n1 p17] (.BinOp (.Name n1 p18) .Add (.List e3 p19) p22) p23,.Assign [.Name n1 p24] (.BinOp (.Name n1 p25) .Add (.List e4 p26) p27) p28,
   .If (.Compare (.Call (.Attribute (.Name n1 p29) "count" p20) [.Constant (.bool true) j2 p32] [] p21) [.NotEq] [.Constant (.int 1) j3 p33] p34) [.Return (some (.Constant (.str odd) j4 p35)) p36] [] p37,
   .Assign [.Name n2 p38] (.List w1 p39) p40,.Return (some (.Subscript (.BinOp (.Name n2 q1) .Add (.List w2 q2) q3) (.Call (.Attribute (.Name n1 q4) "index" p30) [.Constant (.bool true) j5 q5] [] p31) q6)) q7])
  (m0:(aH st).names.lookup n0=some .local)(m1:(aH st).names.lookup n1=some .local)(m2:(aH st).names.lookup n2=some .local)
  (h:∀(cdv:Value) (A:Around) (outer:List Env) (s:Shared) (H:Hp),PE (cxH P w K mg base [n0,n1,n2] q (aH st) f cdv A outer s H) (.Call a1 as1 kw1 p1) (aCD K c1)/\PE (cxH P w K mg base [n0,n1,n2] q (aH st) f cdv A outer s H) (.Call a2 as2 kw2 p2) (aCD K c2)/\
   PA (cxH P w K mg base [n0,n1,n2] q (aH st) f cdv A outer s H) e1 (nW K k1)/\PA (cxH P w K mg base [n0,n1,n2] q (aH st) f cdv A outer s H) e2 (nW K k2)/\PA (cxH P w K mg base [n0,n1,n2] q (aH st) f cdv A outer s H) e3 (nW K k3)/\
   PA (cxH P w K mg base [n0,n1,n2] q (aH st) f cdv A outer s H) e4 (nW K k4)/\PA (cxH P w K mg base [n0,n1,n2] q (aH st) f cdv A outer s H) w1 (yc l1)/\PA (cxH P w K mg base [n0,n1,n2] q (aH st) f cdv A outer s H) w2 (yc l2))
  (hl1:(p20.endLine==p21.line)=true)(hl2:(p30.endLine==p31.line)=true)(hz:(l1++l2).length<=100)(hw:∀C w,wd C=some w->Wd K c1 c2 [k1,k2,k3,k4] (l1++l2) C w)
  (d0:(n0==("__debug__":Str))=false:=by decide)(d1:(n1==("__debug__":Str))=false:=by decide)(d2:(n2==("__debug__":Str))=false:=by decide)
  (f0:(n0==("__classdict__":Str))=false:=by decide)(f1:(n1==("__classdict__":Str))=false:=by decide)(f2:(n2==("__classdict__":Str))=false:=by decide):
  FnH P w K mg base 1 f fd [n0] (spW wd):=by
 refine F.okH (k:=0) S (λ vs H Q E ⟨_,_,_,e,_⟩=>by rw[e];rfl) λ cdv A outer s H vs Q E hr hsp=>?_
 obtain⟨g1,g2,g3,g4,g5,g6,g7,g8⟩:=h cdv A outer s H;rw[hst];exact aDA (X:=cxH P w K mg base [n0,n1,n2] q (aH st) f cdv A outer s H) rfl S.nd m0 m1 m2 (by have:=hr.un;show(A.deeper _).units+64<cLine;omega) g1 g2 g3 g4 g5 g6 g7 g8 hl1 hl2 hz hsp hw d0 d1 d2 f0 f1 f2
end
structure aDq(P:Program)(w:World)(K:PySem.W.Frag)(mg:Str->Option Value)(fa Pt:Addr)(k n:Nat):Prop where
 ex:∃(x name qual:Str) (params:Arguments) (body:List Stmt) (scope:Scope) (dV kV doc pm ct oc:Value) (an od:Option Addr) (c:Addr) (osl:Array (Option Value)) (N:List Str),
  K.lookup Pt=none/\PySem.W.codeHdIn K c Pt=true/\K.lookup fa=some ⟨oc,od,.func (PySem.W.fnOf name qual params body scope dV kV doc pm an (.ref c) ct),osl⟩/\PySem.W.codeIn K (.ref c) qual=true/\aa N [x] scope/\
  (∀(s:Shared) (u:Value),BindsTo s (PySem.W.fnOf name qual params body scope dV kV doc pm an (.ref c) ct) ⟨[u],[]⟩ [(x,u)])/\
  ∀(a:Addr) (ns:List Int),ns.length<=n->∀(base:Heap) (s:Shared) (H:Hp),fY k (callerA.deeper (envOfC qual scope s.heap.objs.size fa (.ref c)))->um (cxW P w K mg base N qual scope fa (.ref c) callerA s H Pt) Pt->Only H->SqL K H a (ns.map V.int)->
   ∃t,PSs (cxW P w K mg base N qual scope fa (.ref c) callerA s H Pt) body t/\t {nx:=λ _ _=>False,rt:=λ v _=>v= .bl true} (start N [.ref a]) H
theorem aEo{l:PySem.W.OpenLaw}{n k:Nat}{q:Program}{loose:List Str}{XP:(Str->Option Value)->Heap->Prop}{YP:World->Heap->Prop}{d:DefRec}{K:Params->PySem.W.Frag}{Pt:Addr}
  (hn:l.most=some n)(hn2:n<=sizeLine)(hdf:d.params.defaults=[])(hr:fY (k+1) callerA)
  (hY:∀(w:World) (h:Heap),YP w h->(K w.params).In h/\h.get? Pt=some (PySem.W.tabObj #[]))
  (F:∀(w:World) (mg:Str->Option Value) (fa:Addr) (h:Heap),(K w.params).In h->h.Ns mainGlobals mg->mg d.name=some (.ref fa)->aDq l.prog w (K w.params) mg fa Pt k n):
  PySem.W.WalkO q loose XP YP l.row.toRowW d [] (λ f vs=>PySem.call f vs):=by
 refine Att.aBn hn hdf λ w s₀ s₁ mg mb fa o pm cd doc a vs ns G Y ho hd hcd hmg hobj hints hlen hg=>?_
 obtain⟨KX,hP⟩:=hY w _ Y;obtain⟨x,name,qual,params,body,scope,dV,kV,doc,pm,ct,oc,an,od,c,osl,N,h1,h2,h3,h4,h5,h6,h7⟩:=(F w mg fa _ KX G.T.g hmg).ex;have hbl:s₁.heap.BuiltinsAt mg Pt:=by
  obtain⟨bm,ob,b1,b2,b3,b4,b5,b6⟩:=G.T.bmain;refine⟨bm,ob,b1,b2,λ z=>?_,λ z=>?_,b3,b4,b5,b6⟩
  ·obtain⟨o,es,ep,e,hd,_⟩:=G.T.g
   rw[z,e]at b3;cases b3;rw[hd]at b6;cases b6
  ·rw[z,hP]at b3;cases b3;cases b4
 exact aET KX G.T.g G.T.b G.T.builtins G.T.nolimit hg hobj hints (Nat.le_trans hlen hn2) hr hP h1 h2 hbl h3 h4 h5 h6 λ base s H r1 r2 r3 r4=>h7 a ns hlen base s H r1 r2 r3 r4
def clB(K:PySem.W.Frag)(few C:Addr):Bool:=PySem.W.excIn K C [.type "ValueError",.type "Exception",.type "BaseException",.type "object"] "ValueError.__new__"&&decide (PySem.W.findIn K (.ref C) "__class__"=some (some (.builtin "object.__class__")))&&decide (PySem.W.findIn K (.ref C) "__getattribute__"=some (some (.builtin "BaseException.__getattribute__")))&&decide (PySem.W.findIn K (.ref C) "__getattr__"=some none)&&decide (PySem.W.kitOne K (.ref C) (.ref few)=some true)&&decide (PySem.W.kitOne K (.ref C) (.type "ValueError")=some true)&&uC K C few
def aCz(K:PySem.W.Frag)(few:Addr)(cs:List Addr):Bool:=(List.range cs.length).all λ j=>match cs[j]? with
 |none=>true
 |some C=>clB K few C&&(List.range cs.length).all λ i=>match cs[i]? with
  |none=>true
  |some c=>decide (PySem.W.kitOne K (.ref C) (.ref c)=some (i==j))
theorem lookup_at{C:Addr}{w:Str}:∀{cs:List Addr} {ws:List Str},(cs.zip ws).lookup C=some w->∃j:Nat,cs[j]? =some C/\ws[j]? =some w
 |[],_,h=>by cases h
 |_::_,[],h=>by cases h
 |c::cs,x::ws,h=>by
  rw[List.zip_cons_cons,List.lookup_cons]at h;by_cases e:C==c
  ·simp only[e]at h
   cases h;exact⟨0,by rw[eq_of_beq e];rfl,rfl⟩
  ·simp only[e]at h
   obtain⟨j,h1,h2⟩:=lookup_at h;exact⟨j+1,h1,h2⟩
theorem aIg{K:PySem.W.Frag}{few c0 c1 c2 c3 c4 c5 c6 c7 c8 c9 c10 c11:Addr}{ws:List Str}(h:aCz K few [c0,c1,c2,c3,c4,c5,c6,c7,c8,c9,c10,c11]=true){C:Addr}{w:Str}(hw:([c0,c1,c2,c3,c4,c5,c6,c7,c8,c9,c10,c11].zip ws).lookup C=some w):
  Wd K (.ref few) (.ty "ValueError") [[.ref c0,.ref c1,.ref c2],[.ref c3,.ref c4,.ref c5],[.ref c6,.ref c7,.ref c8],[.ref c9,.ref c10,.ref c11]] ws C w/\jU K C/\uC K C few=true:=by
 obtain⟨j,h1,h2⟩:=lookup_at hw;have hj:j<12:=(List.getElem?_eq_some_iff.mp h1).1;have h3:=List.all_eq_true.mp h j (List.mem_range.mpr hj);simp only[h1,Bool.and_eq_true]at h3;obtain⟨h4,h5⟩:=h3;have F:∀(i:Nat) c,[c0,c1,c2,c3,c4,c5,c6,c7,c8,c9,c10,c11][i]? =some c->Kt K C (.ref c) (i==j):=λ i c e=>by
  have h6:=List.all_eq_true.mp h5 i (List.mem_range.mpr (List.getElem?_eq_some_iff.mp e).1);simp only[e]at h6;exact⟨_,rfl,of_decide_eq_true h6⟩
 unfold clB at h4;simp only[Bool.and_eq_true,decide_eq_true_eq]at h4;obtain⟨⟨⟨⟨⟨⟨q1,q2⟩,q3⟩,q4⟩,q5⟩,q6⟩,q7⟩:=h4;refine⟨⟨⟨q1,q2,q3,q4⟩,⟨_,rfl,q5⟩,⟨_,rfl,q6⟩,[0==j,1==j,2==j],[3==j,4==j,5==j],[6==j,7==j,8==j],[9==j,10==j,11==j],j,_,_,_,_,rfl,.cons (F 0 c0 rfl) (.cons (F 1 c1 rfl) (.cons (F 2 c2 rfl) .nil)),.cons (F 3 c3 rfl) (.cons (F 4 c4 rfl) (.cons (F 5 c5 rfl) .nil)),
  .cons (F 6 c6 rfl) (.cons (F 7 c7 rfl) (.cons (F 8 c8 rfl) .nil)),.cons (F 9 c9 rfl) (.cons (F 10 c10 rfl) (.cons (F 11 c11 rfl) .nil)),by simp,?_,?_,?_,h2⟩,q1,q7⟩
 ·exact(by decide:∀j,j<12->([0==j,1==j,2==j]++[3==j,4==j,5==j]++[6==j,7==j,8==j]++[9==j,10==j,11==j]).count true=1) j hj
 ·exact(by decide:∀j,j<12->([0==j,1==j,2==j]++[3==j,4==j,5==j]++[6==j,7==j,8==j]++[9==j,10==j,11==j])[j]? =some true) j hj
 ·exact λ m hm=>(by decide:∀j,j<12->∀m,m<j->([0==j,1==j,2==j]++[3==j,4==j,5==j]++[6==j,7==j,8==j]++[9==j,10==j,11==j])[m]? =some false) j hj m hm
theorem wY{scope sc:Scope}(h:∀y∈scope.names,y.2= .free->sc.names.lookup y.1=some .cell\/sc.names.lookup y.1=some .free):∀y∈scope.names,y.2= .free->sc.names.lookup y.1=some .cell\/sc.names.lookup y.1=some .free:=h
theorem aBk{K:PySem.W.Frag}{few:Addr}{cs:List Addr}(h:aCz K few cs=true){i j:Nat}{C c:Addr}(hj:cs[j]? =some C)(hi:cs[i]? =some c):PySem.W.kitOne K (.ref C) (.ref c)=some (i==j):=by
 have h3:=List.all_eq_true.mp h j (List.mem_range.mpr (List.getElem?_eq_some_iff.mp hj).1);simp only[hj,Bool.and_eq_true]at h3;have h6:=List.all_eq_true.mp h3.2 i (List.mem_range.mpr (List.getElem?_eq_some_iff.mp hi).1);simp only[hi]at h6;exact of_decide_eq_true h6
theorem aI0{K:PySem.W.Frag}{few:Addr}{cs:List Addr}(h:aCz K few cs=true){i j:Nat}{C:Addr}(hj:cs[j]? =some C)(hi:cs[i]? =some C):i=j:=by
 have a:=aBk h hj hi;have b:=aBk h hj hj;rw[a]at b;have e:=Option.some.inj b;rw[beq_self_eq_true]at e;exact eq_of_beq e
theorem wN{C:Addr}{w:Str}:∀{cs:List Addr} {ws:List Str} {j:Nat},(∀i:Nat,cs[i]? =some C->i=j)->cs[j]? =some C->ws[j]? =some w->(cs.zip ws).lookup C=some w
 |[],_,_,_,h,_=>by simp at h
 |_::_,[],_,_,_,h=>by simp at h
 |c::cs,x::ws,j,u,h1,h2=>by
  rw[List.zip_cons_cons,List.lookup_cons];by_cases e:C==c
  ·have e0:0=j:=u 0 (by rw[eq_of_beq e];rfl)
   subst e0;simp only[e];simpa using h2
  ·simp only[e]
   cases j with
   |zero=>
    have e1:c=C:=by simpa using h1
    rw[e1]at e;simp at e
   |succ j=>exact wN (j:=j) (λ i hi=>Nat.succ.inj (u (i+1) hi)) h1 h2
theorem aKt{K:PySem.W.Frag}{few:Addr}{cs:List Addr}{ws:List Str}(h:aCz K few cs=true){j:Nat}{C:Addr}{w:Str}(h1:cs[j]? =some C)(h2:ws[j]? =some w):(cs.zip ws).lookup C=some w:=wN (λ i hi=>aI0 h h1 hi) h1 h2
end L2
namespace VL
open PySem PySem.Spec PyProof.Rows L2
theorem aKs{K:PySem.W.Frag}{mg:Str->Option Value}{few c0 c1 c2 c3 c4 c5 c6 c7 c8 c9 c10 c11:Addr}{ws:List Str}{ns:List Str}(h:aCz K few [c0,c1,c2,c3,c4,c5,c6,c7,c8,c9,c10,c11]=true)
  (hl:ns.map (VL.bD mg)=[c0,c1,c2,c3,c4,c5,c6,c7,c8,c9,c10,c11]):∀c w,(ns.zip ws).lookup c=some w->([c0,c1,c2,c3,c4,c5,c6,c7,c8,c9,c10,c11].zip ws).lookup (VL.bD mg c)=some w:=λ c w e=>by
 have go:∀(ns:List Str) (ws:List Str),(ns.zip ws).lookup c=some w->∃j:Nat,ns[j]? =some c/\ws[j]? =some w:=by
  intro ns;induction ns with
  |nil=>intro ws h;cases h
  |cons x ns ih=>
   intro ws h;cases ws with
   |nil=>cases h
   |cons y ws=>
    rw[List.zip_cons_cons,List.lookup_cons]at h;by_cases e:c==x
    ·simp only[e]at h
     cases h;exact⟨0,by rw[eq_of_beq e];rfl,rfl⟩
    ·simp only[e]at h
     obtain⟨j,h1,h2⟩:=ih ws h;exact⟨j+1,h1,h2⟩
 obtain⟨j,h1,h2⟩:=go ns ws e;refine aKt h (j:=j) ?_ h2;rw[<-hl,List.getElem?_map,h1];rfl
section
variable{O:PyProof.Rows.KeyOrd}{kz:Nat->O.α}{n:Nat}
def Wr{α:Type}(kz:Nat->O.α)(n:Nat):PySem.W.KasT α->(α->Prop)->Prop
 | .ret a,Q=>Q a
 | .ask i j k,Q=>i<n/\j<n/\Wr kz n (k (O.blt (kz i) (kz j))) Q
theorem Wr.bindI:∀{t:PySem.W.KasT α},Wr kz n t (λ a=>Wr kz n (g a) Q)->Wr kz n (t.bind g) Q
 | .ret _,h=>h
 | .ask _ _ _,⟨h1,h2,h3⟩=>⟨h1,h2,Wr.bindI h3⟩
abbrev Pm(n:Nat)(p:Array Nat):Prop:=p.Perm (List.range n).toArray
theorem Pm.sz(h:Pm n p):p.size=n:=by
 have:=h.size_eq
 simpa using this
theorem Pm.in(h:Pm n p)(hi:i<n):p.getD i 0<n:=by
 have hs:i<p.size:=by rw[h.sz];exact hi
 have e:p.getD i 0=p[i]:=by simp[Array.getD,hs]
 rw[e];have hm:p[i]∈(List.range n).toArray:=h.mem_iff.mp (Array.getElem_mem hs);simpa using hm
def Kp(kz:Nat->O.α)(p:Array Nat)(i:Nat):O.α:=kz (p.getD i 0)
theorem aB4(h:p[i]? =q[j]?):Kp kz p i=Kp kz q j:=by
 unfold Kp;congr 1;rw[Array.getD_eq_getD_getElem?,Array.getD_eq_getD_getElem?,h]
theorem aGI(hs:c<p.size)(hd:d<=c)(k:Nat):
  Kp kz (bubble p c d) k=if k=c-d then Kp kz p c else if c-d<k/\k<=c then Kp kz p (k-1)else Kp kz p k:=by
 have e:=getElem?_bubble hs d hd k;by_cases u1:k=c-d
 ·rw[if_pos u1]at e ⊢
  exact aB4 e
 ·rw[if_neg u1]at e ⊢
  by_cases u2:c-d<k/\k<=c
  ·rw[if_pos u2]at e ⊢
   exact aB4 e
  ·rw[if_neg u2]at e ⊢
   exact aB4 e
theorem aCm(hj:j<=p.size)(k:Nat):Kp kz (PySem.W.kas_rev p i j) k=if i<=k/\k<j then Kp kz p (i+j-1-k)else Kp kz p k:=by
 unfold PySem.W.kas_rev;have e:=getElem?_mirror_all (i:=i) hj k;by_cases u1:i<=k/\k<j
 ·rw[if_pos u1]at e ⊢
  exact aB4 e
 ·rw[if_neg u1]at e ⊢
  exact aB4 e
theorem pI(hj:j<=p.size)(he:∀k,i<=k->k<j->Kp kz p k=Kp kz p (j-1))(k:Nat):Kp kz (PySem.W.kas_rev p i j) k=Kp kz p k:=by
 rw[aCm hj];split
 ·rw[he _ (by lia) (by lia),he k (by lia) (by lia)]
 ·rfl
def Up(kz:Nat->O.α)(p:Array Nat)(k:Nat):Prop:=∀i j,i<=j->j<k->O.kle (Kp kz p i) (Kp kz p j)
def Dn(kz:Nat->O.α)(p:Array Nat)(k:Nat):Prop:=∀i j,i<=j->j<k->O.kle (Kp kz p j) (Kp kz p i)
theorem vz(h:Pm n p)(i j:Nat):Pm n (PySem.W.kas_rev p i j):=(mirror_perm _ _ _ _).trans h
theorem Up.succ(h:Up kz p m)(hm:1<=m)(hl:O.kle (Kp kz p (m-1)) (Kp kz p m)):Up kz p (m+1):=by
 intro i j hij hj;by_cases q:j<m
 ·exact h i j hij q
 ·have q':j=m:=by lia
  subst q';by_cases q2:i=j
  ·rw[q2];exact KeyOrd.kle_refl _
  ·exact KeyOrd.kle_trans (h i (j-1) (by lia) (by lia)) hl
theorem Dn.succ(h:Dn kz p m)(hm:1<=m)(hl:O.kle (Kp kz p m) (Kp kz p (m-1))):Dn kz p (m+1):=by
 intro i j hij hj;by_cases q:j<m
 ·exact h i j hij q
 ·have q':j=m:=by lia
  subst q';by_cases q2:i=j
  ·rw[q2];exact KeyOrd.kle_refl _
  ·exact KeyOrd.kle_trans hl (h i (j-1) (by lia) (by lia))
theorem aBw(hp:Pm n p)(hr:r<=n):∀(f m:Nat),1<=m->m+f=r->Up kz p m->
  (∀m',1<=m'->m'<=r->Up kz p m'->(m'=r\/O.klt (Kp kz p m') (Kp kz p (m'-1)))->Q m')->Wr kz n (PySem.W.kas_asc p f m) Q
 |0,m,h1,hm,hu,k=>k m h1 (by lia) hu (.inl (by lia))
 |f+1,m,h1,hm,hu,k=>by
  refine⟨hp.in (by lia),hp.in (by lia),?_⟩;have hd:O.blt (kz (p.getD m 0)) (kz (p.getD (m-1) 0))=O.blt (Kp kz p m) (Kp kz p (m-1)):=rfl;rw[hd];cases hb:O.blt (Kp kz p m) (Kp kz p (m-1))with
  |true=>exact k m h1 (by lia) hu (.inr hb)
  |false=>exact aBw hp hr f (m+1) (by lia) (by lia) (hu.succ h1 hb) k
theorem vC(hr:r<=n):∀(f:Nat) (p:Array Nat) (m e:Nat),Pm n p->1<=m->m+f=r->Dn kz p m->e+1<=m->(∀i,m-(e+1)<=i->i<m->Kp kz p i=Kp kz p (m-1))->
  (∀p' m' e',Pm n p'->1<=m'->m'<=r->Dn kz p' m'->e'+1<=m'->(∀i,m'-(e'+1)<=i->i<m'->Kp kz p' i=Kp kz p' (m'-1))->Q (p',m',e'))->Wr kz n (PySem.W.kas_desc f p m e) Q
 |0,p,m,e,hp,h1,hm,hd,he,hq,k=>k p m e hp h1 (by lia) hd he hq
 |f+1,p,m,e,hp,h1,hm,hd,he,hq,k=>by
  have hsz:m<=p.size:=by rw[hp.sz];lia
  refine⟨hp.in (by lia),hp.in (by lia),?_⟩;have hx:O.blt (kz (p.getD m 0)) (kz (p.getD (m-1) 0))=O.blt (Kp kz p m) (Kp kz p (m-1)):=rfl;rw[hx];cases hb:O.blt (Kp kz p m) (Kp kz p (m-1))with
  |true=>
   have hd':Dn kz p (m+1):=hd.succ h1 (KeyOrd.kle_of_klt hb);dsimp only;rw[if_pos rfl];by_cases hz:e>0
   ·rw[if_pos hz]
    refine vC hr f _ (m+1) 0 (vz hp _ _) (by lia) (by lia) (λ i j hij hj=>?_) (by lia) (λ i u v=>by congr 1;lia) k;rw[pI hsz hq,pI hsz hq];exact hd' i j hij hj
   ·rw[if_neg hz]
    exact vC hr f p (m+1) 0 hp (by lia) (by lia) hd' (by lia) (λ i u v=>by congr 1;lia) k
  |false=>
   dsimp only;rw[if_neg (by simp)];refine⟨hp.in (by lia),hp.in (by lia),?_⟩;have hy:O.blt (kz (p.getD (m-1) 0)) (kz (p.getD m 0))=O.blt (Kp kz p (m-1)) (Kp kz p m):=rfl;rw[hy];cases hc:O.blt (Kp kz p (m-1)) (Kp kz p m)with
   |true=>exact k p m e hp h1 (by lia) hd he hq
   |false=>
    dsimp only;rw[if_neg (by simp)];have hee:Kp kz p m=Kp kz p (m-1):=KeyOrd.kle_antisymm hc hb;refine vC hr f p (m+1) (e+1) hp (by lia) (by lia) (hd.succ h1 hc) (by lia) (λ i u v=>?_) k;rw[show m+1-1=m by lia];by_cases hi:i=m
    ·rw[hi]
    ·rw[hee]
     exact hq i (by lia) (by lia)
theorem aDH(hr:r<=n)(hp:Pm n p)(h1:1<=m)(hm:m<=r)(hd:Dn kz p m)(k:∀m' p',Pm n p'->1<=m'->m'<=r->Up kz p' m'->Q (m',p')):Wr kz n (PySem.W.kas_tail3 m r p) Q:=by
 have hsz:m<=p.size:=by rw[hp.sz];lia
 refine Wr.bindI (aBw (vz hp 0 m) hr (r-m) m h1 (by lia) (λ i j hij hj=>?_) λ m' a1 a2 a3 _=>k m' _ (vz hp 0 m) a1 a2 a3);rw[aCm hsz,aCm hsz,if_pos (by lia),if_pos (by lia)];exact hd _ _ (by lia) (by lia)
theorem uI(hr:r<=n)(hp:Pm n p)(hm:m+1<=r)(hd:Dn kz p (m+1))(k:∀m' p',Pm n p'->1<=m'->m'<=r->Up kz p' m'->Q (m',p')):Wr kz n (PySem.W.kas_descPart m r p) Q:=by
 refine Wr.bindI (vC hr (r-(m+1)) p (m+1) 0 hp (by lia) (by lia) hd (by lia) (λ i u v=>by congr 1;lia) λ p' m' e' a1 a2 a3 a4 a5 a6=>?_);have hsz:m'<=p'.size:=by rw[a1.sz];lia
 dsimp only;by_cases hz:e'>0
 ·rw[if_pos hz]
  refine aDH hr (vz a1 _ _) a2 a3 (λ i j hij hj=>?_) k;rw[pI hsz a6,pI hsz a6];exact a4 i j hij hj
 ·rw[if_neg hz]
  exact aDH hr a1 a2 a3 a4 k
theorem aEj(hr:r<=n)(hp:Pm n p)(h1:1<=r)(k:∀m' p',Pm n p'->1<=m'->m'<=r->Up kz p' m'->Q (m',p')):Wr kz n (PySem.W.kas_count r p) Q:=by
 refine Wr.bindI (aBw hp hr (r-1) 1 (Nat.le_refl 1) (by lia) (λ i j hij hj=>by rw[show i=j by lia];exact KeyOrd.kle_refl _) λ m a1 a2 a3 a4=>?_);by_cases hm:m=r
 ·rw[if_pos (by simpa using hm)]
  exact k m p hp a1 a2 a3
 ·rw[if_neg (by simpa using hm)]
  have hl:O.klt (Kp kz p m) (Kp kz p (m-1)):=a4.resolve_left hm;by_cases hg:m>1
  ·rw[if_pos hg]
   refine⟨hp.in (by lia),hp.in (by lia),?_⟩;have hx:O.blt (kz (p.getD 0 0)) (kz (p.getD (m-1) 0))=O.blt (Kp kz p 0) (Kp kz p (m-1)):=rfl;rw[hx];cases hb:O.blt (Kp kz p 0) (Kp kz p (m-1))with
   |true=>exact k m p hp a1 a2 a3
   |false=>
    dsimp only;rw[if_neg (by simp)];have hsz:m<=p.size:=by rw[hp.sz];lia
    have hall:∀i,0<=i->i<m->Kp kz p i=Kp kz p (m-1):=λ i _ hi=>KeyOrd.kle_antisymm (a3 i (m-1) (by lia) (by lia)) (KeyOrd.kle_trans hb (a3 0 i (by lia) hi))
    refine uI hr (vz hp 0 m) (by lia) (λ i j hij hj=>?_) k;rw[pI hsz hall,pI hsz hall];by_cases hjm:j<m
    ·rw[hall i (by lia) (by lia),hall j (by lia) hjm];exact KeyOrd.kle_refl _
    ·have hj':j=m:=by lia
     subst hj';by_cases hi:i=j
     ·rw[hi];exact KeyOrd.kle_refl _
     ·rw[hall i (by lia) (by lia)];exact KeyOrd.kle_of_klt hl
  ·rw[if_neg hg]
   have hm1:m=1:=by lia
   subst hm1;refine uI hr hp (by lia) (λ i j hij hj=>?_) k;by_cases hi:i=j
   ·rw[hi];exact KeyOrd.kle_refl _
   ·have e1:i=0:=by lia
    have e2:j=1:=by lia
    subst e1 e2;exact KeyOrd.kle_of_klt hl
theorem vR(hp:Pm n p)(hc:c<n)(hu:Up kz p c):∀(f l r:Nat),l<=r->r<=c->r-l<=f->(∀i,i<l->O.kle (Kp kz p i) (Kp kz p c))->(∀i,r<=i->i<c->O.klt (Kp kz p c) (Kp kz p i))->
  (∀l',l'<=c->(∀i,i<l'->O.kle (Kp kz p i) (Kp kz p c))->(∀i,l'<=i->i<c->O.klt (Kp kz p c) (Kp kz p i))->Q l')->Wr kz n (PySem.W.kas_place p c f l r) Q
 |0,l,r,a1,a2,a3,a4,a5,k=>by
  have e:l=r:=by lia
  subst e;exact k l a2 a4 a5
 |f+1,l,r,a1,a2,a3,a4,a5,k=>by
  unfold PySem.W.kas_place;by_cases hg:l ≥ r
  ·rw[if_pos hg]
   have e:l=r:=by lia
   subst e;exact k l a2 a4 a5
  ·rw[if_neg hg]
   refine⟨hp.in hc,hp.in (by lia),?_⟩;have hx:O.blt (kz (p.getD c 0)) (kz (p.getD ((l+r) / 2) 0))=O.blt (Kp kz p c) (Kp kz p ((l+r) / 2)):=rfl;rw[hx];cases hb:O.blt (Kp kz p c) (Kp kz p ((l+r) / 2))with
   |true=>exact vR hp hc hu f l ((l+r) / 2) (by lia) (by lia) (by lia) a4 (λ i u v=>KeyOrd.klt_of_klt_of_kle hb (hu _ _ u v)) k
   |false=>exact vR hp hc hu f ((l+r) / 2+1) r (by lia) a2 (by lia) (λ i u=>KeyOrd.kle_trans (hu i ((l+r) / 2) (by lia) (by lia)) hb) a5 k
theorem aEk:∀(f:Nat) (p:Array Nat) (c:Nat),Pm n p->c+f=n->Up kz p c->(∀p',Pm n p'->Up kz p' n->Q p')->Wr kz n (PySem.W.kas_bin f p c) Q
 |0,p,c,hp,hc,hu,k=>k p hp (by rw[show n=c by lia];exact hu)
 |f+1,p,c,hp,hc,hu,k=>by
  refine Wr.bindI (vR hp (by lia) hu c 0 c (by lia) (Nat.le_refl c) (by lia) (λ i u=>by lia) (λ i u v=>by lia) λ l a1 a2 a3=>?_);refine aEk f _ (c+1) ((bubble_perm _ _ _).trans hp) (by lia) (λ i j hij hj=>?_) k;have hs:c<p.size:=by rw[hp.sz];lia
  rw[aGI hs (by lia),aGI hs (by lia),show c-(c-l)=l by lia]
  repeat' split
  all_goals first
   |(exfalso;lia)
   |exact O.irrefl _
   |exact a2 _ (by lia)
   |exact KeyOrd.klt_asymm (a3 _ (by lia) (by lia))
   |exact hu _ _ (by lia) (by lia)
theorem aHA(h1:1<=n)(k:∀p,Pm n p->Up kz p n->Q p):Wr kz n (PySem.W.kas_sort n) Q:=by
 refine Wr.bindI (aEj (Nat.le_refl n) (Array.Perm.refl _) h1 λ m p a1 a2 a3 a4=>?_);dsimp only;by_cases hm:m<n
 ·rw[if_pos hm]
  exact aEk _ p _ a1 (by lia) (by rw[show max m 1=m by lia];exact a4) k
 ·rw[if_neg hm]
  exact k p a1 (by rw[show n=m by lia];exact a4)
theorem aAt{I:Shared->Prop}(hc:∀i j (C:Bool->Shared->Prop) s,I s->i<n->j<n->(∀s',I s'->C (O.blt (kz i) (kz j)) s')->cmp i j C s):
  ∀(t:PySem.W.KasT α) (s:Shared),I s->Wr kz n t (λ a=>∀s',I s'->Q a s')->t.kasWp cmp Q s
 | .ret a,s,hI,h=>h s hI
 | .ask i j k,s,hI,⟨h1,h2,h3⟩=>hc i j _ s hI h1 h2 λ s' hI'=>aAt hc _ s' hI' h3
end
theorem aAX:∀a:List Int,HT.lexLt a a=false
 |[]=>rfl
 |x::a=>by rw[HT.kE,if_pos rfl];exact aAX a
theorem rO:∀a b c:List Int,HT.lexLt a b=true->HT.lexLt b c=true->HT.lexLt a c=true
 |[],[],c,h,_=>by cases h
 |[],_::_,[],_,h=>by cases h
 |[],_::_,_::_,_,_=>rfl
 |_::_,[],_,h,_=>by cases h
 |_::_,_::_,[],_,h=>by cases h
 |x::a,y::b,z::c,h1,h2=>by
  rw[HT.kE]at h1 h2 ⊢;by_cases e1:x=y
  ·subst e1
   rw[if_pos rfl]at h1;by_cases e2:x=z
   ·rw[if_pos e2]at h2 ⊢
    exact rO a b c h1 h2
   ·rw[if_neg e2]at h2 ⊢
    exact h2
  ·rw[if_neg e1]at h1
   simp only[decide_eq_true_eq]at h1;by_cases e2:y=z
   ·subst e2
    rw[if_neg e1];simpa using h1
   ·rw[if_neg e2]at h2
    simp only[decide_eq_true_eq]at h2;rw[if_neg (by lia)];simp only[decide_eq_true_eq];lia
theorem aAW:∀a b:List Int,HT.lexLt a b=false->HT.lexLt b a=false->a=b
 |[],[],_,_=>rfl
 |[],_::_,h,_=>by cases h
 |_::_,[],_,h=>by cases h
 |x::a,y::b,h1,h2=>by
  rw[HT.kE]at h1 h2;by_cases e:x=y
  ·subst e
   rw[if_pos rfl]at h1 h2;rw[aAW a b h1 h2]
  ·rw[if_neg e]at h1
   rw[if_neg λ q=>e q.symm]at h2;simp only[decide_eq_false_iff_not]at h1 h2;lia
theorem aFz(a b c:List Int)(h:HT.lexLt a c=true):HT.lexLt a b=true\/HT.lexLt b c=true:=by
 cases e1:HT.lexLt a b with
 |true=>exact .inl rfl
 |false=>
  right;cases e2:HT.lexLt b a with
  |true=>exact rO b a c e2 h
  |false=>rw[<-aAW a b e1 e2];exact h
def aCg:PyProof.Rows.KeyOrd:=⟨List Int,HT.lexLt,aAX,rO,aFz,aAW⟩
inductive fH(h:Heap):List Value->List (List Int)->Prop where
 |nil:fH h [] []
 |cons {x:Addr} {o:Obj} {xs:Array Value} {k:Nat} {ns:List Int} {vs:List Value} {nss:List (List Int)} (ho:h.get? x=some o) (hc:o.cls= .type "tuple") (hd:o.data= .seq xs k) (hi:IntsAre xs.toList ns) (hne:ns≠[]) (r:fH h vs nss):fH h (.ref x::vs) (ns::nss)
theorem fH.mono(k:∀x o,h.get? x=some o->o.cls= .type "tuple"->h'.get? x=some o):∀{vs:List Value} {nss:List (List Int)},fH h vs nss->fH h' vs nss
 |_,_,.nil=>.nil
 |_,_,.cons ho hc hd hi hne r=>.cons (k _ _ ho hc) hc hd hi hne (fH.mono k r)
theorem fH.at:∀{vs:List Value} {nss:List (List Int)} {i:Nat},fH h vs nss->i<vs.length->∃x o xs k,vs.getD i Value.none= .ref x/\h.get? x=some o/\o.cls= .type "tuple"/\o.data= .seq xs k/\IntsAre xs.toList (nss.getD i [])/\nss.getD i []≠[]
 |_,_,_,.nil,hi=>by simp at hi
 |_,_,0,.cons ho hc hd hi hne _,_=>⟨_,_,_,_,rfl,ho,hc,hd,hi,hne⟩
 |_,_,i+1,.cons _ _ _ _ _ r,hi=>by
  obtain⟨x,o,xs,k,q⟩:=fH.at (i:=i) r (by simpa using hi);exact⟨x,o,xs,k,by simpa using q⟩
theorem fH.firsts:∀{vs:List Value} {nss:List (List Int)},fH h vs nss->∃fs,PySem.W.KatTups h vs fs/\fs.length=vs.length/\∀f∈fs,∃n t,f=Value.int n t
 |_,_,.nil=>⟨[],.nil,rfl,λ f hf=>by simp at hf⟩
 |_,_,.cons (xs:=xs) ho hc hd hi hne r=>by
  obtain⟨fs,h1,h2,h3⟩:=fH.firsts r;obtain⟨l,rfl⟩:∃l:List Value,xs=l.toArray:=⟨xs.toList,by simp⟩
  rw[show l.toArray.toList=l by simp]at hi;cases hi with
  |nil=>exact absurd rfl hne
  |cons n t q=>
   rename_i l' ns';refine⟨.int n t::fs,.cons ho hc hd (by simp) h1,by simp[h2],λ f hf=>?_⟩;rcases List.mem_cons.mp hf with rfl|hf
   ·exact⟨n,t,rfl⟩
   ·exact h3 f hf
section
variable{prog:Program}{w:World}{A:Around}{E:Value->Shared->Prop}{s:Shared}
theorem aB5:∀{xs ys:List Value} {ns ms:List Int} (i:Nat),IntsAre xs ns->IntsAre ys ms->fin=decide (xs.length<ys.length)->Q (HT.lexLt ns ms) s->PySem.W.KatLex prog w A b fin Q (xs.zip ys) i s:=by
 intro xs ys ns ms i hx;induction hx generalizing ys ms i with
 |nil=>intro hy hf q;cases hy<;>(subst hf;exact q)
 |@cons x t xs ns r ih=>
  intro hy hf q;cases hy with
  |nil=>subst hf;exact q
  |@cons y u ys ms r'=>?_
  rw[List.zip_cons_cons];refine PySem.W.kat_cons (wpAny_eqBool_int ?_);rw[HT.kE]at q;by_cases e:x=y
  ·rw[if_pos e]at q
   rw[show(x==y)=true by simpa using e];exact PySem.W.kat_yes (ih (i+1) r' (by rw[hf];simp) q)
  ·rw[if_neg e]at q
   rw[show(x==y)=false by simpa using e];refine PySem.W.kat_no ?_;cases hb:(b&&i==0)with
   |true=>exact oneLt_int q
   |false=>exact PySem.W.kat_one _ _ (PyProof.Rows.lt_int q)
theorem aCo(hx:s.heap.get? x=some ox)(dx:ox.data= .seq xs n)(hy:s.heap.get? y=some oy)(dy:oy.data= .seq ys k)(hi:IntsAre xs.toList ns)(hj:IntsAre ys.toList ms)
  (q:Q (HT.lexLt ns ms) s):wpAny (model prog w) A (keyLt' (tuples' b) (.ref x) (.ref y)) Q E s:=
 PySem.W.kat_lt hx dx hy dy (aB5 0 hi hj (by simp) q)
def pN(vs:List Value)(p:Array Nat):Array Value:=(p.toList.map λ i=>vs.getD i Value.none).toArray
theorem aGz(h:vs.length<2):(vs.toArray.zip vs.toArray).map (·.2)=pN vs (List.range vs.length).toArray:=by
 cases vs with
 |nil=>simp[pN]
 |cons v t=>
  cases t with
  |nil=>simp[pN]
  |cons u t=>exact absurd h (Nat.not_lt.mpr (Nat.le_add_left 2 t.length))
theorem aCf(ho:s.heap.get? a=some (seqObj "list" vs.toArray c))(ht:fH s.heap vs nss)(h64:vs.length<64)
  (h:∀p:Array Nat,Pm vs.length p->Up (O:=aCg) (λ i=>nss.getD i []) p vs.length->P (.done (.ret .none)) {s with heap:=sortedHeap s.heap a vs (pN vs p)}):
  wpAny (model prog w) A (Builtin.«list.sort» ⟨[.ref a],[]⟩) P E s:=by
 have hlt:a<s.heap.objs.size:=Heap.lt_size ho;have hz:vs.length<=sizeLine:=by rw[sizeLine_eq];lia
 obtain⟨e1,ho1⟩:∃e1,(s.heap.update a (Obj.mapSeq λ _=>(#[]:Array Value))).get? a=some (seqObj "list" #[] e1):=⟨_,get?_update_seq ho λ _=>#[]⟩
 have keep:∀x o,s.heap.get? x=some o->o.cls= .type "tuple"->(((s.heap.update a (Obj.mapSeq λ _=>(#[]:Array Value))).push (seqObj "tuple" vs.toArray 0)).push (seqObj "list" #[] 0)).get? x=some o:=λ x o e q=>by
  have hxa:x≠a:=λ z=>by
   subst z;rw[ho]at e;cases e;exact absurd q (show¬(Value.type "list"=Value.type "tuple")by decide)
  refine Heap.get?_push_of_some _ (Heap.get?_push_of_some _ ?_);rw[Heap.get?_update_ne _ _ _ _ hxa];exact e
 have ho6:(((s.heap.update a (Obj.mapSeq λ _=>(#[]:Array Value))).push (seqObj "tuple" vs.toArray 0)).push (seqObj "list" #[] 0)).get? a=some (seqObj "list" #[] e1):=Heap.get?_push_of_some _ (Heap.get?_push_of_some _ ho1);have ht6:=ht.mono keep;rw[list_sort_plain];refine wpAny_bind (listItems_at ho rfl (wpAny_bind (listUpdate_at ho rfl ?_ (by rw[List.size_toArray];exact hz) (Nat.zero_le _))));refine wpAny_bind (seqEpoch_at ho1 rfl (wpAny_bind (wpAny_newTuple ?_ (by show vs.length<=_;exact hz))));refine wpAny_bind (wpAny_newList (wpAny_holding ?_) (Nat.zero_le _));show wpAny (model prog w) A _ P E {s with heap:=((s.heap.update a (Obj.mapSeq λ _=>(#[]:Array Value))).push (seqObj "tuple" vs.toArray 0)).push (seqObj "list" #[] 0)};dsimp only;have hsz:∀p:Array Nat,Pm vs.length p->(pN vs p).size=vs.length:=λ p a1=>by unfold pN;rw[List.size_toArray,List.length_map,Array.length_toList,a1.sz]
 by_cases h2:vs.toArray.size<2
 ·rw[if_pos h2,if_pos h2]
  refine wpAny_bind (wpAny_pure ?_);rw[StateT.run_pure];refine wpAny_bind (wpAny_pure ?_);have h2':vs.length<2:=by simpa using h2
  have a1:Pm vs.length (List.range vs.length).toArray:=Array.Perm.refl _;have a3:=aGz h2';dsimp only;refine wpAny_bind (seqEpoch_at ho6 rfl ?_);show wpAny (model prog w) A (Builtin.List.listUpdate (.ref a) (λ _=>(vs.toArray.zip vs.toArray).map (·.2))>>=_) P E _;rw[a3];refine wpAny_bind (listUpdate_at ho6 rfl ?_ (Nat.zero_le _) (by show(pN vs _).size<=_;rw[hsz _ a1];lia));simp only[bne_self_eq_false,Bool.false_eq_true,if_false];exact wpAny_pure (h _ a1 λ i j hij hj=>by rw[show i=j by lia];exact aAX _)
 ·rw[if_neg h2,if_neg h2]
  have h2':2<=vs.length:=Nat.le_of_not_lt (show¬vs.length<2 by simpa using h2);obtain⟨fs,f1,f2,f3⟩:=ht6.firsts;refine wpAny_bind (PySem.W.kat_kind (T:=.type "int") f1 (by lia) (λ v hv=>?_) (by decide) ?_)
  ·obtain⟨n,t,rfl⟩:=f3 v hv
   exact PySem.W.Looks.now
  rw[show(Value.type "int" !=Value.type "tuple")=true by decide];refine wpAny_bind (wpAny_mono (PySem.W.kat_run (κ:=tuples' true) (ks:=vs) (vs:=vs) (Q:=λ st s'=>s'={s with heap:=((s.heap.update a (Obj.mapSeq λ _=>(#[]:Array Value))).push (seqObj "tuple" vs.toArray 0)).push (seqObj "list" #[] 0)}/\∃p:Array Nat,Pm vs.length p/\Up (O:=aCg) (λ i=>nss.getD i []) p vs.length/\(arrOf st).map (·.2)=pN vs p/\failedOf st=none)
   (G:=λ p s'=>s'={s with heap:=((s.heap.update a (Obj.mapSeq λ _=>(#[]:Array Value))).push (seqObj "tuple" vs.toArray 0)).push (seqObj "list" #[] 0)}/\Pm vs.length p/\Up (O:=aCg) (λ i=>nss.getD i []) p vs.length)
   rfl h2' h64 (λ p st s' _ b2 b3 b4=>⟨b4.1,p,b4.2.1,b4.2.2,PySem.W.kat_snds rfl b2,b3⟩) ?_) (λ r s' hr=>?_) λ _ _ e=>e)
  ·refine aAt (O:=aCg) (kz:=λ i=>nss.getD i []) (n:=vs.length) (I:=λ s'=>s'={s with heap:=((s.heap.update a (Obj.mapSeq λ _=>(#[]:Array Value))).push (seqObj "tuple" vs.toArray 0)).push (seqObj "list" #[] 0)}) (λ i j C s' hI hi hj hC=>?_) _ _ rfl (aHA (by lia) λ p a1 a2 s' hs'=>⟨hs',a1,a2⟩)
   subst hI;unfold PySem.W.kas_ask;obtain⟨x,ox,xs,kx,x1,x2,_,x4,x5,_⟩:=ht6.at hi;obtain⟨y,oy,ys,ky,y1,y2,_,y4,y5,_⟩:=ht6.at hj;rw[x1,y1];exact aCo x2 x4 y2 y4 x5 y5 (hC _ rfl)
  ·obtain⟨⟨⟩,st⟩:=r
   obtain⟨e,p,b1,b2,b3,b4⟩:=hr;subst e;refine wpAny_bind (seqEpoch_at ho6 rfl ?_);rw[b3,b4];refine wpAny_bind (listUpdate_at ho6 rfl ?_ (Nat.zero_le _) (by show(pN vs p).size<=_;rw[hsz p b1];lia));simp only[bne_self_eq_false,Bool.false_eq_true,if_false];exact wpAny_pure (h p b1 b2)
end
theorem sub_len[BEq α][LawfulBEq α]:∀{l l':List α},l.Nodup->(∀x∈l,x∈l')->l.length<=l'.length
 |[],_,_,_=>Nat.zero_le _
 |x::l,l',nd,h=>by
  have hx:x∈l':=h x List.mem_cons_self;have ih:=sub_len (l:=l) (l':=l'.erase x) (List.nodup_cons.mp nd).2 λ y hy=>(List.mem_erase_of_ne λ e=>by subst e;exact(List.nodup_cons.mp nd).1 hy).mpr (h y (List.mem_cons_of_mem _ hy))
  rw[List.length_erase_of_mem hx]at ih
  have:0<l'.length:=List.length_pos_of_mem hx
  rw[List.length_cons];lia
def Ris(xs:Array Nat):Prop:=∀i j,i<j->j<xs.size->xs.getD i 0<xs.getD j 0
structure TbOk(t:SetTable)(n:Nat):Prop where
 dum:t.dummies=#[]
 siz:t.place.size=n
 ris:Ris t.place
 top:∀i,i<n->t.place.getD i 0<=t.mask
 msk:t.mask=7/\n<5\/t.mask=31/\n<19\/t.mask=127/\n<77
 pla:t.plain=true
section
variable{t:SetTable}{n:Nat}{hashAt:Nat->Int}{h:Int}
end
theorem aAa(xs:Array α)(p:Nat)(x d:α)(hp:p<=xs.size)(i:Nat):(SetTable.insertAt xs p x).getD i d=if i<p then xs.getD i d else if i=p then x else xs.getD (i-1) d:=by
 have e:∀(ys:Array α) i,ys.getD i d=(ys.toList[i]?).getD d:=λ ys i=>by rw[Array.getD_eq_getD_getElem?,Array.getElem?_toList]
 rw[e,e,e,SetTable.toList_insertAt];have hl:p<=xs.toList.length:=by simpa using hp
 by_cases h1:i<p
 ·rw[if_pos h1,List.getElem?_append_left (by rw[List.length_take];lia),List.getElem?_take,if_pos h1]
 ·rw[if_neg h1,List.getElem?_append_right (by rw[List.length_take];lia),List.length_take,Nat.min_eq_left hl]
  by_cases h2:i=p
  ·rw[if_pos h2,h2,Nat.sub_self]
   rfl
  ·rw[if_neg h2,show i-p=(i-p-1)+1 by lia,List.getElem?_cons_succ,List.getElem?_drop]
   congr 2;lia
structure TbPut(t:SetTable)(n:Nat):Prop where
 dum:t.dummies=#[]
 siz:t.place.size=n
 ris:Ris t.place
 top:∀i,i<n->t.place.getD i 0<=t.mask
 msk:t.mask=7/\n<=5\/t.mask=31/\n<=19\/t.mask=127/\n<77
 pla:t.plain=true
abbrev iI(es:Array (Int×Value))(ep:Nat)(t:SetTable):Obj:={cls:=.type "set",dict:=none,data:=.set es ep t}
structure TupAt(h:Heap)(x:Addr)(ns:List Int):Prop where
 ex:∃o xs k,h.get? x=some o/\o.cls= .type "tuple"/\o.data= .seq xs k/\IntsAre xs.toList ns
section
variable{prog:Program}{w:World}{A:Around}{E:Value->Shared->Prop}{s:Shared}
end
section
variable{prog:Program}{w:World}{A:Around}{R:Result->Shared->Prop}{I:Addr}{fp wr:List Addr}{G:Array GenState->Array GenState->Prop}{n:Nat}{St:Nat->Shared->Prop}{vs:List Value}{nss:List (List Int)}
end
end VL
namespace PySem
section
variable{prog:Program}{w:World}{A:Around}{E:Value->Shared->Prop}{s:Shared}
theorem aFI(a:Value)(h:Q₁ (.ref s.heap.objs.size) {s with heap:=s.heap.push (VL.iI #[] 0 (.fresh 0 0 (!w.params.followText "set-order")))}):
  codeAny (model prog w) A (.call (.builtin "set.__new__") ⟨[.type "set",a],[]⟩) (wants Q₁ E) s:=by
 refine codeAny_of_tree ?_;show wpAny _ A.in1 (checkBuiltinCall "set.__new__" ⟨[.type "set",a],[]⟩>>=λ _=>again (.builtin "set.__new__" ⟨[.type "set",a],[]⟩)) _ _ s;refine wpAny_bind (wpAny_of_eq (F.newCall_set_1 a) (wpAny_pure ⟨plainId_quiet PySem.F.plain_set_new _,codeAny_builtin PySem.F.entry_set_new ?_⟩));rw[Around.under_plainId PySem.F.plain_set_new _];unfold Builtin.«set.__new__» Builtin.Frozenset.newClass;have hsub:=sub_set_self;obtain⟨hp,g,d,tk,os⟩:=s;dsimp only;wp_walk;refine wpAny_askSetting (wpAny_pure ?_);dsimp only;simp only[newObj];exact wpAny_bind (wpAny_alloc (wpAny_pure (wpAny_pure h)))
set_option maxHeartbeats 3200000 in
theorem uh{l:Addr}{T:String}{oI:Obj}{Φ:Heap->Prop}{Q:Value->Shared->Prop}(hty:s.TypeIs (.ref l) T)(hsls:isSubtype (.type T) (.type "set")=pure false)(hslf:isSubtype (.type T) (.type "frozenset")=pure false)(hne:(Value.type T==Value.type "dict")=false)
  (hit:∀(h₁:Heap) (A₁:Around) (E₁:Value->Shared->Prop) (Q₁:Value->Shared->Prop),(∀b o,s.heap.get? b=some o->h₁.get? b=some o)->Q₁ (.ref h₁.objs.size) {s with heap:=h₁.push oI}->wpAny (model prog w) A₁ (pyIter (.ref l)) Q₁ E₁ {s with heap:=h₁})
  (hrun:∀R:Result->Shared->Prop,(∀h' tk,Φ h'->(∀b o,s.heap.get? b=some o->h'.get? b=some o)->R (.ok (.ret .none)) {s with heap:=h',toks:=tk})->
   codeAny (model prog w) A.in1.in1 (.builtin "set.update.loop" ⟨[.ref s.heap.objs.size,.ref (s.heap.push (VL.iI #[] 0 (.fresh 0 0 (!w.params.followText "set-order")))).objs.size],[]⟩) R {s with heap:=(s.heap.push (VL.iI #[] 0 (.fresh 0 0 (!w.params.followText "set-order")))).push oI})
  (h:∀h' tk,Φ h'->(∀b o,s.heap.get? b=some o->h'.get? b=some o)->Q (.ref s.heap.objs.size) {s with heap:=h',toks:=tk}):
  wpAny (model prog w) A (call (.type "set") [.ref l]) Q E s:=by
 obtain⟨c,tl,hmro⟩:=F.called_set.mro;have hmade:=F.called_set.made;have hsub:=F.called_set.sub
 refine wpAny_call (codeAny_of_tree ?_);show wpAny _ _ (callAny (.type "set") _) _ _ _;refine wpAny_pure ⟨Code.quiet_builtin _ (by decide+kernel),codeAny_builtin PySem.F.entry_type_call ?_⟩;rw[Around.under_plain (weight_type_call_type "set" [.ref l] []) rfl];have h1:=F.called_set.notType;have h2:=F.called_set.canCreate
 have hct:=F.typeCall_set_1 (.ref l);repeat (any_goals (first|assumption|wp_step))
 generalize hled:(!w.params.followText "set-order")=led at hrun;refine codeAny_mono (aFI (.ref l) (E:=E) (Q₁:=λ obj s₁=>obj= .ref s.heap.objs.size/\s₁={s with heap:=s.heap.push (VL.iI #[] 0 (.fresh 0 0 led))}) ⟨rfl,by rw[hled]⟩) λ r s₁ hr=>?_
 cases r with
 |error e=>exact hr
 |ok fl=>
  cases fl with
  |ret obj=>
   obtain⟨rfl,rfl⟩:=hr;have hS:(s.heap.push (VL.iI #[] 0 (.fresh 0 0 led))).get? s.heap.objs.size=some (VL.iI #[] 0 (.fresh 0 0 led)):=Heap.get?_push_size _ rfl;have hT:Shared.TypeIs {s with heap:=s.heap.push (VL.iI #[] 0 (.fresh 0 0 led))} (.ref s.heap.objs.size) "set":=⟨_,hS,rfl⟩;have hli:=F.called_set.init.lookup;have hbi:=F.called_set.init.bind (.ref s.heap.objs.size)
   repeat (any_goals (first|assumption|wp_step))
   refine codeAny_mono (codeAny_call_builtin (R:=wants (λ r s₂=>r= .none/\∃h' tk,s₂={s with heap:=h',toks:=tk}/\Φ h'/\(∀b o,s.heap.get? b=some o->h'.get? b=some o)) E) F.called_set.init.plain F.entry_set_init (check_set_init_1 hT ?_)) λ r₂ s₂ hr₂=>?_
   ·obtain⟨ol,hol,hcl⟩:=hty
    obtain⟨ocls,odict,odata,oslots⟩:=ol;simp only at hcl;subst hcl;have hol':(s.heap.push (VL.iI #[] 0 (.fresh 0 0 led))).get? l=some {cls:=.type T,dict:=odict,data:=odata,slots:=oslots}:=Heap.get?_push_of_some _ hol;unfold Builtin.«set.__init__» noKeywords Builtin.Frozenset.updateFrom;generalize hPI:pyIter=PI;wp_walk;subst hPI;refine hit _ _ _ _ (λ b o e=>Heap.get?_push_of_some _ e) (wpAny_bind (wpAny_runValue (hrun _ λ h' tk g1 g2=>?_)));show wpAny _ _ _ _ _ _;refine wpAny_pure ?_;show wpAny _ _ (ret Value.none) _ _ _;exact wpAny_pure ⟨rfl,h',tk,rfl,g1,g2⟩
   ·cases r₂ with
    |error e=>exact hr₂
    |ok fl₂=>
     cases fl₂ with
     |ret r=>
      obtain⟨rfl,h',tk,rfl,g1,g2⟩:=hr₂
      repeat (any_goals (first|assumption|wp_step))
      exact h _ _ g1 g2
     |_=>exact hr₂.elim
  |_=>exact hr.elim
end
end PySem
namespace VL
open PySem PySem.Spec PyProof.Rows L2
section
variable{prog:Program}{w:World}{A:Around}{E:Value->Shared->Prop}{s:Shared}{d I:Addr}{es:Array (Int×Value)}{ep:Nat}{t:SetTable}{i':Nat}
end
section
variable{prog:Program}{w:World}{A:Around}{E:Value->Shared->Prop}{s:Shared}{d I:Addr}{es:Array (Int×Value)}{ep:Nat}{t:SetTable}{i':Nat}
end
section
variable{prog:Program}{w:World}{A:Around}{E:Value->Shared->Prop}{s:Shared}{T:String}{r d:Addr}{n:Nat}{P:Nat->Value->Prop}{OK:Heap->Prop}
end
def aI9(h:Heap)(p:Value×List Int):Prop:=∃x o xs k,p.1= .ref x/\h.get? x=some o/\o.cls= .type "tuple"/\o.data= .seq xs k/\IntsAre xs.toList p.2/\p.2≠[]
theorem fH.all:∀{vs:List Value} {nss:List (List Int)},fH h vs nss->∀p∈vs.zip nss,aI9 h p
 |_,_,.nil,p,hp=>by simp at hp
 |_,_,.cons ho hc hd hi hne r,p,hp=>by
  rw[List.zip_cons_cons]at hp;rcases List.mem_cons.mp hp with e|hp
  ·subst e;exact⟨_,_,_,_,rfl,ho,hc,hd,hi,hne⟩
  ·exact r.all p hp
theorem aDI:∀{zs:List (Value×List Int)},(∀p∈zs,aI9 h p)->fH h (zs.map (·.1)) (zs.map (·.2))
 |[],_=>.nil
 |p::zs,hz=>by
  obtain⟨x,o,xs,k,e1,e2,e3,e4,e5,e6⟩:=hz p List.mem_cons_self;rw[List.map_cons,List.map_cons,e1];exact .cons e2 e3 e4 e5 e6 (aDI λ q hq=>hz q (List.mem_cons_of_mem _ hq))
theorem aAJ(h:l.Perm m'):∀{m:List α},m'=m.map f->∃m2:List α,m2.Perm m/\l=m2.map f:=by
 induction h with
 |nil=>intro m e;exact⟨m,List.Perm.refl _,e⟩
 |cons x p ih=>
  intro m e;cases m with
  |nil=>cases e
  |cons a m=>
   rw[List.map_cons]at e;injection e with e1 e2
   obtain⟨m2,q1,q2⟩:=ih e2;exact⟨a::m2,q1.cons a,by rw[List.map_cons,q2,e1]⟩
 |swap x y l=>
  intro m e;cases m with
  |nil=>cases e
  |cons a m=>
   cases m with
   |nil=>rw[List.map_cons]at e;injection e with _ e2;cases e2
   |cons b m=>
    rw[List.map_cons,List.map_cons]at e;injection e with e1 e2
    injection e2 with e2 e3
    exact⟨b::a::m,List.Perm.swap _ _ _,by rw[List.map_cons,List.map_cons,e1,e2,e3]⟩
 |trans p q ih1 ih2=>
  intro m e;obtain⟨m2,a1,a2⟩:=ih2 e;obtain⟨m3,b1,b2⟩:=ih1 a2;exact⟨m3,b1.trans a1,b2⟩
def sU(l:List (List Int)):Prop:=l.Pairwise λ a b=>HT.lexLt b a=false
section
variable{prog:Program}{w:World}{A:Around}{E:Value->Shared->Prop}{s:Shared}
theorem aAx{Q:Value->Shared->Prop}(hz:∀p∈zs,aI9 s.heap p)(h64:zs.length<64)
  (h:∀(zs':List (Value×List Int)) h' e,zs'.Perm zs->sU (zs'.map (·.2))->(∀b o,s.heap.get? b=some o->h'.get? b=some o)->h'.get? s.heap.objs.size=some (seqObj "list" (zs'.map (·.1)).toArray e)->Q (.ref s.heap.objs.size) {s with heap:=h'}):
  wpAny (model prog w) A (newList (zs.map (·.1))>>=λ l=>holding [l] (call (.builtin "list.sort") [l])>>=λ _=>ret l) (λ fin s'=>∃r,fin= .done (.ret r)/\Q r s') E s:=by
 have hlen:(zs.map (·.1)).length=zs.length:=List.length_map _;refine wpAny_bind (wpAny_newList ?_ (by rw[sizeLine_eq];omega));have hoL:(s.heap.push (seqObj "list" (zs.map (·.1)).toArray 0)).get? s.heap.objs.size=some (seqObj "list" (zs.map (·.1)).toArray 0):=Heap.get?_push_size _ rfl;refine wpAny_bind (wpAny_holding (wpAny_call_entry slot_list_sort ⟨_,hoL,rfl⟩ entry_list_sort ?_ (args_list_sort _)));refine aCf (s:={s with heap:=s.heap.push (seqObj "list" (zs.map (·.1)).toArray 0)}) hoL (aDI λ p hp=>?_) (by omega) λ p a1 a2=>⟨_,rfl,?_⟩
 ·obtain⟨x,o,xs,k,e1,e2,e3⟩:=hz p hp
  exact⟨x,o,xs,k,e1,Heap.get?_push_of_some _ e2,e3⟩
 rw[hlen]at a1 a2;have hmap:p.toList.map (λ i=>(zs.map (·.1)).getD i Value.none)=(p.toList.map λ i=>zs.getD i (Value.none,[])).map (·.1):=by
  rw[List.map_map];refine List.map_congr_left λ i hi=>?_
  show(zs.map (·.1)).getD i Value.none=(zs.getD i (Value.none,[])).1
  rw[List.getD_eq_getElem?_getD,List.getD_eq_getElem?_getD,List.getElem?_map];cases zs[i]?<;>rfl
 have hperm:(p.toList.map λ i=>zs.getD i (Value.none,[])).Perm zs:=by
  have h1:p.toList.Perm (List.range zs.length):=by
   have:=Array.perm_iff_toList_perm.mp a1
   simpa using this
  refine(h1.map _).trans ?_
  have:(List.range zs.length).map (λ i=>zs.getD i (Value.none,[]))=zs:=by
   refine List.ext_getElem (by simp) λ i h1 h2=>?_
   rw[List.getElem_map,List.getElem_range,List.getD_eq_getElem?_getD,List.getElem?_eq_getElem h2];rfl
  rw[this]
 have hne:∀b o,s.heap.get? b=some o->b≠s.heap.objs.size:=λ b o e=>Nat.ne_of_lt (Heap.lt_size e)
 obtain⟨e1,he1⟩:∃e1,((s.heap.push (seqObj "list" (zs.map (·.1)).toArray 0)).update s.heap.objs.size (Obj.mapSeq λ _=>(#[]:Array Value))).get? s.heap.objs.size=some (seqObj "list" #[] e1):=⟨_,get?_update_seq hoL λ _=>#[]⟩
 have g1:=Heap.get?_push_of_some (seqObj "list" #[] 0) (Heap.get?_push_of_some (seqObj "tuple" (zs.map (·.1)).toArray 0) he1);have g2:=get?_update_seq g1 (λ _=>pN (zs.map (·.1)) p);generalize (if ((pN (zs.map (·.1)) p).size==(#[]:Array Value).size)=true then e1 else e1+1)=c1 at g2;have hend:(sortedHeap (s.heap.push (seqObj "list" (zs.map (·.1)).toArray 0)) s.heap.objs.size (zs.map (·.1)) (pN (zs.map (·.1)) p)).get? s.heap.objs.size=some (seqObj "list" (pN (zs.map (·.1)) p) c1):=g2;have hout:pN (zs.map (·.1)) p=((p.toList.map λ i=>zs.getD i (Value.none,[])).map (·.1)).toArray:=by unfold pN;rw[hmap]
 have hris:sU ((p.toList.map λ i=>zs.getD i (Value.none,[])).map (·.2)):=by
  unfold sU;rw[List.map_map];refine List.pairwise_iff_getElem.mpr λ i j hi hj hij=>?_
  rw[List.length_map,Array.length_toList,a1.sz]at hi hj;have hk:∀k (hk:k<zs.length),Kp (O:=aCg) (λ i=>(zs.map (·.2)).getD i []) p k=(zs.getD (p.getD k 0) (Value.none,[])).2:=λ k hk=>by
   show(zs.map (·.2)).getD (p.getD k 0) []=_
   rw[List.getD_eq_getElem?_getD,List.getD_eq_getElem?_getD,List.getElem?_map];cases zs[p.getD k 0]?<;>rfl
  have hg:∀k (hk:k<p.toList.length),p.toList[k]=p.getD k 0:=λ k hk=>by
   have:k<p.size:=by simpa using hk
   simp[Array.getD,this]
  have this:HT.lexLt (Kp (O:=aCg) (λ i=>(zs.map (·.2)).getD i []) p j) (Kp (O:=aCg) (λ i=>(zs.map (·.2)).getD i []) p i)=false:=a2 i j (Nat.le_of_lt hij) hj;rw[hk i hi,hk j hj]at this;rw[List.getElem_map,List.getElem_map,hg,hg];exact this
 have hkeep:∀b o,s.heap.get? b=some o->(sortedHeap (s.heap.push (seqObj "list" (zs.map (·.1)).toArray 0)) s.heap.objs.size (zs.map (·.1)) (pN (zs.map (·.1)) p)).get? b=some o:=λ b o e=>by
  unfold sortedHeap;rw[Heap.get?_update_ne _ _ _ _ (hne b o e)];refine Heap.get?_push_of_some _ (Heap.get?_push_of_some _ ?_);rw[Heap.get?_update_ne _ _ _ _ (hne b o e)];exact Heap.get?_push_of_some _ e
 rw[hout]at hend hkeep;have hq:=h (p.toList.map λ i=>zs.getD i (Value.none,[])) _ c1 hperm hris hkeep hend;rw[<-hout]at hq;exact wpAny_pure ⟨_,rfl,hq⟩
theorem zb(h:wpAny (model prog w) A.in1 (collect v) (λ vs s'=>wpAny (model prog w) A.in1 (newList vs>>=λ l=>holding [l] (call (.builtin "list.sort") [l])>>=λ _=>ret l) (λ fin s'=>∃r,fin= .done (.ret r)/\Q r s') E s') E s):
  wpAny (model prog w) A (call (.builtin "sorted") [v]) Q E s:=by
 refine Calls.call_function_entry kind_sorted plain_sorted entry_sorted (args_sorted1 _) ?_;unfold Builtin.«sorted»;refine wpAny_bind (m:=checkCount "sorted" 1 1 _) (wpAny_pure (wpAny_bind ?_));exact h
end
inductive jQ(K:PySem.W.Frag)(H:Hp):List V->List (List Int)->Prop where
 |nil:jQ K H [] []
 |cons {a:Addr} {ns:List Int} {vs:List V} {nss:List (List Int)} (h:SqT K H a (ns.map V.int)) (hne:ns≠[]) (r:jQ K H vs nss):jQ K H (.ref a::vs) (ns::nss)
def tH:V->Value
 | .ref a=>.ref a
 |_=>.none
theorem jQ.vals{K:PySem.W.Frag}:∀{vs:List V} {nss:List (List Int)} {us:List Value},jQ K H vs nss->Vals vs us->us=vs.map tH:=by
 intro vs nss us t v;induction v generalizing nss with
 |nil=>rfl
 |cons q s ih=>
  cases t with
  |cons _ _ r=>
   cases q;rw[List.map_cons,ih r];rfl
theorem jQ.len{K:PySem.W.Frag}:∀{vs:List V} {nss:List (List Int)},jQ K H vs nss->vs.length=nss.length
 |_,_,.nil=>rfl
 |_,_,.cons _ _ r=>by rw[List.length_cons,List.length_cons,r.len]
theorem jQ.refs{K:PySem.W.Frag}:∀{vs:List V} {nss:List (List Int)},jQ K H vs nss->∀v∈vs,RelV v (tH v)
 |_,_,.nil,v,hv=>by simp at hv
 |_,_,.cons _ _ r,v,hv=>by
  rcases List.mem_cons.mp hv with e|hv
  ·subst e;exact rfl
  ·exact r.refs v hv
theorem jQ.at(I:Inv X pins σ H s):∀{vs:List V} {nss:List (List Int)},jQ X.K H vs nss->fH s.heap (vs.map tH) nss
 |_,_,.nil=>.nil
 |_,_,.cons h hne r=>by
  obtain⟨its,rv,⟨o,ho,hc,n,hd⟩,_⟩:=I.tuple h;exact .cons ho hc hd (by simpa using intsAre_of rv) hne (r.at I)
theorem yW:∀{vs:List V},(∀v∈vs,RelV v (tH v))->Vals vs (vs.map tH)
 |[],_=>.nil
 |v::vs,h=>.cons (h v List.mem_cons_self) (yW λ u hu=>h u (List.mem_cons_of_mem _ hu))
section
variable{X:Cx}
def aGo(H:Hp)(vs:List V)(nss:List (List Int))(Q:VK):Prop:=∀zs:List (V×List Int),zs.Perm (vs.zip nss)->sU (zs.map (·.2))->New H (.lst (zs.map (·.1))) Q
theorem aCI{pins:List (Addr×Obj)}(I:Inv X pins σ H s)(ht:jQ X.K H vs nss)(h64:vs.length<64)(q:aGo H vs nss Q)
  (hs1:∃h1 tk,s1={s with heap:=h1,toks:=tk}/\s.heap.objs.size<=h1.objs.size/\∀b o,s.heap.get? b=some o->h1.get? b=some o){zs:List (Value×List Int)}(hz:zs.Perm ((vs.map tH).zip nss))(hus:us=zs.map (·.1)):
  wpAny (model X.prog X.w) X.A.in1 (newList us>>=λ l=>holding [l] (call (.builtin "list.sort") [l])>>=λ _=>ret l) (λ fin s'=>∃r,fin= .done (.ret r)/\EP X pins σ Q r s') X.xe s1:=by
 obtain⟨h1,tk,rfl,hsz,keep⟩:=hs1;subst hus;have hall:∀p∈zs,aI9 h1 p:=λ p hp=>by
  obtain⟨x,o,xs,k,e1,e2,e3⟩:=(ht.at I).all p (hz.mem_iff.mp hp);exact⟨x,o,xs,k,e1,keep _ _ e2,e3⟩
 have hlen:zs.length<64:=by
  rw[hz.length_eq,List.length_zip,List.length_map,<-ht.len,Nat.min_self];exact h64
 refine aAx (s:={s with heap:=h1,toks:=tk}) hall hlen λ zs' h' e a1 a2 a3 a4=>?_
 have hmap:(vs.map tH).zip nss=(vs.zip nss).map λ p=>(tH p.1,p.2):=by rw[List.zip_map_left];rfl
 obtain⟨ws,w1,w2⟩:=aAJ (f:=λ p:V×List Int=>(tH p.1,p.2)) (a1.trans hz) hmap;have hfr:H h1.objs.size=none:=I.hok.fresh hsz;have hmem:∀v∈ws.map (·.1),RelV v (tH v):=λ v hv=>by
  obtain⟨p,hp,rfl⟩:=List.mem_map.mp hv;exact ht.refs p.1 (List.of_mem_zip (w1.mem_iff.mp hp)).1
 have hws:zs'.map (·.1)=(ws.map (·.1)).map tH:=by rw[w2,List.map_map,List.map_map];rfl
 have hwl:(ws.map (·.1)).length<=sizeLine:=by
  rw[List.length_map,w1.length_eq,List.length_zip,<-ht.len,Nat.min_self,sizeLine_eq];lia
 refine⟨.ref h1.objs.size,upd H h1.objs.size (.lst (ws.map (·.1))),I.laid (t':=tk) (λ b o e=>a3 b o (keep b o e)) hsz ⟨hwl,(ws.map (·.1)).map tH,e,yW hmem,?_⟩,rfl,(q ws w1 ?_).at hfr⟩
 ·rw[<-hws];exact a4
 ·have:ws.map (·.2)=zs'.map (·.2):=by rw[w2,List.map_map];rfl
  rw[this];exact a2
def aCX(K:PySem.W.Frag):List V->Hp->VK->Prop:=λ xs H Q=>∃p vs nss,xs=[.ref p]/\SqL K H p vs/\jQ K H vs nss/\vs.length<64/\aGo H vs nss Q
theorem yU:dG X (.builtin "sorted") (aCX X.K):=by
 intro pins s σ H xs us Q I r h;obtain⟨p,vs,nss,rfl,hp,ht,h64,q⟩:=h;obtain⟨u,rfl,ru⟩:=vals1 r;cases ru;obtain⟨its,rv,pl,hz⟩:=I.list hp;have e:=ht.vals rv;subst e;have hl2:(vs.map tH).length=nss.length:=by rw[List.length_map];exact ht.len
 refine zb (collect_list pl.isList ?_ (by rw[List.length_map];exact hz));refine aCI I ht h64 q ⟨_,_,rfl,?_,λ b o e=>?_⟩ (List.Perm.refl _) ?_
 ·rw[Heap.size_update,size_push']
  exact Nat.le_succ _
 ·rw[Heap.get?_update_ne _ _ _ _ (Nat.ne_of_lt (Heap.lt_size e))]
  exact Heap.get?_push_of_some _ e
 ·exact(List.map_fst_zip (by lia)).symm
end
def aE1(a:List Int):List (List Int)->List (List Int)
 |[]=>[a]
 |b::l=>if HT.lexLt b a then b::aE1 a l else a::b::l
def pU:List (List Int)->List (List Int)
 |[]=>[]
 |a::l=>aE1 a (pU l)
theorem tZ(a:List Int):∀l,(aE1 a l).Perm (a::l)
 |[]=>List.Perm.refl _
 |b::l=>by
  unfold aE1;split
  ·exact((tZ a l).cons b).trans (List.Perm.swap _ _ _)
  ·exact List.Perm.refl _
theorem v8:∀l,(pU l).Perm l
 |[]=>List.Perm.refl _
 |a::l=>(tZ a _).trans ((v8 l).cons a)
theorem aHq(h:HT.lexLt a b=true):HT.lexLt b a=false:=by
 cases e:HT.lexLt b a with
 |false=>rfl
 |true=>have:=rO a b a h e;rw[aAX]at this;cases this
theorem aKN(h1:HT.lexLt b a=false)(h2:HT.lexLt c b=false):HT.lexLt c a=false:=by
 cases e:HT.lexLt c a with
 |false=>rfl
 |true=>
  rcases aFz c b a e with z|z
  ·rw[h2]at z;cases z
  ·rw[h1]at z;cases z
theorem wj(a:List Int):∀l,sU l->sU (aE1 a l)
 |[],_=>List.pairwise_cons.mpr ⟨λ _ h=>by simp at h,.nil⟩
 |b::l,h=>by
  obtain⟨h1,h2⟩:=List.pairwise_cons.mp h;unfold aE1;cases e:HT.lexLt b a with
  |true=>
   rw[if_pos rfl];refine List.pairwise_cons.mpr ⟨λ x hx=>?_,wj a l h2⟩;rcases List.mem_cons.mp ((tZ a l).mem_iff.mp hx)with q|q
   ·subst q;exact aHq e
   ·exact h1 x q
  |false=>
   rw[if_neg (by simp)];refine List.pairwise_cons.mpr ⟨λ x hx=>?_,h⟩;rcases List.mem_cons.mp hx with q|q
   ·subst q;exact e
   ·exact aKN e (h1 x q)
theorem uK:∀l,sU (pU l)
 |[]=>.nil
 |a::l=>wj a _ (uK l)
theorem yq:∀{a b:List (List Int)},a.Perm b->sU a->sU b->a=b
 |[],b,p,_,_=>p.nil_eq
 |x::a,b,p,h1,h2=>by
  cases b with
  |nil=>exact absurd p.length_eq (by simp)
  |cons y b=>
   have hxy:x=y:=by
    obtain⟨q1,_⟩:=List.pairwise_cons.mp h1;obtain⟨q2,_⟩:=List.pairwise_cons.mp h2;have m1:x∈y::b:=p.mem_iff.mp List.mem_cons_self;have m2:y∈x::a:=p.mem_iff.mpr List.mem_cons_self;rcases List.mem_cons.mp m1 with e|m1
    ·exact e
    ·rcases List.mem_cons.mp m2 with e|m2
     ·exact e.symm
     ·exact aAW _ _ (q2 x m1) (q1 y m2)
   subst hxy;rw[yq (List.Perm.cons_inv p) (List.pairwise_cons.mp h1).2 (List.pairwise_cons.mp h2).2]
abbrev tupI(ns:List Int):D:=.tup (ns.map .int)
def qM:List D->Option (List (List Int))
 |[]=>some []
 | .tup l::r=>match intsOf l,qM r with
  |some (n::ns),some nss=>some ((n::ns)::nss)
  |_,_=>none
 |_=>none
theorem uJ:∀{l:List D} {nss:List (List Int)},qM l=some nss->l=nss.map tupI/\∀ns∈nss,ns≠[]
 |[],nss,h=>by cases h;exact⟨rfl,λ ns h=>by simp at h⟩
 | .tup l::r,nss,h=>by
  unfold qM at h;split at h
  ·rename_i n ns nss' e1 e2
   cases h;obtain⟨q1,q2⟩:=uJ e2;rw[cT e1,q1];refine⟨rfl,λ ms hm=>?_⟩;rcases List.mem_cons.mp hm with e|hm
   ·subst e;simp
   ·exact q2 ms hm
  ·cases h
 | .non::_,_,h=>by cases h
 | .int _::_,_,h=>by cases h
 | .bl _::_,_,h=>by cases h
 | .str _::_,_,h=>by cases h
 | .lst _::_,_,h=>by cases h
 | .dct _ _::_,_,h=>by cases h
 | .set _::_,_,h=>by cases h
 | .scr _::_,_,h=>by cases h
theorem vV:∀{nss:List (List Int)},(∀ns∈nss,ns≠[])->qM (nss.map tupI)=some nss
 |[],_=>rfl
 |[]::nss,h=>absurd rfl (h [] List.mem_cons_self)
 |(n::ns)::nss,h=>by
  have ih:=vV λ ms hm=>h ms (List.mem_cons_of_mem _ hm)
  rw[List.map_cons];unfold qM;rw[ih,show intsOf (List.map D.int (n::ns))=some (n::ns)from fQ _]
theorem aAu{K:PySem.W.Frag}:∀{xs:List V} {nss:List (List Int)},Rps K A H xs (nss.map tupI)->(∀ns∈nss,ns≠[])->jQ K H xs nss
 |_,[],.nil,_=>.nil
 |_,ns::nss,.cons h r,hne=>by
  cases h with
  |tup h r'=>
   have e:=r'.ints_of;subst e;exact .cons h (hne ns List.mem_cons_self) (aAu r λ ms hm=>hne ms (List.mem_cons_of_mem _ hm))
theorem aFQ{K:PySem.W.Frag}:∀{zs:List (V×List Int)},(∀p∈zs,∃a,p.1= .ref a/\SqT K H a (p.2.map V.int))->Rps K A H (zs.map (·.1)) ((zs.map (·.2)).map tupI)
 |[],_=>.nil
 |p::zs,h=>by
  obtain⟨a,e1,e2⟩:=h p List.mem_cons_self;rw[List.map_cons,List.map_cons,List.map_cons,e1];exact .cons (.tup e2 .ints) (aFQ λ q hq=>h q (List.mem_cons_of_mem _ hq))
theorem jQ.all{K:PySem.W.Frag}:∀{vs:List V} {nss:List (List Int)},jQ K H vs nss->∀p∈vs.zip nss,∃a,p.1= .ref a/\SqT K H a (p.2.map V.int)
 |_,_,.nil,p,hp=>by simp at hp
 |_,_,.cons h _ r,p,hp=>by
  rw[List.zip_cons_cons]at hp;rcases List.mem_cons.mp hp with e|hp
  ·subst e;exact⟨_,rfl,h⟩
  ·exact r.all p hp
theorem aFC{K:PySem.W.Frag}(ht:jQ K H vs nss)(q:∀v H',aV H H'->Rp K (λ p=>H p=none) H' v (.lst ((pU nss).map tupI))->Q v H'):aGo H vs nss Q:=by
 intro zs hz hr p H' s hp hn;have e:zs.map (·.2)=pU nss:=yq (((hz.map (·.2)).trans (by rw[List.map_snd_zip (by rw[ht.len];exact Nat.le_refl _)])).trans (v8 nss).symm) hr (uK nss);refine q _ H' s (.lst hp hn ?_);rw[<-e];exact aFQ λ p hp=>by
  obtain⟨a,e1,e2⟩:=ht.all p (hz.mem_iff.mp hp);exact⟨a,e1,s.sqt e2⟩
def insI(a:Int):List Int->List Int
 |[]=>[a]
 |b::l=>if b<a then b::insI a l else a::b::l
def sortI:List Int->List Int
 |[]=>[]
 |a::l=>insI a (sortI l)
theorem insI_perm(a:Int):∀l,(insI a l).Perm (a::l)
 |[]=>List.Perm.refl _
 |b::l=>by
  unfold insI;split
  ·exact((insI_perm a l).cons b).trans (List.Perm.swap _ _ _)
  ·exact List.Perm.refl _
theorem sortI_perm:∀l,(sortI l).Perm l
 |[]=>List.Perm.refl _
 |a::l=>(insI_perm a _).trans ((sortI_perm l).cons a)
theorem aB8(a:Int):∀l:List Int,l.Pairwise (·<=·)->(insI a l).Pairwise (·<=·)
 |[],_=>List.pairwise_cons.mpr ⟨λ _ h=>by simp at h,.nil⟩
 |b::l,h=>by
  obtain⟨h1,h2⟩:=List.pairwise_cons.mp h;unfold insI;by_cases e:b<a
  ·rw[if_pos e]
   refine List.pairwise_cons.mpr ⟨λ x hx=>?_,aB8 a l h2⟩;rcases List.mem_cons.mp ((insI_perm a l).mem_iff.mp hx)with q|q
   ·lia
   ·exact h1 x q
  ·rw[if_neg e]
   refine List.pairwise_cons.mpr ⟨λ x hx=>?_,h⟩;rcases List.mem_cons.mp hx with q|q
   ·lia
   ·have:=h1 x q;lia
theorem yj:∀l,(sortI l).Pairwise (·<=·)
 |[]=>.nil
 |a::l=>aB8 a _ (yj l)
theorem iD:∀{us:List Value} {ns:List Int},IntsAre us ns->Vals (ns.map V.int) us
 |_,_,.nil=>.nil
 |_,_,.cons n t r=>.cons ⟨t,rfl⟩ (iD r)
section
variable{X:Cx}
def aCY(K:PySem.W.Frag):List V->Hp->VK->Prop:=λ xs H Q=>∃p ns,xs=[.ref p]/\SqL K H p (ns.map V.int)/\ns.length<64/\New H (.lst ((sortI ns).map V.int)) Q
theorem sJ:dG X (.builtin "sorted") (aCY X.K):=by
 intro pins s σ H xs us Q I r h;obtain⟨p,ns,rfl,hp,h64,q⟩:=h;obtain⟨u,rfl,ru⟩:=vals1 r;cases ru;obtain⟨its,rv,pl,hz⟩:=I.list hp;have hI:IntsAre its ns:=intsAre_of rv;have hlen:its.length<64:=by
  have:=rv.length
  rw[List.length_map]at this;lia
 refine sorted_ints pl.isList hI hlen λ out ns' h1 h2 h3=>?_
 have e:ns'=sortI ns:=PySem.W.ksm_same (h2.trans (sortI_perm ns).symm) h3 (yj ns);subst e;obtain⟨e,he⟩:=sortedAll_at s.heap its out;have hfr:H (s.heap.objs.size+1)=none:=I.hok.fresh (Nat.le_succ _);refine⟨.ref (s.heap.objs.size+1),upd H (s.heap.objs.size+1) (.lst ((sortI ns).map V.int)),I.laid (t':=s.toks) (λ b o q=>sortedAll_old q) (Nat.le_succ _) ?_,rfl,q.at hfr⟩;refine⟨?_,out.toList,e,iD h1,?_⟩
 ·rw[List.length_map,h2.length_eq]
  exact Nat.le_trans (Nat.le_of_lt h64) (by decide)
 ·rw[Array.toArray_toList]
  exact he
theorem dG.or(h1:dG X f r1)(h2:dG X f r2):dG X f λ xs H Q=>r1 xs H Q\/r2 xs H Q:=λ pins s σ H xs us Q I r h=>h.elim (h1 pins s σ H xs us Q I r) (h2 pins s σ H xs us Q I r)
end
def aGx(K:PySem.W.Frag)(r:List V->Hp->VK->Prop)(fd:List D->Rs D):Prop:=∀(A:Addr->Prop) xs ds H (Q:VK) z,Rps K A H xs ds->fd ds= .ok z->(∀v H',aV H H'->Rp K (λ p=>H p=none) H' v z->Q v H')->r xs H Q
theorem aDM{K:PySem.W.Frag}(hs:aGx K r fd)(h1:aI8 K G m ta g):lA K G (some []) (tCB r ta) (opA fd g):=by
 intro τ σ H ρ lab Q R W;refine h1 τ σ H ρ lab _ R (W.bd.imp λ d _ w x H1 s1 r1=>?_);obtain⟨z,ez,w⟩:=w.okD;exact hs (fpM m lab H) x d H1 Q z r1 ez λ v H' s r=>w v H' (s1.trans s) (r.wk λ p o _ q=>.inl (s1.free q))
def gJ:List D->Rs D
 |[.lst l]=>match qM l with
  |some nss=>if nss.length<64 then .ok (.lst ((pU nss).map tupI))else .st
  |none=>match intsOf l with
   |some ns=>if ns.length<64 then .ok (.lst ((sortI ns).map .int))else .st
   |none=>.st
 |_=>.st
theorem aE5{K:PySem.W.Frag}:aGx K (λ xs H Q=>aCX K xs H Q\/aCY K xs H Q) gJ:=by
 intro A xs ds H Q z r ez q;unfold gJ at ez;split at ez
 ·cases r with
  |cons h r=>
   cases r;cases h with
   |lst h m r=>
    split at ez
    ·rename_i nss e
     obtain⟨e1,e2⟩:=uJ e;subst e1;split at ez
     ·rename_i hl
      cases ez;have ht:=aAu r e2;exact .inl ⟨_,_,nss,rfl,SqL.of h,ht,by rw[ht.len];exact hl,aFC ht q⟩
     ·cases ez
    ·split at ez
     ·rename_i ns e
      have e1:=cT e;subst e1;split at ez
      ·rename_i hl
       cases ez;have e2:=r.ints_of;subst e2;exact .inr ⟨_,ns,rfl,SqL.of h,hl,λ p H' s hp hn=>q _ H' s (.lst hp hn .ints)⟩
      ·cases ez
     ·cases ez
 ·cases ez
section
variable{C:Ct}{pos p p2 pos2:Pos}{m:Mode}{a:Expr}{ga:En->Rs (List D)}
theorem je(hm:C.mg "sorted"=none)(ha:SA C m [a] ga)(he:∀i,starEach [a] (C.X i).env=[(false,eval a (C.X i).env)]:=by intro _;rfl)(hg:∀i,Gl (C.X i) "sorted":=by intro _;rfl)(hv:bootBuiltins "sorted"=some (.builtin "sorted"):=by decide+kernel):SE C (some []) (.Call (.Name "sorted" p) [a] [] pos) (opA gJ ga):=by
 obtain⟨t,h1,h2⟩:=ha;refine⟨_,λ i=>rJ (r:=λ xs H Q=>aCX C.K xs H Q\/aCY C.K xs H Q) (by rw[<-C.hK i];exact yU.or sJ) (hg i) (by rw[(C.cx i).2.2.2.1];exact hm) hv (h1 i) (by decide) (by decide) (he i) rfl,aDM aE5 h2⟩
end
def ddI(ns:List Int):List Int:=ns.foldl step_dedup []
theorem aGa(ns:List Int):firstMet (λ i=>ns.getD i 0) ns.length=ddI ns:=by
 unfold firstMet ddI;congr 1;refine List.ext_getElem (by simp) λ i h1 h2=>?_
 rw[List.getElem_map,List.getElem_range,List.getD_eq_getElem?_getD,List.getElem?_eq_getElem h2];rfl
theorem aIX(hl:l.Nodup)(n:Int):(step_dedup l n).Nodup/\∀x,x∈step_dedup l n↔x∈l\/x=n:=by
 unfold step_dedup;by_cases h:l.any (·==n)=true
 ·rw[if_pos h]
  have:n∈l:=by simpa using h
  exact⟨hl,λ x=>⟨.inl,λ q=>q.elim id λ e=>e▸this⟩⟩
 ·rw[if_neg h]
  have:n∉l:=by simpa using h
  refine⟨List.nodup_append.mpr ⟨hl,by simp,λ x hx y hy e=>?_⟩,λ x=>by simp⟩;rw[List.mem_singleton]at hy;subst hy;subst e;exact this hx
theorem aJB:∀(ns acc:List Int),acc.Nodup->(ns.foldl step_dedup acc).Nodup/\∀x,x∈ns.foldl step_dedup acc↔x∈acc\/x∈ns
 |[],acc,h=>⟨h,λ x=>by simp⟩
 |n::ns,acc,h=>by
  obtain⟨h1,h2⟩:=aIX h n;obtain⟨h3,h4⟩:=aJB ns _ h1;refine⟨h3,λ x=>?_⟩;rw[List.foldl_cons,h4,h2,List.mem_cons];constructor
  ·rintro((a|a)|a)
   ·exact .inl a
   ·exact .inr (.inl a)
   ·exact .inr (.inr a)
  ·rintro(a|a|a)
   ·exact .inl (.inl a)
   ·exact .inl (.inr a)
   ·exact .inr a
theorem zM(ns:List Int):(ddI ns).Nodup:=(aJB ns [] (by simp)).1
section
variable{X:Cx}
def aFX(K:PySem.W.Frag):List V->Hp->VK->Prop:=λ xs H Q=>∃p ns,xs=[.ref p]/\(SqL K H p (ns.map V.int)\/SqT K H p (ns.map V.int))/\ns.length<4000/\∀a H',aV H H'->H' a=some (.set (λ k=>(ddI ns).any (·==k)) (ddI ns).length)->H a=none->Q (.ref a) H'
theorem aBA(I:Inv X pins σ H s)(q:∀a H',aV H H'->H' a=some (.set (λ k=>(ddI ns).any (·==k)) (ddI ns).length)->H a=none->Q (.ref a) H')
  (g1:h'.SetOf (intKind X.prog X.w) s.heap.objs.size (λ k'=>(firstMet (λ i=>ns.getD i 0) ns.length).any (·==k')) (firstMet (λ i=>ns.getD i 0) ns.length).length)(g2:∀b o,s.heap.get? b=some o->h'.get? b=some o):EP X pins σ Q (.ref s.heap.objs.size) {s with heap:=h',toks:=tk}:=by
 rw[aGa]at g1;have hfr:H s.heap.objs.size=none:=I.hok.fresh (Nat.le_refl _);exact⟨.ref s.heap.objs.size,upd H s.heap.objs.size (.set (λ k=>(ddI ns).any (·==k)) (ddI ns).length),I.laid (t':=tk) g2 (Nat.le_refl _) g1,rfl,q _ _ (bL hfr _) bA hfr⟩
theorem aAz{s:Shared}{St:Nat->Shared->Prop}(hl:l<s.heap.objs.size)(hi:IntsAre its ns)(hz:ns.length<4000)
  (W:WalksS prog w A.in1 (s.heap.objs.size+1) [s.heap.objs.size+1,l] [s.heap.objs.size+1] (λ a b=>b=a) its.toArray.size (λ i v=>its.toArray[i]? =some v) St)(st:St 0 {s with heap:=(s.heap.push (iI #[] 0 (.fresh 0 0 led))).push oI})
  (R:Result->Shared->Prop)(hR:∀h' tk,h'.SetOf (intKind prog w) s.heap.objs.size (λ k'=>(firstMet (λ i=>ns.getD i 0) ns.length).any (·==k')) (firstMet (λ i=>ns.getD i 0) ns.length).length->(∀b o,s.heap.get? b=some o->h'.get? b=some o)->R (.ok (.ret .none)) {s with heap:=h',toks:=tk}):
  codeAny (model prog w) A (.builtin "set.update.loop" ⟨[.ref s.heap.objs.size,.ref (s.heap.objs.size+1)],[]⟩) R {s with heap:=(s.heap.push (iI #[] 0 (.fresh 0 0 led))).push oI}:=by
 have hlen:its.length=ns.length:=IntsAre.length hi;have hSf:s.heap.objs.size∉[s.heap.objs.size+1,l]:=by
  simp only[List.mem_cons,List.not_mem_nil,or_false,not_or];exact⟨Nat.ne_of_lt (Nat.lt_succ_self _),Nat.ne_of_gt hl⟩
 have hsz:its.toArray.size=ns.length:=by rw[List.size_toArray];exact hlen
 refine PyProof.Rows.codeAny_set_update_loopS W s.heap.objs.size hSf (λ i=>ns.getD i 0) (λ i v hv=>PyProof.Rows.IntsAre.int_at hi i v (by simpa using hv)) (by rw[hsz];unfold scanBound;lia) (its.toArray.size-0) 0 _ (by lia) (Nat.zero_le _) st ?_ λ s' hm hS'=>?_
 ·have hget:((s.heap.push (iI #[] 0 (.fresh 0 0 led))).push oI).get? s.heap.objs.size=some (iI #[] 0 (.fresh 0 0 led)):=Heap.get?_push_of_some _ (Heap.get?_push_size _ rfl)
  exact PyProof.Rows.SetOf_congr ((PyProof.Rows.setObjOf_fresh (knd:=intKind prog w) led).setOf hget (by unfold scanBound;lia)) (λ _=>rfl) rfl
 ·obtain⟨h',g',d',tk',os'⟩:=s'
  have eg:g'=s.gens:=hm.gens;have ed:d'=s.drawn:=hm.drawn;have eo:os'=s.os:=hm.os;subst eg;subst ed;subst eo;rw[hsz]at hS';refine hR h' tk' hS' λ b o e=>hm.heap b o ?_ (Heap.get?_push_of_some _ (Heap.get?_push_of_some _ e))
  have hb:=Heap.lt_size e;simp only[List.mem_cons,List.not_mem_nil,or_false,not_or];exact⟨Nat.ne_of_lt hb,Nat.ne_of_lt (Nat.lt_succ_of_lt hb)⟩
theorem aE8(hc:X.calm=true):dG X (.type "set") (aFX X.K):=by
 intro pins s σ H xs us Q I r h;obtain⟨p,ns,rfl,hp,hz,q⟩:=h;obtain⟨u,rfl,ru⟩:=vals1 r;cases ru;have hh:X.A.in1.in1.in1.handled=none:=I.ok.hd hc;have hsz:∀o:Obj,(s.heap.push o).objs.size=s.heap.objs.size+1:=λ o=>Heap.size_push _ _
 rcases hp with hp|hp
 ·obtain⟨its,rv,pl,_⟩:=I.list hp
  have hI:IntsAre its ns:=intsAre_of rv;have hl0:=pl.isList;obtain⟨ol,hol,hcl,nl,hdl⟩:=pl.isList;have hlS:p<s.heap.objs.size:=Heap.lt_size hol;refine PySem.uh (T:="list") (Φ:=λ h'=>h'.SetOf (intKind X.prog X.w) s.heap.objs.size (λ k'=>(firstMet (λ i=>ns.getD i 0) ns.length).any (·==k')) (firstMet (λ i=>ns.getD i 0) ns.length).length) ⟨ol,hol,hcl⟩ F.sub_list_set F.sub_list_frozenset (by decide)
   (λ h₁ A₁ E₁ Q₁ k q=>wpAny_pyIter_list (s:={s with heap:=h₁}) (items:=its.toArray) ⟨ol,k _ _ hol,hcl,nl,hdl⟩ q) (λ R hR=>?_) λ h' tk g1 g2=>aBA I q g1 g2
  rw[hsz];refine aAz hlS hI hz ((Walks.list hh _ p (Nat.ne_of_lt (Nat.lt_succ_of_lt hlS)) its.toArray).toS) ⟨?_,?_⟩ R hR
  ·have e:=Heap.get?_push_size (s.heap.push (iI #[] 0 (.fresh 0 0 (!X.w.params.followText "set-order")))) (o:={cls:=.type "list_iterator",data:=.fields #[.ref p,.int 0 0]}) rfl
   rw[hsz]at e;exact⟨_,e,rfl,rfl⟩
  ·exact⟨ol,Heap.get?_push_of_some _ (Heap.get?_push_of_some _ hol),hcl,nl,hdl⟩
 ·obtain⟨its,rv,pl,_⟩:=I.tuple hp
  have hI:IntsAre its ns:=intsAre_of rv;obtain⟨ol,hol,hcl,nl,hdl⟩:=id pl;have hlS:p<s.heap.objs.size:=Heap.lt_size hol;refine PySem.uh (T:="tuple") (Φ:=λ h'=>h'.SetOf (intKind X.prog X.w) s.heap.objs.size (λ k'=>(firstMet (λ i=>ns.getD i 0) ns.length).any (·==k')) (firstMet (λ i=>ns.getD i 0) ns.length).length) ⟨ol,hol,hcl⟩ F.sub_tuple_set F.sub_tuple_frozenset (by decide)
   (λ h₁ A₁ E₁ Q₁ k q=>wpAny_pyIter_tuple (s:={s with heap:=h₁}) (items:=its.toArray) ⟨ol,k _ _ hol,hcl,nl,hdl⟩ q) (λ R hR=>?_) λ h' tk g1 g2=>aBA I q g1 g2
  rw[hsz];refine aAz hlS hI hz ((Walks.tuple hh _ p (Nat.ne_of_lt (Nat.lt_succ_of_lt hlS)) its.toArray).toS) ⟨?_,?_⟩ R hR
  ·have e:=Heap.get?_push_size (s.heap.push (iI #[] 0 (.fresh 0 0 (!X.w.params.followText "set-order")))) (o:={cls:=.type "tuple_iterator",data:=.fields #[.ref p,.int 0 0]}) rfl
   rw[hsz]at e;exact⟨_,e,rfl,rfl⟩
  ·exact⟨ol,Heap.get?_push_of_some _ (Heap.get?_push_of_some _ hol),hcl,nl,hdl⟩
theorem aEb:dG X (.builtin "len") (λ xs H Q=>∃p S n,xs=[.ref p]/\H p=some (.set S n)/\Q (.int n) H):=by
 intro pins s σ H xs us Q I r h;obtain⟨p,S,n,rfl,hp,q⟩:=h;obtain⟨u,rfl,ru⟩:=vals1 r;cases ru;obtain⟨o,es,ep,t,ho,hex,hd,_,_,hb,hf,hn⟩:=I.hok p _ hp
 have:(es.size:Int)<2^63:=by unfold scanBound at hb;lia
 refine PySem.call_len_set ho hex hd hf this ⟨.int n,H,(I.tok _).tok _,?_,q⟩;exact⟨_,by rw[hn]⟩
end
theorem aFR{K:PySem.W.Frag}(nd:l.Nodup)(h:H a=some (.set (λ k=>l.any (·==k)) l.length))(m:A a):Rp K A H (.ref a) (.set l):=.set h m (λ i=>by
 rw[Bool.eq_iff_iff];simp) nd
def sZ:List D->Rs D
 |[.lst l]=>match intsOf l with
  |some ns=>if ns.length<4000 then .ok (.set (ddI ns))else .st
  |none=>.st
 |[.tup l]=>match intsOf l with
  |some ns=>if ns.length<4000 then .ok (.set (ddI ns))else .st
  |none=>.st
 |_=>.st
theorem aKg{K:PySem.W.Frag}:aGx K (aFX K) sZ:=by
 intro A xs ds H Q z r ez q;unfold sZ at ez;split at ez
 ·cases r with
  |cons h r=>
   cases r;cases h with
   |lst h m r=>
    split at ez
    ·rename_i ns e
     have e1:=cT e;subst e1;split at ez
     ·rename_i hl
      cases ez;have e2:=r.ints_of;subst e2;exact⟨_,ns,rfl,.inl (SqL.of h),hl,λ a H' s ha hn=>q _ H' s (aFR (zM ns) ha hn)⟩
     ·cases ez
    ·cases ez
 ·cases r with
  |cons h r=>
   cases r;cases h with
   |tup h r=>
    split at ez
    ·rename_i ns e
     have e1:=cT e;subst e1;split at ez
     ·rename_i hl
      cases ez;have e2:=r.ints_of;subst e2;exact⟨_,ns,rfl,.inr h,hl,λ a H' s ha hn=>q _ H' s (aFR (zM ns) ha hn)⟩
     ·cases ez
    ·cases ez
 ·cases ez
def ut:List D->Rs D
 |[.set l]=>.ok (.int l.length)
 |ds=>cO ds
theorem aIZ{K:PySem.W.Frag}:qK K (λ xs H Q=>(∃p ys,xs=[.ref p]/\(SqL K H p ys\/SqT K H p ys)/\Q (.int ys.length) H)\/∃p S n,xs=[.ref p]/\H p=some (.set S n)/\Q (.int n) H) ut:=by
 intro A xs ds H Q z r ez q;unfold ut at ez;split at ez
 ·cases ez
  cases r with
  |cons h r=>
   cases r;cases h with
   |set h m hS nd=>exact .inr ⟨_,_,_,rfl,h,q _ H (aV.refl H) (.int _)⟩
 ·exact .inl (aGe A xs _ H Q z r ez q)
theorem aGR:∀x z,ut x= .ok z->imm z=true:=by
 intro x z e;unfold ut at e;split at e
 ·cases e;rfl
 ·exact aDf _ _ e
section
variable{C:Ct}{pos p:Pos}{m:Mode}{a:Expr}{ga:En->Rs (List D)}
theorem aFL(hm:C.mg "set"=none)(ha:SA C m [a] ga)(he:∀i,starEach [a] (C.X i).env=[(false,eval a (C.X i).env)]:=by intro _;rfl)(hg:∀i,Gl (C.X i) "set":=by intro _;rfl)(hv:bootBuiltins "set"=some (.type "set"):=by decide+kernel):SE C (some []) (.Call (.Name "set" p) [a] [] pos) (opA sZ ga):=by
 obtain⟨t,h1,h2⟩:=ha;refine⟨_,λ i=>pC (r:=aFX C.K) (by rw[<-C.hK i];exact aE8 (C.calm i)) (hg i) (by rw[(C.cx i).2.2.2.1];exact hm) hv (h1 i) (by decide) (by decide) (he i) rfl,aDM aKg h2⟩
theorem aDP(hm:C.mg "len"=none)(ha:SA C m [a] ga)(he:∀i,starEach [a] (C.X i).env=[(false,eval a (C.X i).env)]:=by intro _;rfl)(hg:∀i,Gl (C.X i) "len":=by intro _;rfl):SE C (some []) (.Call (.Name "len" p) [a] [] pos) (opA ut ga):=
 gQ (lW (λ i=>by have h:=(sO (X:=C.X i)).or aEb;rw[C.hK i]at h;exact h) aIZ hg hm PySem.boot_len ha (by decide) (by decide) he) λ _ _ h=>pJ aGR h
end
section
variable{K:PySem.W.Frag}{G:Gx}{wi:TI}{fi:En->Rs (List D)}{g:TG}{fg:D->En->Rs En}{tt:TT}
theorem aJS(hi:aGp K G wi fi)(hg:aGq K {G with E:=λ _ _ _=>False} g fg)(hfg:∀d,∃ρ1,fg d [.no]= .ok ρ1)(ht:aBs K {G with E:=λ _ _ _=>False} tt cz)(R:RR K G τ ρ σ H lab)
  (W:WR G (fi (shE ρ)) (λ ds=>ds.length<sizeLine/\∀(l:Addr) (as:List Addr) H',aV H H'->H l=none->H' l=some (.lst (as.map V.ref))->(l::as).Nodup->as.length=ds.length->(∀a∈as,H a=none/\H' a=some (.lst []))->Q (.ref l) H')):
  tLC wi (stV [none]) g tt (aEx rB) σ H Q:=by
 refine hi τ σ H _ _ _ R.shE (W.imp λ ds _ w J H1 lab1 τ1 s1 _ R1 jl=>?_);obtain⟨hlen,w⟩:=w;intro l hl;have hHl:H l=none:=s1.free hl;have nl:∀p o,H1 p=some o->p≠l:=λ p o e z=>by subst z;rw[hl]at e;cases e
 have RB:RR K {G with E:=λ _ _ _=>False} (τ1++τ) [.no] (stV [none] σ) H1 (λ p=>if p=l then(2,0)else(0,0)):=by
  refine⟨rfl,λ i s e=>?_,R1.old,λ p hp=>?_,λ q hq=>(R1.tm q hq).wk λ p o e _=>by rw[if_neg (nl p o e)];exact Nat.zero_le _⟩
  ·match i,e with
   |0,e=>cases e;exact .inl rfl
   |i+1,e=>simp at e
  ·by_cases z:p=l
   ·subst z;exact R1.old.free hl
   ·exact absurd (show(if p=l then((2,0):Nat×Nat)else(0,0)).1=0 by rw[if_neg z]) hp
 have labl:¬((λ p=>if p=l then((2,0):Nat×Nat)else(0,0)) l).1<=1:=by simp
 refine⟨λ i n acc H2=>∃as:List Addr,n=ds.length-i/\i<=ds.length/\acc=as.map V.ref/\H2 l=some (.lst acc)/\RR K {G with E:=λ _ _ _=>False} (τ1++τ) [.no] (stV [none] σ) H2 (λ p=>if p=l then(2,0)else(0,0))/\aV H H2/\as.length=i/\(l::as).Nodup/\∀a∈as,H a=none/\H2 a=some (.lst []),
  ⟨ds.length,[],by omega,by omega,rfl,bA,RB.up (bL hl _),s1.trans (bL hl _),rfl,by simp,λ a h=>by simp at h⟩,?_⟩
 rintro i n acc H2 ⟨as,rfl,hi',rfl,hH2,R2,s2,hlen2,hnd,hal⟩;refine⟨hH2,by rw[List.length_map];omega,?_⟩;have jj:=jl _ H2 λ q hq=>R2.tm q (List.mem_append_left _ hq)
 by_cases hlt:i<ds.length
 ·obtain⟨go,yl⟩:=(jj i).2 hlt
  refine .inr ⟨go,λ x H3 hy=>?_⟩;obtain⟨s3,d,ed,rx⟩:=yl x H3 hy;replace R2:=R2.up s3;replace hH2:=s3 _ _ hH2;replace s2:=s2.trans s3;replace hal:=λ a ha=>(⟨(hal a ha).1,s3 _ _ (hal a ha).2⟩:H a=none/\H3 a=some (.lst []))
  obtain⟨ρ1,e1⟩:=hfg d;refine hg (τ1++τ) x d _ H3 _ _ _ ρ1 R2 rx e1 λ σ4 R4=>?_
  refine ht (τ1++τ) σ4 H3 ρ1 _ _ R4 λ H5 s5=>?_
  rw[if_pos rfl];refine⟨Nat.zero_le _,λ p H6 s6 hp hn=>?_⟩;have hl6:H6 l=some (.lst (as.map V.ref)):=s6 _ _ (s5 _ _ hH2);have hpl:p≠l:=λ z=>by subst z;rw[s5 _ _ hH2]at hn;cases hn
  have hpa:p∉as:=λ z=>by
   have:=s5 _ _ (hal p z).2
   rw[hn]at this;cases this
  have hpH:H p=none:=(s2.trans s5).free hn;have B:mW l H6 (upd H6 l (.lst (as.map V.ref++[.ref p]))):=λ b o ne hb=>by rw[aZ ne];exact hb
  refine⟨hl6,ds.length-(i+1),by omega,as++[p],rfl,hlt,by rw[List.map_append];rfl,bA,?_,?_,by rw[List.length_append];simp;omega,?_,λ a ha=>?_⟩
  ·have R6:=R2.up (s5.trans s6)
   refine⟨R6.len,λ j s e=>?_,λ b o hb=>?_,R6.new,λ q hq=>(R6.tm q hq).but B hl6 rfl labl⟩
   ·match j,e with
    |0,e=>cases e;exact .inl rfl
    |j+1,e=>simp at e
   ·exact B b o (λ z=>by subst z;rw[R1.old.free hl]at hb;cases hb) (R6.old b o hb)
  ·exact λ b o hb=>B b o (λ z=>by subst z;rw[hHl]at hb;cases hb) (((s2.trans s5).trans s6) b o hb)
  ·obtain⟨n1,n2⟩:=List.nodup_cons.mp hnd
   refine List.nodup_cons.mpr ⟨λ z=>?_,List.nodup_append.mpr ⟨n2,by simp,λ x hx y hy e=>?_⟩⟩
   ·rcases List.mem_append.mp z with z|z
    ·exact n1 z
    ·exact hpl (List.mem_singleton.mp z).symm
   ·rw[List.mem_singleton]at hy
    subst hy;subst e;exact hpa hx
  ·rcases List.mem_append.mp ha with z|z
   ·refine⟨(hal a z).1,?_⟩
    rw[aZ λ q=>by subst q;exact(List.nodup_cons.mp hnd).1 z];exact s6 _ _ (s5 _ _ (hal a z).2)
   ·rw[List.mem_singleton]at z
    subst z;exact⟨hpH,by rw[aZ hpl];exact hp⟩
 ·have ei:i=ds.length:=by omega
  exact .inl ⟨by rw[ei];exact(jj _).1 (Nat.le_refl _),w l as H2 s2 hHl hH2 hnd (by omega) hal⟩
end
section
variable{C:Ct}{pos lpos:Pos}{tg iter:Expr}{sc:Scope}{N:List Str}{js:List (Option Nat)}{ks:List Nat}{fi:En->Rs (List D)}{fg:D->En->Rs En}
def llS(i:Nat)(fi:En->Rs (List D))(js:List (Option Nat))(fg:D->En->Rs En):En->Ou:=λ ρ=>(fi (shE ρ)).bo λ ds=>if ds.length<sizeLine then .nx (ρ.set i (.o2 (List.replicate ds.length [])))else .st
theorem aIj(hi:SI C tg iter fi)(hg:SG (C.blk sc N) tg ks fg)(hj:js=[none]:=by rfl)(hfg:∀d,∃ρ1,fg d [.no]= .ok ρ1:=by intro _;exact⟨_,rfl⟩)(hN:∀j,(C.X j).N[i]? =some x:=by intro _;rfl)(hx:∀j,Loc (C.X j).env.scope x:=by intro _;first|exact Or.inl rfl|exact Or.inr rfl)(hsw:∀j,swapsWith (.ListComp (.List [] lpos) [⟨tg,iter,[],0⟩] sc pos) (some (.Name x pos')) spos.line (C.X j).env=pure true:=by intro _;rfl)(hs:∀i x,foldedSetIterable iter (C.X i).env x=pure x:=by intro _ _;rfl)(hf:∀j,(C.X j).fn x=true\/(C.X j).env.scope.names.lookup x=some .local:=by intro _;first|exact .inl rfl|exact .inr rfl)(nd:∀j,(C.X j).N.Nodup:=by intro _;assumption)(hB:∀i,fZ (C.X i) sc N (stV js) ks:=by intro _;exact aAn rfl rfl rfl rfl rfl rfl):
  SS C (.Assign [.Name x pos'] (.ListComp (.List [] lpos) [⟨tg,iter,[],0⟩] sc pos) spos) (llS i fi js fg):=by
 subst hj;obtain⟨wi,i1,i2⟩:=hi;obtain⟨g,g1,g2,g3,g4⟩:=hg;obtain⟨tt,t1,t2⟩:=lM (C:=C.blk sc N);refine⟨_,λ j=>aBQ (nd j) (hN j) (hx j) (hB j) (C.calm j) (i1 j) (λ c fp s₀ H₀=>g1 (j,c,fp,s₀,H₀)) g3 (λ c fp s₀ H₀=>t1 (j,c,fp,s₀,H₀)) (λ c fp s₀ H₀=>nF dU) (hsw j) (hs j) (hf j),λ τ σ H ρ lab De R W=>?_⟩;refine aJS i2 g2 hfg t2 R (W.bo.imp λ ds _ w=>?_);by_cases hl:ds.length<sizeLine
 ·rw[if_pos hl]at w
  refine⟨hl,λ l as H' s hn hH hnd hlen hal=>?_⟩;have hlab:∀p o,H p=some o->(λ p=>if p=l then(i+2,0)else if p∈as then(i+2,as.idxOf p+1)else cJ H 1 lab p) p=lab p:=λ p o e=>by
   dsimp only;have z1:p≠l:=λ z=>by subst z;rw[hn]at e;cases e
   have z2:p∉as:=λ z=>by rw[(hal p z).1]at e;cases e
   rw[if_neg z1,if_neg z2,bc e]
  have R':RR C.K C.G τ ρ σ H' (λ p=>if p=l then(i+2,0)else if p∈as then(i+2,as.idxOf p+1)else cJ H 1 lab p):=by
   refine(R.relab hlab λ p hp=>?_).up s;cases e:H p with
   |none=>exact R.old.free e
   |some o=>
    have:=hlab p o e
    dsimp only at this hp;rw[this]at hp;exact R.new p hp
  refine w _ _ _ (R'.put (s:=.o2 (List.replicate ds.length [])) ⟨l,as.map V.ref,rfl,hH,by dsimp only;rw[if_pos rfl],by rw[List.length_map,List.length_replicate];exact hlen,λ j x es e1 e2=>?_⟩);rw[List.getElem?_map,Option.map_eq_some_iff]at e1;obtain⟨a,e1,rfl⟩:=e1;have ees:es=[]:=by
   rw[List.getElem?_replicate]at e2;split at e2
   ·cases e2;rfl
   ·cases e2
  subst ees;have ha:a∈as:=List.mem_of_getElem? e1;have hla:a≠l:=λ z=>by subst z;exact(List.nodup_cons.mp hnd).1 ha
  have hj2:j<as.length:=(List.getElem?_eq_some_iff.mp e1).1;refine .lst (hal a ha).2 ?_ .nil
  show(if a=l then(i+2,0)else if a∈as then(i+2,as.idxOf a+1)else cJ H 1 lab a)=(i+2,j+1)
  rw[if_neg hla,if_pos ha];have hix:as.idxOf a<as.length:=List.idxOf_lt_length_iff.mpr ha
  have:as[as.idxOf a]? =some a:=by rw[List.getElem?_eq_getElem hix];exact congrArg some (List.getElem_idxOf hix)
  have:=(List.getElem?_inj hix (List.nodup_cons.mp hnd).2).mp (this.trans e1.symm)
  rw[this]
 ·rw[if_neg hl]at w
  exact False.elim w
end
section
variable{C:Ct}{pos apos cpos p:Pos}{e e1 e2:Expr}{fe f1 f2:En->Rs D}{i:Nat}{x:Str}{m m1:Mode}
end
section
variable{C:Ct}{pos p:Pos}{a:Expr}{ga:En->Rs (List D)}{m:Mode}
end
theorem tR:∀{us:List α},us.length=1->∃a0,us=[a0]
 |[a0],_=>⟨a0,rfl⟩
theorem qj:∀{us:List α},us.length=2->∃a0 a1,us=[a0,a1]
 |[a0,a1],_=>⟨a0,a1,rfl⟩
theorem aL4:∀{us:List α},us.length=3->∃a0 a1 a2,us=[a0,a1,a2]
 |[a0,a1,a2],_=>⟨a0,a1,a2,rfl⟩
theorem aLz:∀{us:List α},us.length=4->∃a0 a1 a2 a3,us=[a0,a1,a2,a3]
 |[a0,a1,a2,a3],_=>⟨a0,a1,a2,a3,rfl⟩
theorem aER:∀{us:List α},us.length=6->∃a0 a1 a2 a3 a4 a5,us=[a0,a1,a2,a3,a4,a5]
 |[a0,a1,a2,a3,a4,a5],_=>⟨a0,a1,a2,a3,a4,a5,rfl⟩
section
variable{K:PySem.W.Frag}{G:Gx}{wi:TI}{fi:En->Rs (List D)}{js:List (Option Nat)}{g:TG}{fg:D->En->Rs En}{tt:TT}{ft:En->Rs Bool}{te:TE}{fe:En->Rs D}
end
section
variable{C:Ct}{pos:Pos}{elt tg iter:Expr}{ifs:List Expr}{sc:Scope}{N:List Str}{js:List (Option Nat)}{ks:List Nat}{fi:En->Rs (List D)}{fg:D->En->Rs En}{ft:En->Rs Bool}{fe:En->Rs D}
end
section
variable{C:Ct}{pos apos cpos p:Pos}{e a:Expr}{fe fa:En->Rs D}{i:Nat}{x:Str}{m:Mode}
end
section
variable{C:Ct}{pos tpos p:Pos}{ek e:Expr}{fk fe:En->Rs D}{x:Str}{m m1:Mode}{op:Operator}{g:Int->Int->Int}
end
def qC(j:Int):List Int:=(List.range j.toNat).map λ(k:Nat)=>0+(k:Int)
def aLQ:List V->Hp->VK->Prop:=λ xs H Q=>∃j:Int,xs=[.int j]/\∀p,H p=none->Q (.ref p) (upd H p (.rng 0 j))
theorem aGj:dG X (.type "range") aLQ:=by
 intro pins s σ H vs us Q I rv h;obtain⟨j,rfl,q⟩:=h;obtain⟨u,rfl,ru⟩:=rv.one;obtain⟨t,rfl⟩:=ru;exact call_range_1 ⟨.ref s.heap.objs.size,_,I.laid (a:=s.heap.objs.size) (o:=.rng 0 j) (t':=s.toks+1+1) (λ _ _ q=>Heap.get?_push_of_some _ q) (Nat.le_refl _) ⟨_,_,_,Heap.get?_push_size _ rfl⟩,rfl,q _ (I.hok.fresh (Nat.le_refl _))⟩
def aBO:List V->Hp->VK->Prop:=λ xs H Q=>∃(p:Addr) (j:Int),xs=[.ref p]/\H p=some (.rng 0 j)/\-(2^62)<=j/\j<=10000/\∀l H',aV H H'->H l=none->H' l=some (.lst ((qC j).map V.int))->Q (.ref l) H'
theorem aHC:∀{ns:List Int} {us:List Value},ns.length=us.length->(∀(k:Nat) i,ns[k]? =some i->∃tk,us[k]? =some (.int i tk))->Vals (ns.map V.int) us:=by
 intro ns;induction ns with
 |nil=>intro us hl _;rw[List.eq_nil_of_length_eq_zero hl.symm];exact .nil
 |cons n ns ih=>
  intro us hl h;obtain⟨tk,e⟩:=h 0 n rfl;cases us with
  |nil=>cases e
  |cons u us=>
   have e':u= .int n tk:=Option.some.inj e;subst e';exact .cons ⟨tk,rfl⟩ (ih (Nat.succ.inj hl) λ k i hi=>h (k+1) i hi)
theorem aAl(hc:X.calm=true):dG X (.type "list") aBO:=by
 intro pins s σ H vs us Q I rv h;obtain⟨p,j,rfl,hp,h1,h2,q⟩:=h;obtain⟨u,rfl,ru⟩:=rv.one;cases ru;obtain⟨t,u,v,hg⟩:=I.hok p _ hp;have hsz:Builtin.Range.rangeSize 0 j 1=(j.toNat:Int):=by
  unfold Builtin.Range.rangeSize;simp only[show(1:Int)>0 by decide,if_true];split<;>lia
 refine call_list_range (n:=j.toNat) (I.ok.hd hc) hg ?_ hsz (by lia) λ h' tk acc c' hk hS hacc=>?_
 ·have fl:∀x:Int,-(2^62)<=x->x<=2^62->Builtin.Range.rangeFitsLong x=true:=λ x hx1 hx2=>by
   unfold Builtin.Range.rangeFitsLong;simp;lia
  unfold Builtin.Range.small;rw[hsz,fl 0 (by lia) (by lia),fl j (by lia) (by lia),fl 1 (by lia) (by lia),fl _ (by lia) (by lia),if_pos (by decide),fl (j+(1-1)) (by lia) (by lia),Bool.or_true];rfl
 ·have hfr:=I.hok.fresh (Nat.le_refl s.heap.objs.size)
  have hv:Vals ((qC j).map V.int) acc.toList:=by
   have hl:(qC j).length=acc.toList.length:=by rw[show acc.toList.length=acc.size from Array.length_toList,hacc.1];simp[qC]
   refine aHC hl λ k i hi=>?_
   have hk2:k<acc.size:=by rw[hacc.1];have:=(List.getElem?_eq_some_iff.mp hi).1;simpa[qC]using this
   obtain⟨tk,e⟩:=hacc.2 k acc[k] (Array.getElem?_eq_getElem hk2);refine⟨tk,?_⟩;have ei:i=0+(k:Int)*1:=by
    unfold qC at hi;rw[List.getElem?_map]at hi;cases c:(List.range j.toNat)[k]? with
    |none=>rw[c]at hi;cases hi
    |some m=>
     rw[c]at hi;cases hi
     have:=List.getElem?_eq_some_iff.mp c
     have:m=k:=by simpa using this.2.symm
     subst this
     show(0:Int)+(m:Int)=0+(m:Int)*1
     lia
   rw[ei,<-e];simp[hk2]
  refine⟨.ref s.heap.objs.size,upd H s.heap.objs.size (.lst ((qC j).map V.int)),I.laid (t':=tk) hk (Nat.le_refl _) ⟨?_,acc.toList,c',hv,by simpa using hS⟩,rfl,q _ _ (bL hfr _) hfr bA⟩;simp[qC]
  have:sizeLine=16777216:=sizeLine_eq
  lia
def lrR:D->Rs D
 | .int j=>if -(2^62)<=j/\j<=10000 then .ok (.lst (di 0 j))else .st
 |_=>.st
def lrD(fa:En->Rs D):En->Rs D:=λ ρ=>(fa ρ).bd lrR
theorem yp(j:Int):di 0 j=(qC j).map D.int:=by
 unfold di qC;rw[List.map_map,Int.sub_zero];rfl
section
variable{C:Ct}{pos pos2 p p2:Pos}{a:Expr}{fa:En->Rs D}{m:Mode}
theorem qT(hmL:C.mg "list"=none)(hmR:C.mg "range"=none)(ha:SE C m a fa)(hs:∀i,starEach [a] (C.X i).env=[(false,eval a (C.X i).env)]:=by intro _;rfl)(hs2:∀i,starEach [.Call (.Name "range" p2) [a] [] pos2] (C.X i).env=[(false,eval (.Call (.Name "range" p2) [a] [] pos2) (C.X i).env)]:=by intro _;rfl)(hgL:∀i,Gl (C.X i) "list":=by intro _;rfl)(hvL:bootBuiltins "list"=some (.type "list"):=by decide+kernel)(hgR:∀i,Gl (C.X i) "range":=by intro _;rfl):SE C (some []) (.Call (.Name "list" p) [.Call (.Name "range" p2) [a] [] pos2] [] pos) (lrD fa):=by
 obtain⟨t,h1,h2⟩:=ha;refine⟨tCB aBO (jo (tCB aLQ (jo t rB)) rB),λ i=>pC (aAl (C.calm i)) (hgL i) (by rw[(C.cx i).2.2.2.1];exact hmL) hvL (az (pC aGj (hgR i) (by rw[(C.cx i).2.2.2.1];exact hmR) boot_range (az (h1 i) dU (hs i)) (by decide) (by decide) (hs i) rfl) dU (hs2 i)) (by decide) (by decide) (hs2 i) rfl,λ τ σ H ρ lab Q R W=>?_⟩;refine h2 τ σ H ρ lab _ R (W.bd.imp λ d _ w y H1 s1 r1=>?_);unfold lrR at w;split at w
 ·rename_i j _
  by_cases hz: -(2^62)<=j/\j<=10000
  ·rw[if_pos hz]at w
   have ey:=r1.int_inv;subst ey;refine⟨j,rfl,λ q hq=>⟨q,j,rfl,bA,hz.1,hz.2,λ l H' s' hl hH'=>?_⟩⟩;have s0:=(s1.trans (bL hq _)).trans s';have hlH:H l=none:=(s1.trans (bL hq _)).free hl;refine w _ H' s0 (.lst hH' (.inl hlH) ?_);rw[yp];exact Rps.ints
  ·rw[if_neg hz]at w
   exact False.elim w
 ·exact False.elim w
end
def aKn(ρ:En)(i:Nat)(ds:List Int):D->Ou
 | .int z=>if ds.length<4000 then .nx (ρ.set i (.ow (.set (step_dedup ds z))))else .st
 |_=>.st
section
variable{C:Ct}{pos apos cpos p:Pos}{e a:Expr}{fe fa:En->Rs D}{i:Nat}{x:Str}{m:Mode}
end
section
variable{C:Ct}{pos p:Pos}{a b:Expr}{fa fb:En->Rs D}{m1 m2:Mode}
end
section
variable{prog:Program}{w:World}{A:Around}{E:Value->Shared->Prop}{s:Shared}{r:Addr}{a b c:Int}{t u v:Tok}{n:Nat}
end
section
variable{C:Ct}{pos pos2 p p2:Pos}{a:Expr}{fa:En->Rs D}{m:Mode}
end
section
variable{prog:Program}{w:World}{A:Around}{E:Value->Shared->Prop}{s:Shared}{it t:Addr}{i:Nat}{items:Array Value}
theorem qi(hit:s.heap.IsTupleIter it t i)(ht:s.heap.IsTuple t items)(hx:items[i]? =some x)
  (hQ:∀h',h'.IsTupleIter it t (i+1)->Heap.SameBut it s.heap h'->Q x {s with heap:=h'}):wpAny (model prog w) A (Builtin.SmallTypes.nextOf (.ref it)) Q E s:=by
 obtain⟨o,ho,hc,hd⟩:=id hit;obtain⟨ol,hol,_,nl,hdl⟩:=ht;unfold Builtin.SmallTypes.nextOf;refine wpAny_bind (wpAny_callSpecial?_slot (name:=Str.ofString "__next__") hit.typeIs F.slot_tuple_iterator_next (wpAny_call_entry F.slot_tuple_iterator_next hit.typeIs F.entry_tuple_iterator_next ?_ (F.args_tuple_iterator_next_1 _)));show wpAny _ _ (field (.ref it) 0>>=_) _ _ s;refine wpAny_bind (wpAny_field ho hd (x:=.ref t) rfl ?_);show wpAny _ _ (if (Value.ref t==Value.none)=true then _ else _) _ _ s;rw[if_neg (show¬((Value.ref t==Value.none)=true)from Bool.false_ne_true)];show wpAny _ _ (field (.ref it) 1>>=_) _ _ s;refine wpAny_bind (wpAny_field ho hd (x:=.int i 0) rfl ?_);show wpAny _ _ (seqItems? (.ref t)>>=_) _ _ s;refine wpAny_bind (wpAny_seqItems hol hdl ?_);simp only[Int.toNat_natCast,hx];refine wpAny_bind (wpAny_setField ho hd (by simp) (wpAny_pure ⟨x,rfl,wpAny_pure (hQ _ ⟨_,Heap.get?_update_self _ ho (Obj.isFreed_of_fields (Obj.data_mapFields hd _)),(Obj.cls_mapFields ..).trans hc,by rw[Obj.data_mapFields hd];simp[rawInt]⟩ (Heap.SameBut.update ..))⟩))
theorem yu(hh:A.handled=none)(hit:s.heap.IsTupleIter it t i)(ht:s.heap.IsTuple t items)(hx:items[i]? =none)
  (hE:∀h' e,Heap.ExtBut it s.heap h'->(∃o,h'.get? e=some o/\o.cls= .type "StopIteration")->E (.ref e) {s with heap:=h'}):wpAny (model prog w) A (Builtin.SmallTypes.nextOf (.ref it)) Q E s:=by
 obtain⟨o,ho,hc,hd⟩:=id hit;obtain⟨ol,hol,_,nl,hdl⟩:=ht;unfold Builtin.SmallTypes.nextOf;refine wpAny_bind (wpAny_callSpecial?_slot (name:=Str.ofString "__next__") hit.typeIs F.slot_tuple_iterator_next (wpAny_call_entry F.slot_tuple_iterator_next hit.typeIs F.entry_tuple_iterator_next ?_ (F.args_tuple_iterator_next_1 _)));show wpAny _ _ (field (.ref it) 0>>=_) _ _ s;refine wpAny_bind (wpAny_field ho hd (x:=.ref t) rfl ?_);show wpAny _ _ (if (Value.ref t==Value.none)=true then _ else _) _ _ s;rw[if_neg (show¬((Value.ref t==Value.none)=true)from Bool.false_ne_true)];show wpAny _ _ (field (.ref it) 1>>=_) _ _ s;refine wpAny_bind (wpAny_field ho hd (x:=.int i 0) rfl ?_);show wpAny _ _ (seqItems? (.ref t)>>=_) _ _ s;refine wpAny_bind (wpAny_seqItems hol hdl ?_);simp only[Int.toNat_natCast,hx];refine wpAny_bind (wpAny_rule (wpAny_bind (wpAny_setField ho hd (by simp) ?_)));show wpAny _ _ (newExc (.type "StopIteration") []>>=_) _ _ _;refine wpAny_bind ?_;simp only[newExc,newTuple];refine wpAny_bind (wpAny_newObj_type ?_ (by size_fits));refine wpAny_bind (m:=firstArgMember _ _) (wpAny_of_eq (a:=Value.none) (by simp only[firstArgMember];rfl) ?_);refine wpAny_newObj_type ?_ (by size_fits);simp only[raiseNew];refine wpAny_bind (wpAny_handled ?_);first|rw[show A.in1.handled=none from hh]|rw[hh]
 refine wpAny_bind (wpAny_pure (wpAny_throw ?_));exact hE _ _ (((Heap.SameBut.update ..).extBut.push _).push _) ⟨_,Heap.get?_push_size _ rfl,rfl⟩
end
theorem aGM{X:Cx}{pins:List (Addr×Obj)}{σ:List (Option V)}{H:Hp}{s:Shared}{h':Heap}{ch:List Addr}{p t':Nat}{o:HO}(I:Inv X pins σ H s)(hf:∀b∈ch,pQ X pins H b)(k:∀b u,b∉ch->s.heap.get? b=some u->h'.get? b=some u)
  (hp:s.heap.objs.size<=p)(new:dZ X.prog X.w (upd H p o) h' p o):Inv X pins σ (upd H p o) {s with heap:=h',toks:=t'}:=by
 have hn:=I.hok.fresh hp;have nch:∀b u,H b=some u->b∉ch:=λ b u e z=>by have:=(hf b z).1;rw[e]at this;cases this
 refine I.call (g':=s.gens) (d':=s.drawn) (ch:=ch) ⟨λ b u q _ _ hx=>k b u hx q,λ b u q _ _ hx=>⟨u.slots,k b u hx q⟩,λ b u q n _=>?_,λ b u q hx=>⟨u,k b u hx q⟩,λ b xs q=>?_,λ b u xs q=>?_,λ b ps q=>⟨#[],?_⟩⟩ (λ b u e=>?_) I.bare
  λ b hb=>let⟨_,f1,_,f3,f4,f5⟩:=hf b hb;⟨f3,f1,f4,f5⟩
 ·rw[aZ (Nat.ne_of_lt (Nat.lt_of_lt_of_le (Heap.lt_size q) hp))];exact n
 ·rw[aZ (bU q hn)];exact q
 ·rw[aZ (bU q hn)];exact q
 ·rw[aZ (bU q hn),q];simp
 ·by_cases hb:b=p
  ·subst hb;rw[bA]at e;cases e;exact new
  ·rw[aZ hb]at e
   refine(I.hok b u e).stay (λ c v hc q=>k c v ?_ q) (λ c q=>by rw[aZ (bU q hn)];exact q) λ c xs q=>by rw[aZ (bU q hn)];exact q
   rcases hc with rfl|hc
   ·exact nch _ _ e
   ·exact nch _ _ hc
section
variable{C:Ct}{m:Mode}{a:Expr}{ga:En->Rs (List D)}{elts:List Expr}{x1:Nat}{ps p pos:Pos}
end
abbrev Ent:=List Int×Addr×V
section
variable{X:Cx}{pins:List (Addr×Obj)}{σ:L2.St}{H:Hp}{s:Shared}{a b:Addr}{k:List Int}{es:List Ent}
end
section
variable{C:Ct}{m1 m2:Mode}{a b:Expr}{fa fb:En->Rs D}{pos:Pos}
end
section
variable{K:PySem.W.Frag}{G:Gx}{wi:TI}{fi:En->Rs (List D)}{js:List (Option Nat)}{g:TG}{fg:D->En->Rs En}{tt:TT}{ft:En->Rs Bool}{tk tv:TE}{fk fv:En->Rs D}
end
section
variable{C:Ct}{pos:Pos}{kx vx tg iter:Expr}{ifs:List Expr}{sc:Scope}{N:List Str}{js:List (Option Nat)}{ks:List Nat}{fi:En->Rs (List D)}{fg:D->En->Rs En}{ft:En->Rs Bool}{fk fv:En->Rs D}
end
section
variable{prog:Program}{w:World}{A:Around}{E:Value->Shared->Prop}{s:Shared}{a:Addr}{led:Bool}{ks:List Int}
end
section
variable{X:Cx}
theorem ints_of:∀(tks:List (Int×Tok)),IntsAre (tks.map λ p=>Value.int p.1 p.2) (tks.map (·.1))
 |[]=>.nil
 |p::r=>.cons _ _ (ints_of r)
end
section
variable{C:Ct}{pos pos2 p p2:Pos}{m:Mode}{a:Expr}{ga:En->Rs (List D)}
end
theorem Rp.fn_inv{K:PySem.W.Frag}(r:Rp K A H v (.fn x)):∃a,v= .ref a/\PySem.W.nsIn K mainGlobals x=some (some (.ref a)):=by cases r with|fn h=>exact⟨_,rfl,h⟩
structure FnAt(C:Ct)(n:Nat)(x:Str)(F:List D->Rs D):Prop where
 ex:∃(fn:Addr) (fd:FuncData) (ps:List Str) (k:Nat),cg C.prog C.w C.K C.mg C.base (CX1 C.prog C.w) k fn fd ps (spF C.K C.G.cl n F)/\k<=C.k/\PySem.W.nsIn C.K mainGlobals x=some (some (.ref fn))/\PySem.W.keepIn C.K (.ref fn)=true/\Binds C.K fd ps []
abbrev aEg:=List (Str×(List D->Rs D))
def Tab(C:Ct)(n:Nat)(tab:aEg):Prop:=∀q∈tab,FnAt C n q.1 q.2
theorem aHE:Tab C n []:=λ q hq=>by cases hq
theorem vY(hF:cg C.prog C.w C.K C.mg C.base (CX1 C.prog C.w) k fn fd ps (spF C.K C.G.cl n F))(hr:k<=C.k)(hn:PySem.W.nsIn C.K mainGlobals x=some (some (.ref fn)))
  (hk:PySem.W.keepIn C.K (.ref fn)=true)(hb:Binds C.K fd ps [])(h:Tab C n tab):Tab C n ((x,F)::tab):=λ q hq=>by
 rcases List.mem_cons.mp hq with rfl|hq
 ·exact⟨fn,fd,ps,k,hF,hr,hn,hk,hb⟩
 ·exact h q hq
def fnOf(tab:aEg):Rs D->Option (List D->Rs D)
 | .ok (.fn x)=>tab.lookup x
 |_=>none
def aBm(tab:aEg)(i:Nat)(ga:En->Rs (List D)):En->Rs D:=λ ρ=>match fnOf tab (aD i ρ)with
 |some F=>aM F ga ρ
 |none=>.st
theorem aE4(h:fnOf tab r=some F):∃x,r= .ok (.fn x)/\tab.lookup x=some F:=by
 unfold fnOf at h;split at h
 ·exact⟨_,rfl,h⟩
 ·cases h
def aJP(K:PySem.W.Frag)(cl:Str->Addr)(n:Nat)(E:XK)(tab:aEg)(i:Nat)(t:TA):TE:=λ σ H Q=>∃f x F,σ[i]? =some (some (.ref f))/\(x,F)∈tab/\PySem.W.nsIn K mainGlobals x=some (some (.ref f))/\yd (spF K cl n F) [] E t σ H Q
theorem lookup_mem{tab:aEg}(h:tab.lookup x=some F):(x,F)∈tab:=by
 induction tab with
 |nil=>cases h
 |cons q tab ih=>
  obtain⟨y,G⟩:=q;rw[List.lookup_cons]at h;by_cases e:x==y
  ·simp only[e]at h
   cases h;rw[eq_of_beq e];exact List.mem_cons_self
  ·simp only[e]at h
   exact List.mem_cons_of_mem _ (ih h)
section
variable{C:Ct}{m:Mode}{e:Expr}{es:List Expr}{ga:En->Rs (List D)}{pos p:Pos}{n i:Nat}{y:Str}{tab:aEg}
theorem aFN(hT:Tab C n tab)(ha:SA C m (e::es) ga)(hn:∀ρ ds,ga ρ= .ok ds->ds.length=n)(hN:∀j,(C.X j).N[i]? =some y:=by intro _;rfl)(hv:∀j,Vis (C.X j).env.scope y:=by intro _;first|exact Or.inl rfl|exact Or.inr (Or.inl rfl)|exact Or.inr (Or.inr rfl))
  (hd:(y==("__debug__":Str))=false:=by decide)(hcd:(y==("__classdict__":Str))=false:=by decide)(he:∀i,starEach (e::es) (C.X i).env=(false,eval e (C.X i).env)::starEach es (C.X i).env:=by intro _;rfl)
  (hpl:∀i,(backTo pos (starEach es (C.X i).env)).any (·.1)=false:=by intro _;rfl):SE C (some []) (.Call (.Name y p) (e::es) [] pos) (aBm tab i ga):=by
 obtain⟨t,h1,h2⟩:=ha;refine⟨aJP C.K C.G.cl n C.G.E tab i t,λ j=>?_,λ τ σ H ρ lab Q R W=>?_⟩
 ·obtain⟨e1,e2,e3,e4,e5⟩:=C.cx j
  intro pins s σ H Q I ⟨f,x,F,hs,hx,hf,h⟩;obtain⟨fn,fd,ps,k,hF,hr,hn',hk,hb⟩:=(hT _ hx).ex;rw[hf]at hn';cases hn';have fin:wpAny (model (C.X j).prog (C.X j).w) (C.X j).A (eval (.Name y p) (C.X j).env) (λ v s'=>v= .ref f/\s'=s) (C.X j).xe s:=by
   obtain⟨mm,hnn,hl⟩:=I.loc;obtain⟨u,ru,l⟩:=hl i y _ (hN j) hs (hv j);cases ru;rcases l with ⟨hk2,hm⟩|⟨hk2,c,hc,hcell⟩
   ·exact wpAny_Name (wpAny_loadName_local I.ok.kind hk2 hnn hm ⟨rfl,rfl⟩) hd
   ·rcases hk2 with hk2|hk2
    ·exact wpAny_Name (wpAny_loadName_cell I.ok.kind hk2 hc hcell ⟨rfl,rfl⟩) hd
    ·exact wpAny_Name (wpAny_loadName_free I.ok.kind hk2 hc hcell ⟨rfl,rfl⟩ hcd) hd
  refine wpAny_Call_Name_kw (thn fin λ v s' ⟨ev,es'⟩=>?_);subst ev es';refine PySem.W.callWith_K (h₀:=(C.X j).base) I.ok.mod.kin (by rw[e3];exact hk) (thn (h1 j pos pins s' σ H _ I h) λ us s1 ⟨vs,H1,I1,r,q⟩=>⟨I1.kIn,?_⟩) (he j) (hpl j);exact aCP (CX:=CX1 (C.X j).prog (C.X j).w) (by rw[e1,e2,e3,e4,e5];exact hF) ((C.room j).mono hr) (by rw[e3];exact hb) .nil (C.pass j) I1 r q
 ·unfold aBm at W
  cases hf:fnOf tab (aD i ρ)with
  |none=>rw[hf]at W;exact False.elim W
  |some F=>
   rw[hf]at W;obtain⟨x,hvd,hl⟩:=aE4 hf;obtain⟨v,hsv,rv⟩:∃v,σ[i]? =some (some v)/\Rp C.K (λ _=>True) H v (.fn x):=by
    unfold aD at hvd;split at hvd
    ·rename_i d' e'
     cases hvd;rcases R.sl i _ e' with z|⟨v,a,b⟩
     ·cases z
     ·exact⟨v,a,Rp.wk (λ _ _ _ _=>trivial) b⟩
    ·rename_i d' e'
     cases hvd;rcases R.sl i _ e' with z|⟨v,a,b⟩
     ·cases z
     ·exact⟨v,a,Rp.wk (λ _ _ _ _=>trivial) b⟩
    ·cases hvd
   obtain⟨a,rfl,hx⟩:=rv.fn_inv;exact⟨a,x,F,hsv,lookup_mem hl,hx,aAy (F:=F) hn h2 τ σ H ρ lab Q R W⟩
end
def shB:Slot->Bool
 | .no=>true
 | .sh _=>true
 |_=>false
def nsL(ρ:En)(fg:D->En->Rs En)(ft:En->Rs Bool)(inn:En->Rs (List D)):List D->Rs (List D)
 |[]=>.ok []
 |d::ds=>(fg d ρ).bd λ ρ1=>(ft ρ1).bd λ k=>if k=true then(inn ρ1).bd λ ys=>(nsL ρ fg ft inn ds).bd λ zs=>.ok (ys++zs)else nsL ρ fg ft inn ds
def inL(fi2:En->Rs (List D))(fg2:D->En->Rs En)(ft2:En->Rs Bool)(fe:En->Rs D):En->Rs (List D):=λ ρ1=>if ρ1.all shB=true then(fi2 ρ1).bd λ ds=>lcL ρ1 fg2 ft2 fe ds else .st
def aA1(fi:En->Rs (List D))(js:List (Option Nat))(fg:D->En->Rs En)(ft:En->Rs Bool)(inn:En->Rs (List D)):En->Rs D:=λ ρ=>(fi (shE ρ)).bd λ ds=>match nsL (stE js (shE ρ)) fg ft inn ds with
 | .ok l=>if l.length<sizeLine then .ok (.lst l)else .st
 |_=>.st
theorem aFn(h:nsL ρ fg ft inn (d::ds)= .ok l):
  ∃ρ1 k,fg d ρ= .ok ρ1/\ft ρ1= .ok k/\((k=true/\∃ys zs,inn ρ1= .ok ys/\nsL ρ fg ft inn ds= .ok zs/\l=ys++zs)\/(k=false/\nsL ρ fg ft inn ds= .ok l)):=by
 unfold nsL at h;obtain⟨ρ1,e1,h⟩:=cP h;obtain⟨k,e2,h⟩:=cP h;refine⟨ρ1,k,e1,e2,?_⟩;cases k with
 |true=>
  rw[if_pos rfl]at h;obtain⟨ys,e3,h⟩:=cP h;obtain⟨zs,e4,h⟩:=cP h;exact .inl ⟨rfl,ys,zs,e3,e4,by cases h;rfl⟩
 |false=>
  rw[if_neg Bool.false_ne_true]at h;exact .inr ⟨rfl,h⟩
theorem aK7(h:inL fi2 fg2 ft2 fe ρ1= .ok ys):ρ1.all shB=true/\∃ds,fi2 ρ1= .ok ds/\lcL ρ1 fg2 ft2 fe ds= .ok ys:=by
 unfold inL at h;split at h
 ·rename_i hs
  obtain⟨ds,e1,e2⟩:=cP h;exact⟨hs,ds,e1,e2⟩
 ·cases h
theorem RR.butS{K:PySem.W.Frag}(R:RR K G τ ρ σ H lab)(hs:ρ.all shB=true)(hlab:¬(lab l).1<=1)(B:mW l H H')(hl:H l=some o)(ho:kJ o=true)(h0:G.H0 l=none):RR K G τ ρ σ H' lab:=by
 refine⟨R.len,λ j s e=>?_,λ b o hb=>?_,R.new,λ q hq=>(R.tm q hq).but B hl ho hlab⟩
 ·rcases R.sl j s e with z|⟨u,e1,e2⟩
  ·exact .inl z
  ·have hb:=List.all_eq_true.mp hs s (List.mem_of_getElem? e)
   cases s with
   |no=>exact .inl rfl
   |sh d=>exact .inr ⟨u,e1,Rp.but B hl ho hlab e2⟩
   |_=>cases hb
 ·exact B b o (λ z=>by subst z;rw[h0]at hb;cases hb) (R.old b o hb)
section
variable{K:PySem.W.Frag}{G:Gx}{wi wi2:TI}{fi fi2:En->Rs (List D)}{js:List (Option Nat)}{ks ks2:List Nat}{g g2:TG}{fg fg2:D->En->Rs En}{tt tt2:TT}{ft ft2:En->Rs Bool}{te:TE}{fe:En->Rs D}
theorem aJT(hi:aGp K G wi fi)(hg:aGq K {G with E:=λ _ _ _=>False} g fg)(hgo:nZ g ks)(hgm:zW g)(hk:∀k∈ks2,k∉ks/\(js[k]?).join=none)(ht:aBs K {G with E:=λ _ _ _=>False} tt ft)(hi2:aGp K {G with E:=λ _ _ _=>False} wi2 fi2)
  (hg2:aGq K {G with E:=λ _ _ _=>False} g2 fg2)(ht2:aBs K {G with E:=λ _ _ _=>False} tt2 ft2)(he:lA K {G with E:=λ _ _ _=>False} (some []) te fe):
  lA K G (some []) (aLE (λ _=>.lst []) wi (stV js) g tt (aEu ks2 wi2 g2 tt2 (aIh te))) (aA1 fi js fg ft (inL fi2 fg2 ft2 fe)):=by
 intro τ σ H ρ lab Q R W;refine hi τ σ H _ _ _ R.shE (W.bd.imp λ ds _ w J H1 lab1 τ1 s1 _ R1 jl=>?_);intro l hl;obtain⟨out,hout,hlen,w⟩:∃out,nsL (stE js (VL.shE ρ)) fg ft (inL fi2 fg2 ft2 fe) ds= .ok out/\out.length<sizeLine/\QE K (some []) lab H Q (.lst out):=by
  cases hout:nsL (stE js (VL.shE ρ)) fg ft (inL fi2 fg2 ft2 fe) ds with
  |ok out=>
   rw[hout]at w;dsimp only at w;split at w
   ·rename_i hz;exact⟨out,rfl,hz,w⟩
   ·exact False.elim w
  |ex c=>rw[hout]at w;exact False.elim w
  |st=>rw[hout]at w;exact False.elim w
 have R0:RR K {G with E:=λ _ _ _=>False} (τ1++τ) (VL.shE ρ) σ H1 (λ _=>(0,0)):=R1.blk0 rfl;have RB:=R0.block (js:=js) (λ _=>Nat.zero_le _) hl;have hHl:H l=none:=s1.free hl;have h0l:G.H0 l=none:=R1.old.free hl;have labl:¬((λ p=>if p=l then((2,0):Nat×Nat)else(0,0)) l).1<=1:=by simp
 have hsk:∀k∈ks2,(stV js σ)[k]? =some none\/(stV js σ)[k]? =none:=λ k hk2=>by
  have:=(hk k hk2).2
  unfold stV;rw[List.getElem?_map];cases e:js[k]? with
  |none=>exact .inr rfl
  |some o=>
   rw[e]at this;cases o with
   |none=>exact .inl rfl
   |some j=>cases this
 refine⟨λ i n H2=>∃(pre:List D) (acc:List V),n=ds.length-i/\i<=ds.length/\H2 l=some (.lst acc)/\RR K {G with E:=λ _ _ _=>False} (τ1++τ) (stE js (VL.shE ρ)) (stV js σ) H2 (λ p=>if p=l then(2,0)else(0,0))/\aV H H2/\Rps K (λ p=>H p=none/\p≠l) H2 acc pre/\
  ∃post,nsL (stE js (VL.shE ρ)) fg ft (inL fi2 fg2 ft2 fe) (ds.drop i)= .ok post/\out=pre++post,⟨ds.length,[],[],by lia,by lia,bA,RB.up (bL hl _),s1.trans (bL hl _),.nil,out,hout,rfl⟩,?_⟩
 rintro i n H2 ⟨pre,acc,rfl,hi',hH2,R2,s2,rpre,post,hpost,eout⟩;have jj:=jl _ H2 λ q hq=>R2.tm q (List.mem_append_left _ hq)
 by_cases hlt:i<ds.length
 ·obtain⟨go,yl⟩:=(jj i).2 hlt
  refine .inr ⟨go,λ x H3 hy=>?_⟩;obtain⟨s3,d,ed,rx⟩:=yl x H3 hy;replace R2:=R2.up s3;replace hH2:=s3 _ _ hH2;replace s2:=s2.trans s3;replace rpre:=rpre.up s3;have ed2:ds.drop i=d::ds.drop (i+1):=by
   rw[List.drop_eq_getElem_cons hlt]
   have:=List.getElem?_eq_getElem hlt
   rw[ed]at this;cases this;rfl
  rw[ed2]at hpost;obtain⟨ρ1,k,e1,e2,e3⟩:=aFn hpost;have hgx:=hgo _ _ _ _ (hg (τ1++τ) x d _ H3 _ _ (λ σ4 H4=>H4=H3/\RR K {G with E:=λ _ _ _=>False} (τ1++τ) ρ1 σ4 H3 (λ p=>if p=l then(2,0)else(0,0))) ρ1 R2 rx e1 λ σ4 R4=>⟨rfl,R4⟩);refine hgm _ _ _ _ _ (λ σ4 H4 ⟨⟨eH,R4⟩,hlen4,hag4⟩=>?_) hgx;subst eH;refine ht (τ1++τ) σ4 H4 ρ1 _ _ R4 ?_;rw[e2];intro H5 s5;rcases e3 with ⟨rfl,ys,zs,e3,e4,rfl⟩|⟨rfl,e4⟩
  ·rw[if_pos rfl]
   obtain⟨hsh,ds2,f1,f2⟩:=aK7 e3;refine⟨λ k hk2 v e=>?_,?_⟩
   ·rw[hag4 k (hk k hk2).1]at e
    rcases hsk k hk2 with z|z<;>rw[z]at e<;>cases e
   refine hi2 (τ1++τ) σ4 H5 ρ1 _ _ (R4.up s5) ?_;rw[f1];intro J2 H6 lab6 τ6 s6 hlab6 R6 jl6;have hl6:H6 l=some (.lst acc):=s6 _ _ (s5 _ _ hH2);have lab6l:¬(lab6 l).1<=1:=by rw[hlab6 l _ (s5 _ _ hH2)];exact labl
   refine⟨λ j n2 H7=>∃(pre2:List D) (acc2:List V),n2=ds2.length-j/\j<=ds2.length/\H7 l=some (.lst acc2)/\RR K {G with E:=λ _ _ _=>False} (τ6++(τ1++τ)) ρ1 σ4 H7 lab6/\RR K {G with E:=λ _ _ _=>False} (τ1++τ) (stE js (VL.shE ρ)) (stV js σ) H7 (λ p=>if p=l then(2,0)else(0,0))/\aV H H7/\
    Rps K (λ p=>H p=none/\p≠l) H7 acc2 (pre++pre2)/\∃post2,lcL ρ1 fg2 ft2 fe (ds2.drop j)= .ok post2/\ys=pre2++post2,
    ⟨ds2.length,[],acc,by lia,by lia,hl6,R6,R2.up (s5.trans s6),(s2.trans s5).trans s6,by rw[List.append_nil];exact rpre.up (s5.trans s6),ys,f2,rfl⟩,?_⟩
   rintro j n2 H7 ⟨pre2,acc2,rfl,hj,hl7,R7,Rb7,s7,rpre2,post2,hpost2,eys⟩;have jj7:=jl6 _ H7 λ q hq=>R7.tm q (List.mem_append_left _ hq)
   by_cases hlt2:j<ds2.length
   ·obtain⟨go2,yl2⟩:=(jj7 j).2 hlt2
    refine .inr ⟨go2,λ x2 H8 hy2=>?_⟩;obtain⟨s8,d2,ed8,rx2⟩:=yl2 x2 H8 hy2;replace R7:=R7.up s8;replace Rb7:=Rb7.up s8;replace hl7:=s8 _ _ hl7;replace s7:=s7.trans s8;replace rpre2:=rpre2.up s8;have ed9:ds2.drop j=d2::ds2.drop (j+1):=by
     rw[List.drop_eq_getElem_cons hlt2]
     have:=List.getElem?_eq_getElem hlt2
     rw[ed8]at this;cases this;rfl
    rw[ed9]at hpost2;obtain⟨ρ2,k2,q1,q2,q3⟩:=aB1 hpost2;refine hg2 (τ6++(τ1++τ)) x2 d2 _ H8 _ _ _ ρ2 R7 rx2 q1 λ σ9 R9=>?_
    refine ht2 (τ6++(τ1++τ)) σ9 H8 ρ2 _ _ R9 ?_;rw[q2];intro H9 s9;rcases q3 with ⟨rfl,y,ys2,q3,q4,rfl⟩|⟨rfl,q4⟩
    ·rw[if_pos rfl]
     refine he (τ6++(τ1++τ)) σ9 H9 ρ2 _ _ (R9.up s9) ?_;rw[q3];intro v Ha sa ra;have hla:Ha l=some (.lst acc2):=sa _ _ (s9 _ _ hl7);have B:mW l Ha (upd Ha l (.lst (acc2++[v]))):=λ b o ne hb=>by rw[aZ ne];exact hb
     have hsz:acc2.length<sizeLine:=by
      have h1:=rpre2.length;have h2:out.length=pre.length+(pre2.length+(ys2.length+1))+zs.length:=by rw[eout,eys];simp;lia
      rw[List.length_append]at h1;lia
     refine⟨acc2,hla,hsz,ds2.length-(j+1),by lia,pre2++[y],acc2++[v],rfl,hlt2,bA,(R7.up (s9.trans sa)).butS hsh lab6l B hla rfl h0l,(Rb7.up (s9.trans sa)).but_blk B hla rfl h0l,λ b o hb=>B b o (λ z=>by subst z;rw[hHl]at hb;cases hb) (((s7.trans s9).trans sa) b o hb),?_,ys2,q4,by rw[eys];simp⟩;rw[<-List.append_assoc];refine((rpre2.up (s9.trans sa)).append (.cons (ra.wk λ p o _ z=>?_) .nil)).but B hla rfl λ z=>z.2 rfl
     rcases z with z|z
     ·exact⟨(s7.trans s9).free z,λ e=>by subst e;rw[s9 _ _ hl7]at z;cases z⟩
     ·cases z
    ·rw[if_neg Bool.false_ne_true]
     exact⟨ds2.length-(j+1),by lia,pre2,acc2,rfl,hlt2,s9 _ _ hl7,R7.up s9,Rb7.up s9,s7.trans s9,rpre2.up s9,post2,q4,eys⟩
   ·have ej:j=ds2.length:=by lia
    subst ej;rw[List.drop_length]at hpost2;cases hpost2;rw[List.append_nil]at eys;subst eys;exact .inl ⟨(jj7 _).1 (Nat.le_refl _),ds.length-(i+1),by lia,_,acc2,rfl,hlt,hl7,Rb7,s7,rpre2,zs,e4,by rw[eout];simp⟩
  ·rw[if_neg Bool.false_ne_true]
   exact⟨ds.length-(i+1),by lia,pre,acc,rfl,hlt,s5 _ _ hH2,R2.up s5,s2.trans s5,rpre.up s5,post,e4,eout⟩
 ·have ei:i=ds.length:=by lia
  subst ei;rw[List.drop_length]at hpost;cases hpost;rw[List.append_nil]at eout;subst eout;exact .inl ⟨(jj _).1 (Nat.le_refl _),w _ H2 s2 (.lst hH2 (.inl hHl) (rpre.wk λ p o _ z=>⟨.inl z.1,z.2⟩))⟩
end
section
variable{C:Ct}{pos:Pos}{elt tg iter tg2 iter2:Expr}{ifs ifs2:List Expr}{sc:Scope}{N:List Str}{js:List (Option Nat)}{ks ks2:List Nat}{fi fi2:En->Rs (List D)}{fg fg2:D->En->Rs En}{ft ft2:En->Rs Bool}{fe:En->Rs D}
theorem aIk(hi:SI C tg iter fi)(hg:SG (C.blk sc N) tg ks fg)(ht:aEe (C.blk sc N) ifs ft)(hi2:SI (C.blk sc N) tg2 iter2 fi2)(hg2:SG (C.blk sc N) tg2 ks2 fg2)(ht2:aEe (C.blk sc N) ifs2 ft2)(he:SE (C.blk sc N) (some []) elt fe)(hk:∀k∈ks2,k∉ks/\(js[k]?).join=none:=by decide)(hs:∀i x,foldedSetIterable iter (C.X i).env x=pure x:=by intro _ _;rfl)(hs2:∀(i:(C.blk sc N).ι) x,foldedSetIterable iter2 ((C.blk sc N).X i).env x=pure x:=by intro _ _;rfl)(hB:∀i,fZ (C.X i) sc N (stV js) (ks++ks2):=by intro _;exact aAn rfl rfl rfl rfl rfl rfl):
  SE C (some []) (.ListComp elt [⟨tg,iter,ifs,0⟩,⟨tg2,iter2,ifs2,0⟩] sc pos) (aA1 fi js fg ft (inL fi2 fg2 ft2 fe)):=by
 obtain⟨wi,i1,i2⟩:=hi;obtain⟨g,g1,g2,g3,g4⟩:=hg;obtain⟨tt,t1,t2⟩:=ht;obtain⟨wi2,j1,j2⟩:=hi2;obtain⟨gg,h1,h2,h3,h4⟩:=hg2;obtain⟨tt2,u1,u2⟩:=ht2;obtain⟨te,e1,e2⟩:=he;have go1:nZ g (ks++ks2):=λ v σ H Q q=>g4 _ _ _ _ _ (λ σ' H' ⟨a,b,c⟩=>⟨a,b,λ k hk=>c k λ z=>hk (List.mem_append_left _ z)⟩) (g3 v σ H Q q)
 refine⟨_,λ i=>aLW (pos:=pos) (hB i) (C.calm i) (i1 i) (λ c fp s₀ H₀=>g1 (i,c,fp,s₀,H₀)) go1 (λ c fp s₀ H₀=>t1 (i,c,fp,s₀,H₀)) (aEt elt tg iter tg2 iter2 ifs ifs2 sc pos) (aAv rfl (λ _ _ _ _=>rfl) λ _ _ _ _ _=>rfl) aI7 ?_ rfl rfl (hs i),aJT i2 g2 g3 g4 hk t2 j2 h2 u2 e2⟩;intro c fp s₀ H₀;exact aHb (C.calm i) (λ _ _ h=>h) (aEs elt tg iter tg2 iter2 ifs ifs2 sc pos) (aAv rfl (λ _ _ _ _=>rfl) λ _ _ _ _ _=>rfl) (j1 (i,c,fp,s₀,H₀)) (h1 (i,c,fp,s₀,H₀)) h3 (u1 (i,c,fp,s₀,H₀)) (aJq (e1 (i,c,fp,s₀,H₀))) (hs2 (i,c,fp,s₀,H₀))
end
section
variable{C:Ct}{m:Mode}{a:Expr}{ga:En->Rs (List D)}{elts:List Expr}{x1:Nat}{ps p pos:Pos}
end
end VL
namespace HT
open PySem PySem.Spec PyProof.Rows
section
variable{prog:Program}{w:World}{A:Around}{E:Value->Shared->Prop}{s:Shared}
end
end HT
namespace VL
open PySem PySem.Spec PyProof.Rows L2
section
variable{C:Ct}{m:Mode}{e:Expr}{fe:En->Rs D}{pos p2:Pos}
end
section
variable{C:Ct}{elts:List Expr}{n i:Nat}{x:Str}{p lpos pos pos':Pos}
end
end VL
namespace PySem.AutoSeq1
set_option maxRecDepth 8000 in
theorem aCc(l:Addr)(items:Array Value)(n:Nat)(b:Addr)(items2:Array Value)(n2:Nat)(dd:Option Addr)(sl:Array (Option Value))(hs0:¬(!items.isEmpty&&Builtin.List.listTooLong (items.size+items2.size))=true)(hs1:items.size<=sizeLine)(hs2:items.size+items2.size<=sizeLine+1):
  Meets (Builtin.«list.extend» ⟨[.ref l,.ref b],[]⟩) (λ _ R s=>s.heap.get? l=some {cls:=.type "list",dict:=none,data:=.seq items n,slots:=#[]}/\s.heap.get? b=some {cls:=.type "tuple",dict:=dd,data:=.seq items2 n2,slots:=sl}/\
   R (.ok (.ret Value.none)) {s with heap:=s.heap.update l (Obj.mapSeq λ x=>x++items2),toks:=s.toks}):=
 .of_wp λ prog w A R s h=>by
  obtain⟨hp,g,d,tk,os⟩:=s;obtain⟨hl,hb,h⟩:=h;have f1:=idx_int;have f2:=sub_tuple_tuple;have f3:=sub_list_list;have f4:=sub_tuple_list;have f5:=sub_list_tuple;have hz':(items++items2).size<=sizeLine+1:=by rw[Array.size_append];exact hs2
  wp_walk using(wpAny_updateSeq hl rfl (hz:=hs1) (_hz':=hz')),wpAny_loadPart' hl,wpAny_loadPart' hb;exact⟨_,rfl,h⟩
end PySem.AutoSeq1
namespace VL
open PySem PySem.Spec PyProof.Rows L2
def aIo(K:PySem.W.Frag):V->List V->Hp->VK->Prop:=λ x vs H Q=>∃l b xs zs,x= .ref l/\vs=[.ref b]/\H l=some (.lst xs)/\SqT K H b zs/\xs.length+zs.length<=sizeLine/\∀H',mW l H H'->H' l=some (.lst (xs++zs))->Q .non H'
theorem aHl:MtM X "list.extend" (aIo X.K):=by
 intro pins s σ H x vs v us Q I rx rv h;obtain⟨l,b,xs,zs,rfl,rfl,hH,hB,hz,q⟩:=h;cases rx;obtain⟨u,rfl,ru⟩:=rv.one;cases ru;obtain⟨z,its,n,r,hl,e⟩:=I.lstM hH;obtain⟨its2,r2,⟨⟨c2,dd,dt,sl⟩,e2,hc2,n2,hd2⟩,z2⟩:=I.tuple hB;replace hc2:c2= .type "tuple":=hc2;replace hd2:dt= .seq its2.toArray n2:=hd2;subst hc2 hd2;have l1:=r.length;have l2:=r2.length;have hsz:its.toArray.size+its2.toArray.size<=sizeLine:=by rw[List.size_toArray,List.size_toArray];lia
 have hlong:¬(!its.toArray.isEmpty&&Builtin.List.listTooLong (its.toArray.size+its2.toArray.size))=true:=by
  rw[wF hsz,Bool.and_false];exact Bool.false_ne_true
 refine call_meets F.slot_list_extend ⟨_,e,rfl⟩ F.entry_list_extend (F.args_list_extend_2 _ _) (AutoSeq1.aCc l its.toArray n b its2.toArray n2 dd sl hlong (by lia) (by lia)) ⟨e,e2,?_⟩;refine⟨.non,_,I.lset (its':=its++its2) hH e (by simp) (r.append r2) ?_,rfl,q _ (λ b o ne hb=>by rw[aZ ne];exact hb) bA⟩;rw[List.length_append];lia
section
variable{C:Ct}{m1 m2:Mode}{a b:Expr}{fa fb:En->Rs D}{pos:Pos}
end
section
variable{C:Ct}{pos apos cpos p:Pos}{e:Expr}{fe:En->Rs D}{i:Nat}{x:Str}{m:Mode}
def aG5(ds:List D)(k:List D->Ou):D->Ou
 | .tup es=>if ds.length+es.length<=sizeLine then k (ds++es)else .st
 |_=>.st
def aIS(i:Nat)(fe:En->Rs D):En->Ou:=λ ρ=>match ρ[i]? with
 |some (.ow (.lst ds))=>(fe ρ).bo (aG5 ds λ l=>.nx (ρ.set i (.ow (.lst l))))
 |_=>.st
theorem aCH(i:Nat)(he:SE C m e fe)(hm:okN m=true:=by rfl)(hN:∀j,(C.X j).N[i]? =some x:=by intro _;rfl)(hv:∀j,Vis (C.X j).env.scope x:=by intro _;first|exact Or.inl rfl|exact Or.inr (Or.inl rfl)|exact Or.inr (Or.inr rfl))(hd:(x==("__debug__":Str))=false:=by decide)
  (hcd:(x==("__classdict__":Str))=false:=by decide)(hs1:∀j,starEach [e] (C.X j).env=[(false,eval e (C.X j).env)]:=by intro _;rfl)
  (hbase:∀j,attributeBase (.Name x p) "extend" (C.X j).env (eval (.Name x p) (C.X j).env)=eval (.Name x p) (C.X j).env:=by intro _;rfl)
  (hfew:∀j,((backTo cpos (starEach [e] (C.X j).env)).all (λ x=>!x.1)&&(backToKw cpos (keywordEach [] (C.X j).env)).all (λ x=>x.1.isSome)&&decide ([e].length+([]:List Keyword).length+(if ([]:List Keyword).isEmpty then 0 else 1)<30))=true:=by intro _;rfl)
  (hline:(apos.endLine==cpos.line)=true:=by rfl)
  (hsw:∀j,swapsWith (.Call (.Attribute (.Name x p) "extend" apos) [e] [] cpos) none pos.line (C.X j).env=pure false:=by intro _;rfl):
  SS C (.Expr (.Call (.Attribute (.Name x p) "extend" apos) [e] [] cpos) pos) (aIS i fe):=by
 obtain⟨t,h1,h2⟩:=he;refine⟨v4 (tBM C.K "list" (aIo C.K) (n8 i) (jo t rB)),λ j=>pB (by rw[<-C.hK j];exact yr PySem.F.plainAttrs_list PySem.F.slot_list_extend PySem.F.type_list_extend aHl (iK (hN j) (hv j) hd hcd) (az (h1 j) dU (hs1 j)) (hbase j) (hfew j) hline (hs1 j) rfl) (hsw j),λ τ σ H ρ lab De R W=>?_⟩;unfold aIS at W;cases es:ρ[i]? with
 |none=>rw[es]at W;exact False.elim W
 |some s=>
  rw[es]at W;split at W
  ·rename_i ds hs
   cases hs;rcases R.sl i _ es with z|⟨v,ev,hv'⟩
   ·cases z
   ·obtain⟨hv1,htop⟩:=hv'
    obtain⟨a0,ea0,la0⟩:=htop rfl;subst ea0;obtain⟨a1,xs,ea1,h,mm,r⟩:=hv1.lst_inv;cases ea1;refine⟨.ref a0,ev,.inl ⟨rfl,xs,SqL.of h⟩,h2 τ σ H ρ lab _ R (W.bo.imp λ d _ w y H2 s2 r2=>?_)⟩;cases d with
    |tup es'=>
     dsimp only[aG5]at w;by_cases hz:ds.length+es'.length<=sizeLine
     ·rw[if_pos hz]at w
      obtain⟨R',r'⟩:=R.fresh (P:=λ k=>k=1) rfl (λ k hk=>beq_iff_eq.mp (pF hm k hk)) s2 r2;have la:(cJ H 1 lab a0).1=i+2:=by rw[bc h];exact la0
      obtain⟨b,zs,rfl,hb,rb⟩:=r'.tup_inv;refine⟨a0,b,xs,zs,rfl,rfl,s2 _ _ h,hb,by rw[r.length,rb.length];exact hz,λ H3 B h3=>?_⟩;refine w σ H3 _ (R'.mut ev (s2 _ _ h) rfl la B ⟨.lst h3 (.inr la) ?_,λ _=>⟨a0,rfl,la⟩⟩);have ra:Rps C.K (λ p=>((cJ H 1 lab p).1=1\/(cJ H 1 lab p).1=i+2)/\p≠a0) H2 (xs++zs) (ds++es'):=by
       refine(r.mono s2 λ p o e z=>⟨by rw[bc e];exact z.1,z.2⟩).append (rb.wk λ p o e z=>⟨.inl z,λ q=>?_⟩);subst q;have z1:(cJ H 1 lab p).1=1:=z;lia
      exact ra.but B (s2 _ _ h) rfl λ z=>z.2 rfl
     ·rw[if_neg hz]at w
      exact False.elim w
    |_=>exact False.elim w
  ·exact False.elim W
end
def Enr(K:PySem.W.Frag)(x:Str)(st:Stmt)(f:Addr)(fd:FuncData):Prop:=L2.Fun K x x st f fd/\PySem.W.nsIn K mainGlobals x=some (some (.ref f))
theorem enr{K:PySem.W.Frag}{st:Stmt}{oc kV dc pm cd ct:Value}(a:PySem.W.nsIn K mainGlobals x=some (some (.ref f)))
  (l:K.lookup f=some ⟨oc,od,.func (PySem.W.fnOf x x (pK st) (eE st) (aH st) .none kV dc pm an cd ct),sl⟩)(c:PySem.W.codeIn K cd x=true)(k:PySem.W.keepIn K (.ref f)=true):∃f fd,Enr K x st f fd:=⟨f,_,aKd (st:=st) l c k,a⟩
structure Dnr(K:PySem.W.Frag)(mg:Str->Option Value)(x:Str)(st:Stmt)(ps:List Str)(f:Addr)(d:FuncData):Prop where
 F:L2.Fun K x x st f d
 m:mg x=some (.ref f)
 b:L2.Binds K d ps []
section
variable{C:Ct}
theorem bB{st:Stmt}(hF:cg C.prog C.w C.K C.mg C.base (CX1 C.prog C.w) k fn fd ps (spF C.K C.G.cl n F))(D:Dnr C.K C.mg x st ps fn fd)(ha:SA C m (e::es) ga)(hr:k<=C.k:=by exact Nat.le_of_ble_eq_true rfl)(hg:∀i,Gl (C.X i) x:=by intro _;rfl)
  (hn:∀ρ ds,ga ρ= .ok ds->ds.length=n:=by repeat (first|exact λ _ _ h=>aD9 h|apply wV))(hdb:(x==("__debug__":Str))=false:=by decide)(he:∀i,starEach (e::es) (C.X i).env=(false,eval e (C.X i).env)::starEach es (C.X i).env:=by intro _;rfl)
  (hpl:∀i,(backTo pos (starEach es (C.X i).env)).any (·.1)=false:=by intro _;rfl):SE C (some []) (.Call (.Name x p) (e::es) [] pos) (aM F ga):=aHP hF hr D.m D.F.kp D.b ha hn hdb he hpl hg
end
theorem bT{P:Program}{w:World}{K:PySem.W.Frag}{st:Stmt}(D:Dnr K mg q st ps fn fd)(S:aa N ps (aH st))(hb:N.Nodup->∀cdv A outer s H E hr,SSs (ctD P w K mg base N q (aH st) fn cdv A outer s H E k hr) (eE st) f)(hn:ps.length=n:=by rfl)(hF:eY N.length f=FF:=by rfl):
  cg P w K mg base (CX1 P w) (k+1) fn fd ps (spF K (bD mg) n FF):=aIR D.F S (hb S.nd) hn hF
section
variable{prog:Program}{w:World}{A:Around}{R:Result->Shared->Prop}{I S:Addr}{fp wr:List Addr}{n:Nat}{P:Nat->Value->Prop}{St:Nat->Heap->Prop}{bt:Nat->Nat->Bool}
def aIe(prog:Program)(w:World)(A:Around)(P:Nat->Value->Prop)(St:Nat->Heap->Prop)(bt:Nat->Nat->Bool):Prop:=
 ∀i j k vi vj (s:Shared) (Q E:Value->Shared->Prop),St k s.heap->P i vi->P j vj->Q (.bool (bt i j)) s->wpAny (model prog w) A (richCompare .Lt vi vj) Q E s
abbrev aKv(v:Value)(c:Nat):Obj:={cls:=.type "list",dict:=none,data:=.seq #[v,v] c,slots:=#[]}
abbrev aLk(prog:Program)(w:World)(A:Around)(I S:Addr)(R:Result->Shared->Prop)(s:Shared):Prop:=codeAny (model prog w) A (.builtin "min.loop" ⟨[.ref I,.none,.ref S],[]⟩) R s
abbrev aGs(wr:List Addr)(n:Nat)(P:Nat->Value->Prop)(bt:Nat->Nat->Bool)(S:Addr)(R:Result->Shared->Prop)(s:Shared):Prop:=
 ∀v h' tk,P (argBest bt (n-1)) v->(∀b o,b∉wr->b≠S->s.heap.get? b=some o->h'.get? b=some o)->R (.ok (.ret v)) {s with heap:=h',toks:=tk}
theorem aHn(W:Walks prog w A.in1 I fp wr n P St)(hc:aIe prog w A.in1 P St bt)(hSf:S∉fp)(k:Nat):∀(j:Nat) (s:Shared) (vb:Value) (c:Nat),j+1+k=n->St (j+1) s.heap->P (argBest bt j) vb->
  s.heap.get? S=some (aKv vb c)->aGs wr n P bt S R s->aLk prog w A I S R s:=by
 have nw:S∉wr:=λ h=>hSf (W.sub _ h)
 have nm:(toString "min"++toString ".loop":String)="min.loop":=by decide
 induction k with
 |zero=>
  intro j s vb c hk st pb hS fin;refine codeAny_builtin F.entry_min_loop ?_;rw[Around.under_plainId F.plain_min_loop _];show wpAny _ A.in1 (seqItems? (.ref S)>>=_) _ _ s;refine wpAny_bind (wpAny_seqItems hS rfl ?_);show wpAny _ A.in1 (tryCatch (pyNext (.ref I)) _>>=_) _ _ s;refine wpAny_bind (wpAny_tryCatch (W.done s _ _ (by rw[<-hk];exact st) λ h' tk kp=>?_));show wpAny _ A.in1 (updateSeq S (λ _=>#[])>>=_) _ _ _;refine wpAny_bind (wpAny_updateSeq (kp S _ nw hS) rfl (wpAny_bind (wpAny_letGo (wpAny_pure (fin vb _ tk ?_ λ b o b1 b2 e=>?_)))))
  ·have:n-1=j:=by omega
   rw[this];exact pb
  ·exact(Heap.get?_update_other _ _ (Ne.symm b2)).trans (kp b o b1 e)
 |succ k ih=>
  intro j s vb c hk st pb hS fin;refine codeAny_builtin F.entry_min_loop ?_;rw[Around.under_plainId F.plain_min_loop _];show wpAny _ A.in1 (seqItems? (.ref S)>>=_) _ _ s;refine wpAny_bind (wpAny_seqItems hS rfl ?_);show wpAny _ A.in1 (tryCatch (pyNext (.ref I)) _>>=_) _ _ s;refine wpAny_bind (wpAny_tryCatch (W.item (j+1) s _ _ (by omega) st λ v h' tk pv st' kp=>?_));have hS':=kp S _ nw hS;show wpAny _ A.in1 (tryCatch (holding [v,v] (richCompare .Lt v vb>>=_)) _>>=_) _ _ _;refine wpAny_bind (wpAny_tryCatch (wpAny_holding (wpAny_bind (hc (j+1) (argBest bt j) _ v vb _ _ _ st' pv pb ?_))));refine wpAny_bind (wpAny_holding (wpAny_truthy_bool (wpAny_bind (wpAny_letGo (wpAny_pure ?_)))));cases hb:bt (j+1) (argBest bt j)with
  |true=>
   simp only[if_true];refine wpAny_bind (wpAny_updateSeq hS' rfl (wpAny_bind (wpAny_letGo ?_)));rw[nm];refine wpAny_pure ⟨plainId_quiet F.plain_min_loop _,ih (j+1) _ v _ (by omega) (W.frame _ _ _ st' λ b bf o e=>?_) (by simp only[argBest,hb,if_true];exact pv) (Heap.get?_update_self _ hS' rfl) λ v' h2 t2 p2 k2=>?_⟩
   ·exact(Heap.get?_update_other _ _ (λ h:S=b=>hSf (h▸bf))).trans e
   ·exact fin v' h2 t2 p2 λ b o b1 b2 e=>k2 b o b1 b2 ((Heap.get?_update_other _ _ (Ne.symm b2)).trans (kp b o b1 e))
  |false=>
   simp only[Bool.false_eq_true,if_false];refine wpAny_bind (wpAny_letGo ?_);rw[nm];refine wpAny_pure ⟨plainId_quiet F.plain_min_loop _,ih (j+1) _ vb c (by omega) st' (by simp only[argBest,hb,Bool.false_eq_true,if_false];exact pb) hS' λ v' h2 t2 p2 k2=>?_⟩;exact fin v' h2 t2 p2 λ b o b1 b2 e=>k2 b o b1 b2 (kp b o b1 e)
theorem aFv(W:Walks prog w A.in1 I fp wr n P St)(hc:aIe prog w A.in1 P St bt)(hSf:S∉fp)(hn:0<n){s:Shared}{c:Nat}(st:St 0 s.heap)
  (hS:s.heap.get? S=some {cls:=.type "list",dict:=none,data:=.seq #[] c,slots:=#[]})(fin:aGs wr n P bt S R s):aLk prog w A I S R s:=by
 have nw:S∉wr:=λ h=>hSf (W.sub _ h)
 have nm:(toString "min"++toString ".loop":String)="min.loop":=by decide
 refine codeAny_builtin F.entry_min_loop ?_;rw[Around.under_plainId F.plain_min_loop _];show wpAny _ A.in1 (seqItems? (.ref S)>>=_) _ _ s;refine wpAny_bind (wpAny_seqItems hS rfl ?_);show wpAny _ A.in1 (tryCatch (pyNext (.ref I)) _>>=_) _ _ s;refine wpAny_bind (wpAny_tryCatch (W.item 0 s _ _ hn st λ v h' tk pv st' kp=>?_));have hS':=kp S _ nw hS;show wpAny _ A.in1 (updateSeq S (λ _=>#[v,v])>>=_) _ _ _;refine wpAny_bind (wpAny_updateSeq hS' rfl ?_);rw[nm];refine wpAny_pure ⟨plainId_quiet F.plain_min_loop _,aHn W hc hSf (n-1) 0 _ v _ (by omega) (W.frame _ _ _ st' λ b bf o e=>?_) pv (Heap.get?_update_self _ hS' rfl) λ v' h2 t2 p2 k2=>?_⟩
 ·exact(Heap.get?_update_other _ _ (λ h:S=b=>hSf (h▸bf))).trans e
 ·exact fin v' h2 t2 p2 λ b o b1 b2 e=>k2 b o b1 b2 ((Heap.get?_update_other _ _ (Ne.symm b2)).trans (kp b o b1 e))
abbrev aJE(prog:Program)(w:World)(A:Around)(Q:Value->Shared->Prop):Value->Shared->Prop:=λ it s₂=>∃I fp wr n P St bt,it= .ref I/\Walks prog w A.in1 I fp wr n P St/\St 0 s₂.heap/\(∀b∈fp,b<s₂.heap.objs.size)/\0<n/\aIe prog w A.in1 P St bt/\
  ∀v h' tk,P (argBest bt (n-1)) v->(∀b o,b∉wr->s₂.heap.get? b=some o->h'.get? b=some o)->Q v {s₂ with heap:=h',toks:=tk}
theorem aEL{Q:Value->Shared->Prop}{it:Value}{s₂:Shared}(h:aJE prog w A Q it s₂):
  codeAny (model prog w) A (.builtin "min.loop" ⟨[it,.none,.ref s₂.heap.objs.size],[]⟩) (λ r s=>match r with| .ok (.ret v)=>Q v s|_=>False) {s₂ with heap:=s₂.heap.push {cls:=.type "list",data:=.seq #[]}}:=by
 obtain⟨I,fp,wr,n,P,St,bt,rfl,W,st,lo,hn,hc,q⟩:=h;refine aFv W hc (λ hm=>Nat.lt_irrefl _ (lo _ hm)) hn (W.frame _ _ _ st λ b _ o e=>Heap.get?_push_of_some _ e) (Heap.get?_push_size _ rfl) λ v h' tk pv k=>?_
 exact q v h' tk pv λ b o bw e=>k b o bw (Nat.ne_of_lt (Heap.lt_size e)) (Heap.get?_push_of_some _ e)
end
section
variable{prog:Program}{w:World}{A:Around}{E:Value->Shared->Prop}{s:Shared}{Q:Value->Shared->Prop}
theorem aDC{a b:Value}(h:wpAny (model prog w) A.in1 (pyIter (.ref s.heap.objs.size)) (aJE prog w A Q) E {s with heap:=s.heap.push {cls:=.type "tuple",data:=.seq #[a,b]}}):wpAny (model prog w) A (call (.builtin "min") [a,b]) Q E s:=by
 have nm:(toString "min"++toString ".loop":String)="min.loop":=by decide
 refine call_function_tree F.kind_min F.plain_min F.entry_min (F.args_min2 _ _) ?_;show wpAny _ A.in1 (Builtin.Builtins.bindParams "min" ["key","default"] 0 ⟨[],[]⟩>>=_) _ _ s;refine wpAny_bind (wpAny_of_eq (show Builtin.Builtins.bindParams "min" ["key","default"] 0 ⟨[],[]⟩=pure [none,none]from rfl) ?_);show wpAny _ A.in1 (newTuple [a,b]>>=_) _ _ s;refine wpAny_bind (wpAny_newObj_type (wpAny_bind (wpAny_mono h (λ it s₂ h₂=>?_) λ _ _ e=>e)));refine wpAny_bind (wpAny_newObj_type ?_);rw[nm];refine wpAny_pure ⟨plainId_quiet F.plain_min_loop _,codeAny_mono (aEL h₂) λ r s hr=>?_⟩
 match r,hr with
 | .ok (.ret v),hr=>exact hr
end
def xg(items:Array Value)(nss:Nat->List Int)(h:Heap):Prop:=∀i v,items[i]? =some v->∃x its,v= .ref x/\IsTup h x its/\IntsAre its.toList (nss i)
def qe(items:Array Value):List Addr:=items.toList.filterMap λ v=>match v with| .ref x=>some x|_=>none
theorem aCU{items:Array Value}{i:Nat}(h:items[i]? =some (Value.ref x)):x∈qe items:=by
 unfold qe;rw[List.mem_filterMap];exact⟨.ref x,by have:=List.mem_of_getElem? (l:=items.toList) (i:=i) (by simpa using h);exact this,rfl⟩
theorem xg.keep(T:xg items nss h)(k:∀b∈qe items,∀o,h.get? b=some o->h'.get? b=some o):xg items nss h':=λ i v e=>by
 obtain⟨x,its,rfl,⟨o,h1,h2⟩,h3⟩:=T i v e;exact⟨x,its,rfl,⟨o,k x (aCU e) o h1,h2⟩,h3⟩
theorem aKu{items:Array Value}{nss:Nat->List Int}{St:Nat->Heap->Prop}(W:Walks prog w A I fp wr n (λ i v=>items[i]? =some v) St)(hw:∀b∈qe items,b∉wr):Walks prog w A I (fp++qe items) wr n (λ i v=>items[i]? =some v) (λ i h=>St i h/\xg items nss h) where
 sub:=λ b hb=>List.mem_append_left _ (W.sub b hb)
 frame:=λ i h h' st k=>⟨W.frame i h h' st.1 λ b hb=>k b (List.mem_append_left _ hb),st.2.keep λ b hb=>k b (List.mem_append_right _ hb)⟩
 item:=λ i s Q E hi st q=>W.item i s Q E hi st.1 λ v h' tk pv st' kp=>q v h' tk pv ⟨st',st.2.keep λ b hb o=>kp b o (hw b hb)⟩ kp
 done:=λ s Q E st q=>W.done s Q E st.1 q
 self:=λ i s Q E st q=>W.self i s Q E st.1 q
theorem aE6{items:Array Value}{nss:Nat->List Int}{St:Nat->Heap->Prop}{A:Around}(hu:A.units<cLine):aIe prog w A (λ i v=>items[i]? =some v) (λ i h=>St i h/\xg items nss h) (λ i j=>HT.lexLt (nss i) (nss j)):=λ i j k vi vj s Q E st hi hj q=>by
 obtain⟨x,xs,rfl,x1,x2⟩:=st.2 i vi hi;obtain⟨y,ys,rfl,y1,y2⟩:=st.2 j vj hj;exact HT.wM x1 y1 x2 y2 hu q
theorem aDB(hu:X.A.units+1<cLine)(hc:X.calm=true):dG X (.builtin "min") (λ xs H Q=>∃a b ns ms,xs=[.ref a,.ref b]/\SqT X.K H a (ns.map V.int)/\SqT X.K H b (ms.map V.int)/\Q (.ref (if HT.lexLt ms ns then b else a)) H):=by
 intro pins s σ H xs us Q I r h;obtain⟨a,b,ns,ms,rfl,ha,hb,q⟩:=h;obtain⟨u,v,rfl,ru,rv⟩:=vals2 r;cases ru;cases rv;obtain⟨is1,r1,t1,-⟩:=I.tuple ha;obtain⟨is2,r2,t2,-⟩:=I.tuple hb;have la:a<s.heap.objs.size:=by obtain⟨o,e,_⟩:=t1;exact Heap.lt_size e
 have lb:b<s.heap.objs.size:=by obtain⟨o,e,_⟩:=t2;exact Heap.lt_size e
 have hT:(s.heap.push {cls:=.type "tuple",data:=.seq #[.ref a,.ref b]}).IsTuple s.heap.objs.size #[.ref a,.ref b]:=⟨_,Heap.get?_push_size _ rfl,rfl,0,rfl⟩;have hsz:(s.heap.push {cls:=.type "tuple",data:=.seq #[.ref a,.ref b]}).objs.size=s.heap.objs.size+1:=Heap.size_push ..;have mem:∀x∈qe #[Value.ref a,.ref b],x=a\/x=b:=λ x hx=>by simpa[qe]using hx
 refine aDC (wpAny_pyIter_tuple hT ⟨_,_,_,_,_,_,_,rfl,aKu (nss:=λ i=>if i=0 then ns else ms) (Walks.tuple (A:=X.A.in1) (I.ok.hd hc) _ s.heap.objs.size (by rw[hsz];exact Nat.ne_of_lt (Nat.lt_succ_self _)) #[.ref a,.ref b]) ?_,⟨⟨⟨_,Heap.get?_push_size _ rfl,rfl,rfl⟩,hT.push _⟩,?_⟩,?_,by simp,aE6 hu,?_⟩)
 ·intro x hx hw
  rw[List.mem_singleton,hsz]at hw
  have:x<s.heap.objs.size:=by rcases mem x hx with rfl|rfl<;>assumption
  exact absurd (hw▸this) (Nat.not_lt.mpr (Nat.le_succ _))
 ·intro i v e
  have up:∀{x its},IsTup s.heap x its->IsTup ((s.heap.push {cls:=.type "tuple",data:=.seq #[.ref a,.ref b]}).push {cls:=.type "tuple_iterator",data:=.fields #[.ref s.heap.objs.size,.int 0 0]}) x its:=λ⟨o,e,z⟩=>⟨o,Heap.get?_push_of_some _ (Heap.get?_push_of_some _ e),z⟩
  match i,e with
  |0,e=>cases e;exact⟨a,_,rfl,up t1,intsAre_of r1⟩
  |1,e=>cases e;exact⟨b,_,rfl,up t2,intsAre_of r2⟩
  |k+2,e=>simp at e
 ·intro x hx
  show x<((s.heap.push _).push _).objs.size;rw[Heap.size_push,hsz];rcases List.mem_append.mp hx with hx|hx
  ·simp only[List.mem_cons,List.not_mem_nil,or_false,hsz]at hx
   rcases hx with rfl|rfl
   ·exact Nat.lt_succ_self _
   ·exact Nat.lt_succ_of_lt (Nat.lt_succ_self _)
  ·have:x<s.heap.objs.size:=by rcases mem x hx with rfl|rfl<;>assumption
   exact Nat.lt_succ_of_lt (Nat.lt_succ_of_lt this)
 ·intro v h' tk pv k
  refine⟨.ref (if HT.lexLt ms ns then b else a),H,I.kept λ c o e=>k c o (λ hm=>?_) (Heap.get?_push_of_some _ (Heap.get?_push_of_some _ e)),?_,q⟩
  ·have:=Heap.lt_size e
   rw[List.mem_singleton,hsz]at hm;exact absurd (hm▸this) (Nat.not_lt.mpr (Nat.le_succ _))
  ·have e2:argBest (λ i j=>HT.lexLt (if i=0 then ns else ms) (if j=0 then ns else ms)) ((#[Value.ref a,.ref b]).size-1)=if HT.lexLt ms ns then 1 else 0:=by simp[argBest]
   rw[e2]at pv;cases hl:HT.lexLt ms ns<;>rw[hl]at pv<;>cases pv<;>rfl
def lG:List D->Rs D
 |[.tup l,.tup m]=>match intsOf l,intsOf m with
  |some ns,some ms=>.ok (if HT.lexLt ms ns=true then .tup m else .tup l)
  |_,_=>.st
 |_=>.st
theorem aGd{K:PySem.W.Frag}:qK K (λ xs H Q=>∃a b ns ms,xs=[.ref a,.ref b]/\SqT K H a (ns.map V.int)/\SqT K H b (ms.map V.int)/\Q (.ref (if HT.lexLt ms ns then b else a)) H) lG:=by
 intro A xs ds H Q z r ez q;unfold lG at ez;split at ez
 ·split at ez
  ·rename_i l m _ _ ns ms e1 e2
   cases ez;cases r with
   |cons h r=>
    cases r with
    |cons h' r=>
     cases r;have k1:=h;have k2:=h';obtain⟨a,ys,rfl,sa,ra⟩:=h.tup_inv;obtain⟨b,zs,rfl,sb,rb⟩:=h'.tup_inv
     have:=cT e1
     subst this
     have:=cT e2
     subst this
     have:=ra.ints_of
     subst this
     have:=rb.ints_of
     subst this;refine⟨a,b,ns,ms,rfl,sa,sb,q _ H (aV.refl H) ?_⟩;cases HT.lexLt ms ns
     ·exact k1.wk λ _ _ _ z=>.inr z
     ·exact k2.wk λ _ _ _ z=>.inr z
  ·cases ez
 ·cases ez
theorem aE2(ns:List Int):uw (ns.map .int)=true:=by
 induction ns with
 |nil=>rfl
 |cons a l ih=>simp[uw,imm,ih]
theorem aGQ:∀x z,lG x= .ok z->imm z=true:=by
 intro x z e;unfold lG at e;split at e
 ·split at e
  ·rename_i l m _ _ ns ms e1 e2
   cases e;rw[cT e1,cT e2];split<;>exact aE2 _
  ·cases e
 ·cases e
section
variable{C:Ct}{pos p:Pos}{a b:Expr}{ga:En->Rs (List D)}{m:Mode}
theorem aBC(hm:C.mg "min"=none)(ha:SA C m [a,b] ga)(he:∀i,starEach [a,b] (C.X i).env=(false,eval a (C.X i).env)::starEach [b] (C.X i).env:=by intro _;rfl)
  (hpl:∀i,(backTo pos (starEach [b] (C.X i).env)).any (·.1)=false:=by intro _;rfl)(hg:∀i,Gl (C.X i) "min":=by intro _;rfl)(hv:bootBuiltins "min"=some (.builtin "min"):=by decide+kernel):SE C (some []) (.Call (.Name "min" p) [a,b] [] pos) (opA lG ga):=
 gQ (lW (λ i=>by have h:=aDB (X:=C.X i) (aLc (C.room i)) (C.calm i);rw[C.hK i]at h;exact h) aGd hg hm hv ha (by decide) (by decide) he hpl) λ _ _ h=>pJ aGQ h
end
theorem TupIter.ext{hp h':Heap}{it t i c}(h:Heap.IsTupleIter hp it t i)(e:Heap.ExtBut c hp h')(n:it≠c):h'.IsTupleIter it t i:=h.at λ o q=>e it o n q
theorem IsTup.ext{hp h':Heap}{t c xs}(h:Heap.IsTuple hp t xs)(e:Heap.ExtBut c hp h')(n:t≠c):h'.IsTuple t xs:=let⟨o,q,r⟩:=h;⟨o,e t o n q,r⟩
section
variable{prog:Program}{w:World}{A:Around}{E:Value->Shared->Prop}{s:Shared}{z TI TO i1 i2 l1 l2:Addr}{k:Nat}{xs ys:Array Value}{x y a b:Value}
theorem aDr{Q:Value->Shared->Prop}(D:ZipApart z TI TO i1 i2 l1 l2)(hz:IsZip s.heap z TI TO .none)(hTI:IsPair s.heap TI (.ref i1) (.ref i2))(hTO:IsPair s.heap TO a b)
  (p1:s.heap.IsTupleIter i1 l1 k)(p2:s.heap.IsTupleIter i2 l2 k)(t1:s.heap.IsTuple l1 xs)(t2:s.heap.IsTuple l2 ys)(hx:xs[k]? =some x)(hy:ys[k]? =some y)
  (hQ:∀h',IsZip h' z TI TO (rawInt s.heap.objs.size)->IsPair h' TO x y->h'.IsTupleIter i1 l1 (k+1)->h'.IsTupleIter i2 l2 (k+1)->IsPair h' s.heap.objs.size x y->
   (∀c o,c∉[z,TO,i1,i2]->s.heap.get? c=some o->h'.get? c=some o)->Q (.ref s.heap.objs.size) {s with heap:=h'}):
  wpAny (model prog w) A (Builtin.«zip.__next__» ⟨[.ref z],[]⟩) (λ fin s'=>∃v,fin= .done (.ret v)/\Q v s') E s:=by
 show wpAny _ _ (field (.ref z) 2>>=_) _ _ _;refine wpAny_bind (wpAny_field hz rfl (x:=.bool false) rfl ?_);show wpAny _ _ (field (.ref z) 3>>=_) _ _ _;refine wpAny_bind (wpAny_field hz rfl (x:=.ref TI) rfl (wpAny_bind (wpAny_seqItems hTI rfl ?_)));show wpAny _ _ (Builtin.SmallTypes.ownedTupleIsFree (.ref z)>>=_) _ _ _;refine wpAny_bind ?_;unfold Builtin.SmallTypes.ownedTupleIsFree;refine wpAny_bind (wpAny_field hz rfl (x:=.none) rfl (wpAny_pure ?_));simp only[if_true];refine wpAny_bind (wpAny_rule (wpAny_bind (wpAny_field hz rfl (x:=.ref TO) rfl (wpAny_bind (wpAny_setField_rec hz (by simp) λ j1 (z1:IsZip j1 z TI TO .ellipsis) s1=>wpAny_bind ?_)))));simp only[List.zipIdx_cons,List.zipIdx_nil,List.forIn_cons,List.forIn_nil];refine wpAny_bind (wpAny_bind (wpAny_onRaise ?_));show wpAny _ _ (Builtin.SmallTypes.nextOf (.ref i1)>>=_) _ _ _;refine wpAny_bind (qi (TupIter.ext p1 s1.extBut D.i1z) (IsTup.ext t1 s1.extBut D.l1z) hx λ j2 q2 s2=>wpAny_pure ?_);have o2:IsPair j2 TO a b:=s2.extBut _ _ D.TOi1 (s1.extBut _ _ D.TOz hTO);refine wpAny_bind (wpAny_seqItems o2 rfl (wpAny_bind (wpAny_updateSeq_pair o2 λ j3 (o3:IsPair j3 TO x b) s3=>wpAny_bind (wpAny_letGo (wpAny_pure (wpAny_bind (wpAny_bind (wpAny_onRaise ?_))))))));show wpAny _ _ (Builtin.SmallTypes.nextOf (.ref i2)>>=_) _ _ _;refine wpAny_bind (qi (TupIter.ext (TupIter.ext (TupIter.ext p2 s1.extBut D.i2z) s2.extBut D.i12.symm) s3.extBut D.TOi2.symm) (IsTup.ext (IsTup.ext (IsTup.ext t2 s1.extBut D.l2z) s2.extBut D.l2i1) s3.extBut D.l2TO) hy λ j4 q4 s4=>wpAny_pure ?_);have o4:IsPair j4 TO x b:=s4.extBut _ _ D.TOi2 o3;refine wpAny_bind (wpAny_seqItems o4 rfl (wpAny_bind (wpAny_updateSeq_pair o4 λ j5 (o5:IsPair j5 TO x y) s5=>wpAny_bind (wpAny_letGo (wpAny_pure (wpAny_pure (wpAny_bind (wpAny_seqItems o5 rfl (wpAny_bind (wpAny_newTuple ?_))))))))));have sz:j5.objs.size=s.heap.objs.size:=by rw[s5.1,s4.1,s3.1,s2.1,s1.1]
 have z5:IsZip j5 z TI TO .ellipsis:=s5.extBut _ _ D.TOz.symm (s4.extBut _ _ D.i2z.symm (s3.extBut _ _ D.TOz.symm (s2.extBut _ _ D.i1z.symm z1)));have k5:∀c o,c∉[z,TO,i1,i2]->s.heap.get? c=some o->j5.get? c=some o:=λ c o n e=>by
  simp only[List.mem_cons,List.not_mem_nil,or_false,not_or]at n;exact s5.extBut _ _ n.2.1 (s4.extBut _ _ n.2.2.2 (s3.extBut _ _ n.2.1 (s2.extBut _ _ n.2.2.1 (s1.extBut _ _ n.1 e))))
 have q15:j5.IsTupleIter i1 l1 (k+1):=TupIter.ext (TupIter.ext (TupIter.ext q2 s3.extBut D.TOi1.symm) s4.extBut D.i12) s5.extBut D.TOi1.symm;have q25:j5.IsTupleIter i2 l2 (k+1):=TupIter.ext q4 s5.extBut D.TOi2.symm;have lz:z<j5.objs.size:=Heap.lt_size z5;show wpAny _ _ (Builtin.SmallTypes.ownedTupleHandOut (.ref z) (.ref j5.objs.size)>>=_) _ _ _;refine wpAny_bind ?_;unfold Builtin.SmallTypes.ownedTupleHandOut;have z6:IsZip (j5.push {cls:=.type "tuple",data:=.seq #[x,y]}) z TI TO .ellipsis:=Heap.get?_push_of_some _ z5;refine wpAny_bind (wpAny_setField_rec z6 (by simp) λ j7 (z7:IsZip j7 z TI TO (rawInt j5.objs.size)) s7=>wpAny_setField_rec z7 (by simp) λ j8 (z8:IsZip j8 z TI TO (rawInt j5.objs.size)) s8=>?_);have up:∀c o,c≠z->j5.get? c=some o->j8.get? c=some o:=λ c o n e=>s8.extBut _ _ n (s7.extBut _ _ n (Heap.get?_push_of_some _ e))
 have t8:IsPair j8 j5.objs.size x y:=s8.extBut _ _ (Nat.ne_of_gt lz) (s7.extBut _ _ (Nat.ne_of_gt lz) (Heap.get?_push_size _ rfl));rw[sz]at z8 t8;refine wpAny_pure ⟨_,rfl,?_⟩;show Q (.ref j5.objs.size) _;rw[sz];exact hQ j8 z8 (up _ _ D.TOz o5) (q15.at λ o e=>up _ o D.i1z e) (q25.at λ o e=>up _ o D.i2z e) t8 λ c o n e=>up c o (λ q=>n (by simp[q])) (k5 c o n e)
theorem aEi{Q:Fin->Shared->Prop}(hh:A.handled=none)(D:ZipApart z TI TO i1 i2 l1 l2)(hz:IsZip s.heap z TI TO .none)(hTI:IsPair s.heap TI (.ref i1) (.ref i2))(hTO:IsPair s.heap TO a b)
  (p1:s.heap.IsTupleIter i1 l1 k)(p2:s.heap.IsTupleIter i2 l2 k)(t1:s.heap.IsTuple l1 xs)(t2:s.heap.IsTuple l2 ys)(hend:xs[k]? =none\/ys[k]? =none)
  (hE:∀h' e,(∀c o,c∉[z,TO,i1,i2]->s.heap.get? c=some o->h'.get? c=some o)->(∃o,h'.get? e=some o/\o.cls= .type "StopIteration")->E (.ref e) {s with heap:=h'}):
  wpAny (model prog w) A (Builtin.«zip.__next__» ⟨[.ref z],[]⟩) Q E s:=by
 show wpAny _ _ (field (.ref z) 2>>=_) _ _ _;refine wpAny_bind (wpAny_field hz rfl (x:=.bool false) rfl ?_);show wpAny _ _ (field (.ref z) 3>>=_) _ _ _;refine wpAny_bind (wpAny_field hz rfl (x:=.ref TI) rfl (wpAny_bind (wpAny_seqItems hTI rfl ?_)));show wpAny _ _ (Builtin.SmallTypes.ownedTupleIsFree (.ref z)>>=_) _ _ _;refine wpAny_bind ?_;unfold Builtin.SmallTypes.ownedTupleIsFree;refine wpAny_bind (wpAny_field hz rfl (x:=.none) rfl (wpAny_pure ?_));simp only[if_true];refine wpAny_bind (wpAny_rule (wpAny_bind (wpAny_field hz rfl (x:=.ref TO) rfl (wpAny_bind (wpAny_setField_rec hz (by simp) λ j1 (z1:IsZip j1 z TI TO .ellipsis) s1=>wpAny_bind ?_)))));simp only[List.zipIdx_cons,List.zipIdx_nil,List.forIn_cons,List.forIn_nil];refine wpAny_bind (wpAny_bind (wpAny_onRaise ?_));show wpAny _ _ (Builtin.SmallTypes.nextOf (.ref i1)>>=_) _ _ _;have fin:∀{j:Heap} {e:Addr},IsZip j z TI TO .ellipsis->(∀c o,c∉[z,TO,i1,i2]->s.heap.get? c=some o->j.get? c=some o)->(∃o,j.get? e=some o/\o.cls= .type "StopIteration")->wpAny (model prog w) A (setField (.ref z) 0 .none) (λ _ s'=>E (.ref e) s') E {s with heap:=j}:=λ{j e} zj kj ⟨oe,he,ce⟩=>by
  have ne:e≠z:=λ q=>by subst q;rw[zj]at he;cases he;simp at ce
  exact wpAny_setField_rec zj (by simp) λ j' _ sj=>hE j' e (λ c o n q=>sj.extBut _ _ (λ q=>n (by simp[q])) (kj c o n q)) ⟨oe,sj.extBut _ _ ne he,ce⟩
 cases hx:xs[k]? with
 |none=>
  refine wpAny_bind (yu hh (TupIter.ext p1 s1.extBut D.i1z) (IsTup.ext t1 s1.extBut D.l1z) hx λ j2 e s2 he=>?_);refine fin (s2 _ _ D.i1z.symm z1) (λ c o n q=>?_) he;simp only[List.mem_cons,List.not_mem_nil,or_false,not_or]at n;exact s2 _ _ n.2.2.1 (s1.extBut _ _ n.1 q)
 |some x=>
  have hy:ys[k]? =none:=by rcases hend with h|h;rw[hx]at h;cases h;exact h
  refine wpAny_bind (qi (TupIter.ext p1 s1.extBut D.i1z) (IsTup.ext t1 s1.extBut D.l1z) hx λ j2 q2 s2=>wpAny_pure ?_);have o2:IsPair j2 TO a b:=s2.extBut _ _ D.TOi1 (s1.extBut _ _ D.TOz hTO);refine wpAny_bind (wpAny_seqItems o2 rfl (wpAny_bind (wpAny_updateSeq_pair o2 λ j3 (o3:IsPair j3 TO x b) s3=>wpAny_bind (wpAny_letGo (wpAny_pure (wpAny_bind (wpAny_bind (wpAny_onRaise ?_))))))));show wpAny _ _ (Builtin.SmallTypes.nextOf (.ref i2)>>=_) _ _ _;refine wpAny_bind (yu hh (TupIter.ext (TupIter.ext (TupIter.ext p2 s1.extBut D.i2z) s2.extBut D.i12.symm) s3.extBut D.TOi2.symm) (IsTup.ext (IsTup.ext (IsTup.ext t2 s1.extBut D.l2z) s2.extBut D.l2i1) s3.extBut D.l2TO) hy λ j4 e s4 he=>?_);refine fin (s4 _ _ D.i2z.symm (s3.extBut _ _ D.TOz.symm (s2.extBut _ _ D.i1z.symm z1))) (λ c o n q=>?_) he;simp only[List.mem_cons,List.not_mem_nil,or_false,not_or]at n;exact s4 _ _ n.2.2.2 (s3.extBut _ _ n.2.1 (s2.extBut _ _ n.2.2.1 (s1.extBut _ _ n.1 q)))
theorem aCb(l1 l2:Addr)(xs ys:Array Value):
  Meets (Builtin.«zip.__new__» ⟨[.type "zip",.ref l1,.ref l2],[]⟩) (λ _ R s=>s.heap.IsTuple l1 xs/\s.heap.IsTuple l2 ys/\
   ∀h1 h2 h3 h4,h1=s.heap.push {cls:=.type "tuple_iterator",data:=.fields #[.ref l1,.int 0 0]}->h2=h1.push {cls:=.type "tuple_iterator",data:=.fields #[.ref l2,.int 0 0]}->h3=h2.push {cls:=.type "tuple",data:=.seq #[.ref s.heap.objs.size,.ref h1.objs.size]}->h4=h3.push {cls:=.type "tuple",data:=.seq #[.none,.none]}->
   R (.ok (.ret (.ref h4.objs.size))) {s with heap:=h4.push {cls:=.type "zip",data:=.fields #[.none,.bool false,.bool false,.ref h2.objs.size,.ref h3.objs.size]}}):=
 .of_wp λ prog w A R s h=>by
  obtain⟨hp,g,d,tk,os⟩:=s;obtain⟨u1,u2,h⟩:=h;have hsub:=sub_zip;have v1:Heap.IsTuple (Shared.heap ⟨hp,g,d,tk,os⟩) l1 xs:=u1;have v2:Heap.IsTuple (Shared.heap ⟨hp.push {cls:=.type "tuple_iterator",data:=.fields #[.ref l1,.int 0 0]},g,d,tk,os⟩) l2 ys:=let⟨o,q,r⟩:=u2;⟨o,Heap.get?_push_of_some _ q,r⟩
  wp_walk using wpAny_pyIter_tuple v1,wpAny_pyIter_tuple v2;exact⟨_,rfl,h _ _ _ _ rfl rfl rfl rfl⟩
theorem aE7{Q:Value->Shared->Prop}(t1:s.heap.IsTuple l1 xs)(t2:s.heap.IsTuple l2 ys)
  (h:∀h' n,n=s.heap.objs.size->IsZip h' (n+4) (n+2) (n+3) .none->IsPair h' (n+2) (.ref n) (.ref (n+1))->IsPair h' (n+3) .none .none->h'.IsTupleIter n l1 0->h'.IsTupleIter (n+1) l2 0->
   (∀c o,s.heap.get? c=some o->h'.get? c=some o)->Q (.ref (n+4)) {s with heap:=h'}):
  wpAny (model prog w) A (call (.type "zip") [.ref l1,.ref l2]) Q E s:=by
 refine callType_new F.called_zip (by decide) (F.typeCall_zip_2 _ _) (F.newCall_zip_2 _ _) (λ obj=>F.args_object_init_3 obj _ _) F.entry_zip_new (aCb l1 l2 xs ys) ⟨t1,t2,λ h1 h2 h3 h4 e1 e2 e3 e4=>?_⟩;have n1:h1.objs.size=s.heap.objs.size+1:=by rw[e1,Heap.size_push]
 have n2:h2.objs.size=s.heap.objs.size+2:=by rw[e2,Heap.size_push,n1]
 have n3:h3.objs.size=s.heap.objs.size+3:=by rw[e3,Heap.size_push,n2]
 have n4:h4.objs.size=s.heap.objs.size+4:=by rw[e4,Heap.size_push,n3]
 have up1:∀c o,s.heap.get? c=some o->h1.get? c=some o:=λ c o q=>by rw[e1];exact Heap.get?_push_of_some _ q
 have up2:∀c o,h1.get? c=some o->h2.get? c=some o:=λ c o q=>by rw[e2];exact Heap.get?_push_of_some _ q
 have up3:∀c o,h2.get? c=some o->h3.get? c=some o:=λ c o q=>by rw[e3];exact Heap.get?_push_of_some _ q
 have up4:∀c o,h3.get? c=some o->h4.get? c=some o:=λ c o q=>by rw[e4];exact Heap.get?_push_of_some _ q
 have g1:=Heap.get?_push_size s.heap (o:={cls:=.type "tuple_iterator",data:=.fields #[.ref l1,.int 0 0]}) rfl;have g2:=Heap.get?_push_size h1 (o:={cls:=.type "tuple_iterator",data:=.fields #[.ref l2,.int 0 0]}) rfl;have g3:=Heap.get?_push_size h2 (o:={cls:=.type "tuple",data:=.seq #[.ref s.heap.objs.size,.ref h1.objs.size]}) rfl;have g4:=Heap.get?_push_size h3 (o:={cls:=.type "tuple",data:=.seq #[.none,.none]}) rfl;rw[<-e1]at g1;rw[<-e2]at g2;rw[<-e3]at g3;rw[<-e4]at g4;have g5:=Heap.get?_push_size h4 (o:={cls:=.type "zip",data:=.fields #[.none,.bool false,.bool false,.ref h2.objs.size,.ref h3.objs.size]}) rfl;show _/\_;rw[n2,n3,n4]at g5;rw[n3]at g4;rw[n1,n2]at g3;rw[n1]at g2;rw[n4,n2,n3];exact⟨⟨_,g5,rfl⟩,h _ _ rfl g5 (Heap.get?_push_of_some _ (up4 _ _ g3)) (Heap.get?_push_of_some _ g4) ⟨_,Heap.get?_push_of_some _ (up4 _ _ (up3 _ _ (up2 _ _ g1))),rfl,rfl⟩ ⟨_,Heap.get?_push_of_some _ (up4 _ _ (up3 _ _ g2)),rfl,rfl⟩
  λ c o q=>Heap.get?_push_of_some _ (up4 _ _ (up3 _ _ (up2 _ _ (up1 _ _ q))))⟩
end
theorem aE0{X:Cx}{pins:List (Addr×Obj)}{σ:List (Option V)}{H:Hp}{s:Shared}{h':Heap}{ch:List Addr}{t':Nat}(I:Inv X pins σ H s)(hf:∀b∈ch,pQ X pins H b)(k:∀b u,b∉ch->s.heap.get? b=some u->h'.get? b=some u):
  Inv X pins σ H {s with heap:=h',toks:=t'}:=by
 have nch:∀b u,H b=some u->b∉ch:=λ b u e z=>by have:=(hf b z).1;rw[e]at this;cases this
 refine I.call (g':=s.gens) (d':=s.drawn) (ch:=ch) ⟨λ b u q _ _ hx=>k b u hx q,λ b u q _ _ hx=>⟨u.slots,k b u hx q⟩,λ b u q n _=>n,λ b u q hx=>⟨u,k b u hx q⟩,λ b xs q=>q,λ b u xs q=>q,λ b ps q=>⟨#[],by rw[q];simp⟩⟩ (λ b u e=>?_) I.bare
  λ b hb=>let⟨_,f1,_,f3,f4,f5⟩:=hf b hb;⟨f3,f1,f4,f5⟩
 refine(I.hok b u e).stay (λ c v hc q=>k c v ?_ q) (λ c q=>q) λ c xs q=>q
 rcases hc with rfl|hc
 ·exact nch _ _ e
 ·exact nch _ _ hc
def Itz(K:PySem.W.Frag)(a b:Addr):It:=
 ⟨λ i H=>∃xs ys x y,SqT K H a xs/\SqT K H b ys/\xs[i]? =some x/\ys[i]? =some y,λ i H v H'=>∃p x y,v= .ref p/\H p=none/\H'=upd H p (.tup [x,y])/\(∀xs,SqT K H a xs->xs[i]? =some x)/\∀ys,SqT K H b ys->ys[i]? =some y,λ i H=>∃xs ys,SqT K H a xs/\SqT K H b ys/\(xs.length<=i\/ys.length<=i)⟩
theorem aEr{P:Program}{w:World}{K:PySem.W.Frag}{elts:List Expr}{x1:Nat}{ps:Pos}(a b z TI TO i1 i2:Addr)(D:ZipApart z TI TO i1 i2 a b):
  Turn P w K (.Tuple elts x1 ps) (Itz K a b) [z,TI,TO,i1,i2] z (λ i h=>IsZip h z TI TO .none/\IsPair h TI (.ref i1) (.ref i2)/\(∃u v,IsPair h TO u v)/\h.IsTupleIter i1 a i/\h.IsTupleIter i2 b i) where
 mem:=by simp
 obj:=λ i h ⟨e1,e2,⟨u,v,e3⟩,⟨o4,e4,_,d4⟩,o5,e5,_,d5⟩ c hc=>by
  simp only[List.mem_cons,List.not_mem_nil,or_false]at hc;rcases hc with rfl|rfl|rfl|rfl|rfl
  ·exact⟨_,e1,λ v z=>by cases z⟩
  ·exact⟨_,e2,λ v z=>by cases z⟩
  ·exact⟨_,e3,λ v z=>by cases z⟩
  ·exact⟨o4,e4,λ v z=>by rw[d4]at z;cases z⟩
  ·exact⟨o5,e5,λ v z=>by rw[d5]at z;cases z⟩
 keep:=λ i h h' ⟨e1,e2,⟨u,v,e3⟩,e4,e5⟩ k=>⟨k _ (by simp) _ e1,k _ (by simp) _ e2,⟨u,v,k _ (by simp) _ e3⟩,e4.at λ o q=>k _ (by simp) o q,e5.at λ o q=>k _ (by simp) o q⟩
 item:=by
  intro X hP hw hK hc i pins s σ H E I hf st hg;subst hP hw hK;obtain⟨xs,ys,x,y,q1,q2,hx,hy⟩:=hg;obtain⟨its,rv,p,hz⟩:=I.tuple q1;obtain⟨its2,rv2,p2,hz2⟩:=I.tuple q2;obtain⟨u,hu,ru⟩:=rv.get hx;obtain⟨u2,hu2,ru2⟩:=rv2.get hy;obtain⟨e1,e2,⟨c,d,e3⟩,e4,e5⟩:=st;have hT:s.TypeIs (.ref z) "zip":=⟨_,e1,rfl⟩;unfold pyNext;refine wpAny_bind (wpAny_attempt (wpAny_callSpecial?_slot (name:=Str.ofString "__next__") hT F.slot_zip_next (wpAny_call_entry F.slot_zip_next hT F.entry_zip_next (aDr D e1 e2 e3 e4 e5 p p2 (x:=u) (y:=u2) (by simpa using hu) (by simpa using hu2) λ h' f1 f2 f3 f4 f5 k=>wpAny_pure ⟨_,rfl,?_⟩) (F.args_zip_next_1 _))));have lt:∀{c o},s.heap.get? c=some o->c≠s.heap.objs.size:=λ e=>Nat.ne_of_lt (Heap.lt_size e)
  have n1:i1≠s.heap.objs.size:=by obtain⟨_,e,_⟩:=e4;exact lt e
  have n2:i2≠s.heap.objs.size:=by obtain⟨_,e,_⟩:=e5;exact lt e
  refine wpAny_letOwnedTupleGo_zip f1 λ h2 z2 s2=>⟨.ref s.heap.objs.size,upd H s.heap.objs.size (.tup [x,y]),?_,rfl,⟨_,x,y,rfl,I.hok.fresh (Nat.le_refl _),rfl,λ l hl=>by rw[I.tuple_inj hl q1];exact hx,λ l hl=>by rw[I.tuple_inj hl q2];exact hy⟩,
   ⟨z2,s2.extBut _ _ D.TIz (k _ _ (by simp[D.TIz,D.TITO,D.TIi1,D.TIi2]) e2),⟨_,_,s2.extBut _ _ D.TOz f2⟩,TupIter.ext f3 s2.extBut D.i1z,TupIter.ext f4 s2.extBut D.i2z⟩,λ c hc=>?_⟩
  ·refine aGM (s:=s) (h':=h2) (t':=s.toks) (ch:=[z,TI,TO,i1,i2]) I hf (λ c v hc q=>(s2.2 c λ e=>hc (by simp[e])).trans (k c v (λ m=>hc ?_) q)) (Nat.le_refl _) ⟨by simp[sizeLine_eq],[u,u2],.cons ru (.cons ru2 .nil),_,(s2.2 _ (lt e1).symm).trans f5,rfl,_,rfl⟩
   simp only[List.mem_cons,List.not_mem_nil,or_false]at m ⊢;rcases m with m|m|m|m<;>simp[m]
  ·have:=(hf c hc).1
   rw[aZ]
   ·exact this
   ·rintro rfl
    simp only[List.mem_cons,List.not_mem_nil,or_false]at hc;rcases hc with m|m|m|m|m
    ·exact lt e1 m.symm
    ·exact lt e2 m.symm
    ·exact lt e3 m.symm
    ·exact n1 m.symm
    ·exact n2 m.symm
 done:=by
  intro X hP hw hK hc i pins s σ H E I hf st hg;subst hP hw hK;obtain⟨xs,ys,q1,q2,hx⟩:=hg;obtain⟨its,rv,p,hz⟩:=I.tuple q1;obtain⟨its2,rv2,p2,hz2⟩:=I.tuple q2;obtain⟨e1,e2,⟨c,d,e3⟩,e4,e5⟩:=st;have hT:s.TypeIs (.ref z) "zip":=⟨_,e1,rfl⟩;have hl:=rv.length;have hl2:=rv2.length;unfold pyNext;refine wpAny_bind (wpAny_attempt (wpAny_callSpecial?_slot (name:=Str.ofString "__next__") hT F.slot_zip_next (wpAny_call_entry F.slot_zip_next hT F.entry_zip_next (aEi (I.ok.hd hc) D e1 e2 e3 e4 e5 p p2 (by simp;lia) λ h' e k he=>?_) (F.args_zip_next_1 _))));obtain⟨o,ho,hc⟩:=he;refine wpAny_bind (wpAny_isInstance (T:="StopIteration") (b:=true) ⟨o,ho,hc⟩ isSubtype_stop ?_);refine wpAny_pure ⟨rfl,aE0 (t':=s.toks) (ch:=[z,TI,TO,i1,i2]) I hf λ c v hc q=>k c v (λ m=>hc ?_) q⟩;simp only[List.mem_cons,List.not_mem_nil,or_false]at m ⊢;rcases m with m|m|m|m<;>simp[m]
 self:=λ _ _ _ _ _ st h=>wpAny_pyIter_zip st.1 h
def aL8(K:PySem.W.Frag)(tl:TA):TI:=λ σ H R=>tl σ H λ xs H1=>∃a b,xs=[.ref a,.ref b]/\(∃ys,SqT K H1 a ys)/\(∃ys,SqT K H1 b ys)/\R (Itz K a b) H1
theorem aJ9{X:Cx}{elts:List Expr}{x1:Nat}{ps p pos:Pos}{l m:Expr}{tl:TA}(hl:PA X [l,m] tl)(hg:Gl X "zip")(hm:X.mg "zip"=none)(hv:bootBuiltins "zip"=some (.type "zip"))
  (hs:starEach [l,m] X.env=[(false,eval l X.env),(false,eval m X.env)]:=by rfl)(hs2:starEach [m] X.env=[(false,eval m X.env)]:=by rfl):PI X (.Tuple elts x1 ps) (.Call (.Name "zip" p) [l,m] [] pos) (aL8 X.K tl):=by
 intro pins s σ H R I h;refine wpAny_Call_Name_kw (tU I hg hm hv ?_ (by decide) (by decide));refine PyProof.Rows.callWith_type1 (thn (hl pos pins s σ H _ I h) λ us s1 ⟨vs,H1,I1,r1,a,b,e,⟨ys,hy⟩,⟨ys2,hy2⟩,q⟩=>?_) (by rw[hs,hs2]) (by rw[hs2];rfl);subst e;obtain⟨u,u2,rfl,ru,ru2⟩:∃u u2,us=[u,u2]/\RelV (.ref a) u/\RelV (.ref b) u2:=by
  cases r1 with
  |cons r rr=>
   cases rr with
   |cons r' rr=>cases rr;exact⟨_,_,rfl,r,r'⟩
 cases ru;cases ru2;obtain⟨its,rv,pp,hz⟩:=I1.tuple hy;obtain⟨its2,rv2,pp2,hz2⟩:=I1.tuple hy2;have ha:a<s1.heap.objs.size:=let⟨o,ho,_⟩:=pp;Heap.lt_size ho
 have hb:b<s1.heap.objs.size:=let⟨o,ho,_⟩:=pp2;Heap.lt_size ho
 refine aE7 pp pp2 λ h' n en e1 e2 e3 e4 e5 hk=>wpAny_pyIter_zip e1 ?_
 rw[<-en]at ha hb;refine⟨_,[n+4,n+2,n+3,n,n+1],_,_,H1,rfl,I1.kept (t':=s1.toks) hk,aEr a b (n+4) (n+2) (n+3) n (n+1) ⟨by lia,by lia,by lia,by lia,by lia,by lia,by lia,by lia,by lia,by lia,by lia,by lia,by lia,by lia,by lia,by lia,by lia,by lia⟩,⟨e1,e2,⟨_,_,e3⟩,e4,e5⟩,λ c hc=>?_,q⟩;have hle:s1.heap.objs.size<=c:=by
  simp only[List.mem_cons,List.not_mem_nil,or_false]at hc;lia
 exact I1.fpOk hle (I1.hok.fresh hle)
def xq(l m:List D):List D:=(l.zip m).map λ p=>.tup [p.1,p.2]
def qL:List D->Rs (List D)
 |[.tup l,.tup m]=>.ok (xq l m)
 |_=>.st
theorem aK1{K:PySem.W.Frag}{lab:Lab}{H:Hp}{a b:Addr}{xs ys:List V}{ds es:List D}(h:SqT K H a xs)(r:Rps K (λ p=>(lab p).1<=1) H xs ds)(h2:SqT K H b ys)(r2:Rps K (λ p=>(lab p).1<=1) H ys es):JL K lab (Itz K a b) H (xq ds es):=by
 have hl:=r.length;have hl2:=r2.length;have hle:(xq ds es).length=min ds.length es.length:=by simp[xq]
 refine λ i=>⟨λ hi=>⟨xs,ys,h,h2,by lia⟩,λ hi=>⟨⟨xs,ys,xs[i]'(by lia),ys[i]'(by lia),h,h2,by simp,by simp⟩,λ x H' y=>?_⟩⟩
 obtain⟨p,y,y2,rfl,hp,rfl,hy,hy2⟩:=y;obtain⟨d,g1,g2⟩:=r.get (hy xs h);obtain⟨d2,g3,g4⟩:=r2.get (hy2 ys h2);refine⟨bL hp _,.tup [d,d2],?_,.tup (.inl (.inl bA)) (.cons (g2.up (bL hp _)) (.cons (g4.up (bL hp _)) .nil))⟩;unfold xq;rw[List.getElem?_map,List.getElem?_zip_eq_some (z:=(d,d2)) |>.mpr ⟨g1,g3⟩];rfl
section
variable{C:Ct}{m:Mode}{a b:Expr}{ga:En->Rs (List D)}{elts:List Expr}{x1:Nat}{ps p pos:Pos}
theorem aCJ(ha:SA C m [a,b] ga)(hm:C.mg "zip"=none)(ho:okS m=true:=by rfl)(hs:∀i,starEach [a,b] (C.X i).env=[(false,eval a (C.X i).env),(false,eval b (C.X i).env)]:=by intro _;rfl)(hs2:∀i,starEach [b] (C.X i).env=[(false,eval b (C.X i).env)]:=by intro _;rfl)(hg:∀i,Gl (C.X i) "zip":=by intro _;rfl)(hv:bootBuiltins "zip"=some (.type "zip"):=by decide+kernel):
  SI C (.Tuple elts x1 ps) (.Call (.Name "zip" p) [a,b] [] pos) (eZ qL ga):=by
 obtain⟨t,p1,p2⟩:=ha;refine⟨aL8 C.K t,λ i=>by rw[<-C.hK i];exact aJ9 (p1 i) (hg i) (by rw[(C.cx i).2.2.2.1];exact hm) hv (hs i) (hs2 i),λ τ σ H ρ lab Rr R W=>p2 τ σ H ρ lab _ R (W.bd.imp λ ds _ w vs H1 s r=>?_)⟩;unfold qL at w;split at w
 ·rename_i l k _
  cases r with
  |cons r1 rr=>
   obtain⟨v2,rfl,r2⟩:=rr.one_inv;obtain⟨R',r1'⟩:=R.shared ho s r1;obtain⟨_,r2'⟩:=R.shared ho s r2;obtain⟨b,xs,rfl,h,q⟩:=r1'.tup_inv;obtain⟨b2,xs2,rfl,h2,q2⟩:=r2'.tup_inv;refine⟨b,b2,rfl,⟨xs,h⟩,⟨xs2,h2⟩,w _ H1 _ [(.ref b,.tup l),(.ref b2,.tup k)] s (λ p o e=>bc e) ⟨R'.len,R'.sl,R'.old,R'.new,λ z hz=>?_⟩ λ lab' H' hq=>?_⟩
   ·rcases List.mem_cons.mp hz with rfl|hz
    ·exact .tup h q
    ·rcases List.mem_cons.mp hz with rfl|hz
     ·exact .tup h2 q2
     ·exact R'.tm z hz
   ·have z:=hq _ (List.mem_cons_self ..)
    have z2:=hq _ (List.mem_cons_of_mem _ (List.mem_cons_self ..));cases z with
    |tup h' q'=>
     cases z2 with
     |tup h2' q2'=>exact aK1 h' q' h2' q2'
 ·exact False.elim w
end
def aA6(K:PySem.W.Frag)(x:Str)(Pt:Addr):Bool:=match PySem.W.nsIn K mainGlobals x with
 |some (some (.ref f))=>(match K.lookup f with
  |some ⟨_,_,.func fd,_⟩=>(match fd.code with| .ref c=>PySem.W.codeHdIn K c Pt|_=>false)
  |_=>false)&&(K.lookup Pt).isNone
 |_=>false
theorem aEU{K:PySem.W.Frag}{h:Heap}{mg:Str->Option Value}{fa Pt:Addr}{x:Str}(X:K.In h)(G:h.Ns mainGlobals mg)(hm:mg x=some (.ref fa))(e:aA6 K x Pt=true)
  {o:Obj}{fd:FuncData}(lk:K.lookup fa=some o)(hd:o.data= .func fd):K.lookup Pt=none/\∃c,fd.code= .ref c/\PySem.W.codeHdIn K c Pt=true:=by
 unfold aA6 at e;split at e
 ·rename_i f hf
  have e1:=(PySem.W.mg_of X G hf).symm.trans hm;cases e1;rw[Bool.and_eq_true]at e;refine⟨by simpa using e.2,?_⟩;have e2:=e.1;rw[lk]at e2;split at e2
  ·rename_i fd' _ q
   have q2:=Option.some.inj q;rw[q2]at hd;have hd2:Data.func fd'=Data.func fd:=hd;cases hd2;split at e2
   ·rename_i c hc
    exact⟨c,hc,e2⟩
   ·cases e2
  ·cases e2
 ·cases e
theorem aHu{P:Program}{w:World}{K:PySem.W.Frag}{h:Heap}{mg:Str->Option Value}{fa Pt:Addr}{fd:FuncData}{k n:Nat}{x:Str}{N:List Str}{st:Stmt}{f:En->Ou}{F:List D->Rs D}(X:K.In h)(G:h.Ns mainGlobals mg)
  (hB:aA6 K "law" Pt=true){ps:List Str}(e:Dnr K mg "law" st ps fa fd)(S:aa N [x] (aH st))
  (hbind:∀(kV doc pm:Value) (an:Option Addr) (cdv ct:Value) (s:Shared) (u:Value),BindsTo s (PySem.W.fnOf "law" "law" (pK st) (eE st) (aH st) .none kV doc pm an cdv ct) ⟨[u],[]⟩ [(x,u)])
  (body:∀(base:Heap) (c:Addr) (s:Shared) (H:Hp) (hr:fY k (callerA.deeper (envOfC "law" (aH st) s.heap.objs.size fa (.ref c)))),um (cxW P w K mg base N "law" (aH st) fa (.ref c) callerA s H Pt) Pt->List.Nodup N->
   SSs (ctW P w K mg base N "law" (aH st) fa (.ref c) callerA s H Pt k hr) (eE st) f)
  (hF:F=eY N.length f)(tru:∀ns:List Int,ns.length<=n->F [.scr ns]= .ok (.bl true)):aDq P w K mg fa Pt k n:=by
 obtain⟨oc,od,kV,doc,pm,an,cdv,ct,osl,e1,lk,hcd⟩:=e.F.ex;obtain⟨h1,c,h2,h3⟩:=aEU X G e.m hB lk rfl;subst e1;obtain rfl:cdv= .ref c:=h2;exact⟨x,"law","law",_,_,_,_,kV,doc,pm,ct,oc,an,od,c,osl,N,h1,h3,lk,hcd,S,λ s u=>hbind kV doc pm an _ ct s u,λ a ns hl base s H hr Lx hO hS=>
  aGD (body base c s H hr Lx S.nd) (by rw[<-hF];exact tru ns hl) (.cons (.scr (aJX hO hS)) .nil)⟩
section
variable{ρ:En}{i:Nat}{f g:En->Rs D}{fb gb:En->Rs Bool}{ga:En->Rs (List D)}{u v:En->Ou}{d e:D}
@[simp] theorem varD_ap:vU i ρ=match ρ[i]? with
 |some (.sh d)=>.ok d
 |some (.nw d)=>.ok d
 |some (.ow d)=>.ok d
 |some (.oz d)=>.ok d
 |some (.o2 l)=>.ok (.lst (l.map .lst))
 |_=>.st:=aO rfl
@[simp] theorem aHB:aD i ρ=match ρ[i]? with
 |some (.sh d)=>.ok d
 |some (.nw d)=>.ok d
 |_=>.st:=aO rfl
@[simp] theorem varN_ap:iB i ρ=match ρ[i]? with
 |some (.nw d)=>.ok d
 |_=>.st:=aO rfl
@[simp] theorem varO_ap:j9 i ρ=match ρ[i]? with
 |some (.ow d)=>.ok d
 |some (.o2 l)=>.ok (.lst (l.map .lst))
 |_=>.st:=aO rfl
@[simp] theorem cD_ap:cD d ρ= .ok d:=aO rfl
@[simp] theorem vJ:aF ρ= .ok []:=aO rfl
@[simp] theorem dY:aA f ga ρ=(f ρ).bd λ d=>(ga ρ).bd λ ds=>.ok (d::ds):=aO rfl
@[simp] theorem szl:sizeLine=16777216:=sizeLine_eq
@[simp] theorem tupD_ap:bH ga ρ=(ga ρ).bd λ ds=>if ds.length<=16777216 then .ok (.tup ds)else .st:=by unfold bH;rw[szl]
@[simp] theorem lstD_ap:dJ ga ρ=(ga ρ).bd λ ds=>if ds.length<=16777216 then .ok (.lst ds)else .st:=by unfold dJ;rw[szl]
@[simp] theorem oO:okD (.ok d)= .ok d:=aO rfl
@[simp] theorem nG:op2 fd f g ρ=(f ρ).bd λ x=>(g ρ).bd λ y=>okD (fd x y):=aO rfl
@[simp] theorem op1_ap:op1 fd f ρ=(f ρ).bd λ x=>okD (fd x):=aO rfl
@[simp] theorem jX:opA fd ga ρ=(ga ρ).bd λ x=>okD (fd x):=aO rfl
@[simp] theorem kY:aM F ga ρ=(ga ρ).bd F:=aO rfl
def aLf(d:D)(r:Rs D):Rs D:=match d with
 | .bl true=>r
 | .bl false=>.ok (.bl false)
 |_=>.st
@[simp] theorem aDm:aLf (.bl b) r=if b=true then r else .ok (.bl false):=by cases b<;>rfl
@[simp] theorem aAq:qt f g ρ=(f ρ).bd λ d=>aLf d (g ρ):=aO rfl
@[simp] theorem notD_bl:aKL (.bl b)= .ok (.bl (!b)):=aO rfl
def chR(d:D)(r:Rs D):Rs D:=match d with
 | .bl true=>r
 | .bl false=>.ok (.bl false)
 |_=>.st
@[simp] theorem chR_bl:chR (.bl b) r=if b=true then r else .ok (.bl false):=by cases b<;>rfl
@[simp] theorem chD_ap:chD fd fd' f g h ρ=(f ρ).bd λ x=>(g ρ).bd λ y=>(okD (fd x y)).bd λ z=>chR z ((h ρ).bd λ w=>okD (fd' y w)):=aO rfl
@[simp] theorem aHD:aJL (.bl b)= .ok b:=aO rfl
@[simp] theorem aKj:blD (.bl b)= .ok b:=aO rfl
@[simp] theorem aCB:tst f ρ=(f ρ).bd aJL:=aO rfl
@[simp] theorem zY:tsb f ρ=(f ρ).bd blD:=aO rfl
@[simp] theorem aI4:aI5 fb gb ρ=(fb ρ).bd λ k=>if k=true then gb ρ else .ok false:=aO rfl
@[simp] theorem aJs:orT fb gb ρ=(fb ρ).bd λ k=>if k=true then .ok true else gb ρ:=aO rfl
@[simp] theorem aAR:fB fb ρ=(fb ρ).bd λ k=>.ok (!k):=aO rfl
@[simp] theorem aN:aU u v ρ=(u ρ).sq v:=aO rfl
@[simp] theorem gM:retS f ρ=(f ρ).bo .rt:=aO rfl
@[simp] theorem aBh:oY f ρ=(f ρ).bo λ _=>.nx ρ:=aO rfl
@[simp] theorem aAc:ifS fb u v ρ=(fb ρ).bo λ k=>if k=true then u ρ else v ρ:=aO rfl
@[simp] theorem aHM:cU i f ρ=(f ρ).bo λ d=>.nx (ρ.set i (.sh d)):=aO rfl
@[simp] theorem vD:qP i f ρ=(f ρ).bo λ d=>.nx (ρ.set i (.nw d)):=aO rfl
@[simp] theorem zm:lE i f ρ=(f ρ).bo λ d=>.nx (ρ.set i (.ow d)):=aO rfl
@[simp] theorem t7:gnm i d ρ= .ok (ρ.set i (.sh d)):=aO rfl
@[simp] theorem gnil_nil:fM [] ρ= .ok ρ:=aO rfl
@[simp] theorem gcons_cons:aj a b (d::ds) ρ=(a d ρ).bd (b ds):=aO rfl
@[simp] theorem gtup_tup:fD n b (.tup ds) ρ=if ds.length=n then b ds ρ else .st:=aO rfl
def nxO(r:Rs En):Ou:=match r with
 | .ok ρ=>.nx ρ
 |_=>.st
@[simp] theorem nxO_ok:nxO (.ok ρ)= .nx ρ:=aO rfl
@[simp] theorem asgS_ap:aGn f a ρ=(f ρ).bo λ d=>nxO (a d ρ):=aO rfl
@[simp] theorem itD_tup:itD (.tup l)= .ok l:=aO rfl
@[simp] theorem itD_lst:itD (.lst l)= .ok l:=aO rfl
@[simp] theorem itrD_ap:bW f ρ=(f ρ).bd itD:=aO rfl
@[simp] theorem fj:dj ga a u ρ=(ga ρ).bo λ ds=>forL a u ds ρ:=aO rfl
@[simp] theorem forL_nil:forL a u [] ρ= .nx ρ:=aO rfl
def Ou.tn(o:Ou)(k:En->Ou):Ou:=match o with
 | .nx ρ2=>k ρ2
 | .ct ρ2=>k ρ2
 | .bk ρ2=>.nx ρ2
 |o=>o
@[simp] theorem vW:(Ou.nx ρ).tn k=k ρ:=aO rfl
@[simp] theorem aKx:(Ou.rt d).tn k= .rt d:=aO rfl
def okE(r:Rs En)(k:En->Ou):Ou:=match r with
 | .ok ρ=>k ρ
 |_=>.st
@[simp] theorem oN:okE (.ok ρ) k=k ρ:=aO rfl
theorem fu:forL a u (d::ds) ρ=okE (a d ρ) λ ρ1=>(u ρ1).tn (forL a u ds):=by
 unfold forL;cases a d ρ with
 |ok ρ1=>simp only[oN];cases u ρ1<;>rfl
 |ex c=>rfl
 |st=>rfl
@[simp] theorem oNone_ap:cB ρ= .ok none:=aO rfl
@[simp] theorem oSome_ap:cA f ρ=(f ρ).bd λ d=>match d with
 | .int i=>.ok (some i)
 |_=>.st:=aO rfl
@[simp] theorem aDv:bM f a b ρ=(f ρ).bd λ d=>(a ρ).bd λ l=>(b ρ).bd λ h=>okD (slD d l h):=aO rfl
@[simp] theorem slD_tup:slD (.tup l) a b= .ok (.tup (cutD l a b)):=aO rfl
@[simp] theorem revD_tup:uq (.tup l)= .ok (.tup l.reverse):=aO rfl
@[simp] theorem immD_ap:aq f ρ=(f ρ).bd rY:=aO rfl
@[simp] theorem aHS:eZ r ga ρ=(ga ρ).bd r:=aO rfl
@[simp] theorem raiseS_ap:wA x ga ρ=(ga ρ).bo λ ds=>if ds.length<=16777216 then .ex x else .st:=by unfold wA;rw[szl]
@[simp] theorem aDG:cz ρ= .ok true:=aO rfl
end
section
variable{d e:D}{i j:Int}{l m:List D}
theorem aIQ(h:imm d=true):rY d= .ok d:=by unfold rY;rw[if_pos h]
@[simp] theorem gImm_int:rY (.int i)= .ok (.int i):=aO rfl
@[simp] theorem addD_int:au (.int i) (.int j)= .ok (.int (i+j)):=aO rfl
@[simp] theorem aBr:au (.lst l) (.lst m)=if l.length+m.length<=16777216 then .ok (.lst (l++m))else .st:=by unfold au;rw[szl]
@[simp] theorem mR:au (.tup l) (.tup m)=if l.length+m.length<=16777216 then .ok (.tup (l++m))else .st:=by unfold au;rw[szl]
@[simp] theorem subD_int:aCG (.int i) (.int j)= .ok (.int (i-j)):=aO rfl
theorem yz(h0:0<j)(h1:j<1073741824):uT (.int i) (.int j)= .ok (.int (i / j)):=by unfold uT i2;dsimp only;rw[if_pos (by simp[h0,h1])]
theorem lu(h0:0<j):oR (.int i) (.int j)= .ok (.int (i%j)):=by unfold oR i2;dsimp only;rw[if_pos (by simp[h0])]
theorem aAT(h0: -(2^64)<i)(h1:i<2^64):lr (.int i) (.int j)= .ok (.int (i*j)):=by unfold lr;dsimp only;rw[if_pos (by simp only[Bool.or_eq_true,Bool.and_eq_true,decide_eq_true_eq];exact .inl ⟨h0,h1⟩)]
theorem aFt(h0: -(2^64)<j)(h1:j<2^64):lr (.int i) (.int j)= .ok (.int (i*j)):=by unfold lr;dsimp only;rw[if_pos (by simp only[Bool.or_eq_true,Bool.and_eq_true,decide_eq_true_eq];exact .inr ⟨h0,h1⟩)]
@[simp] theorem negD_int:aBY (.int i)= .ok (.int (-i)):=aO rfl
@[simp] theorem ltD_int:ltD (.int i) (.int j)= .ok (.bl (decide (i<j))):=aO rfl
@[simp] theorem leD_int:leD (.int i) (.int j)= .ok (.bl (decide (i<=j))):=aO rfl
@[simp] theorem geD_int:geD (.int i) (.int j)= .ok (.bl (decide (j<=i))):=aO rfl
theorem aHs(ns ms:List Int):ltD (.tup (ns.map .int)) (.tup (ms.map .int))= .ok (.bl (HT.lexLt ns ms)):=by
 unfold ltD ltT i2;simp only[fQ]
@[simp] theorem lenD_tup:cO [.tup l]= .ok (.int l.length):=aO rfl
@[simp] theorem lenD_lst:cO [.lst l]= .ok (.int l.length):=aO rfl
@[simp] theorem lenD_scr:cO [.scr x]= .ok (.int x.length):=aO rfl
@[simp] theorem tupleD_lst:dO [.lst l]= .ok (.tup l):=aO rfl
@[simp] theorem listD_tup:uO [.tup l]= .ok (.lst l):=aO rfl
@[simp] theorem mmD_int:mmD f [.int i,.int j]= .ok (.int (f i j)):=aO rfl
@[simp] theorem ixD_tup:ixD (.tup l) (.int i)=atD l i:=aO rfl
@[simp] theorem ixD_lst:ixD (.lst l) (.int i)=atD l i:=aO rfl
@[simp] theorem ixD_scr:ixD (.scr x) (.int i)=atD (x.map .int) i:=aO rfl
theorem lL{k:Nat}(h:l[k]? =some d):atD l (k:Int)= .ok d:=by
 have hk:=(List.getElem?_eq_some_iff.mp h).1;unfold atD atI ixN;rw[if_pos (by omega),if_pos (by omega)];simp[h]
theorem lR(h0:0<=i)(h1:i<l.length):∃d,atD l i= .ok d/\d∈l/\l[i.toNat]? =some d:=by
 have hk:i.toNat<l.length:=by omega
 have e:=List.getElem?_eq_getElem hk;refine⟨_,?_,List.getElem_mem hk,e⟩
 have:=lL e
 rwa [Int.toNat_of_nonneg h0]at this
@[simp] theorem atD_0{r:List D}:atD (d::r) 0= .ok d:=lL (k:=0) rfl
@[simp] theorem atD_1{r:List D}:atD (d::e::r) 1= .ok e:=lL (k:=1) rfl
@[simp] theorem eqR_int:eqR n (.int i) (.int j)= .ok (.bl (if n then !(i==j)else i==j)):=aO rfl
@[simp] theorem eqR_bl:eqR n (.bl a) (.bl b)= .ok (.bl (if n then !(a==b)else a==b)):=aO rfl
@[simp] theorem isD_bl:isD false (.bl a) (.bl b)= .ok (.bl (a==b)):=aO rfl
def knd:D->Bool
 | .set _=>false
 | .scr _=>false
 | .fn _=>false
 |_=>true
theorem aA8(hT:T∈["bool","int","str","list","tuple","dict"])(h:knd d=true):fK T d= .ok (.bl (aIA (tyD d) T)):=by
 have ht:tyD d∈["NoneType","bool","int","str","list","tuple","dict"]:=by cases d<;>simp_all [tyD,knd]
 unfold fK pZ;cases e:aIA (tyD d) T<;>simp[ht,hT]
def aCr:D->Bool
 | .int _=>true
 | .bl _=>true
 |_=>false
def aL5:D->Bool
 | .bl _=>true
 |_=>false
def kI:D->Bool
 | .tup _=>true
 |_=>false
theorem vK(h:knd d=true):fK "int" d= .ok (.bl (aCr d)):=by
 rw[aA8 (by simp) h];cases d<;>first|rfl|(simp[knd]at h)
theorem wZ(h:knd d=true):fK "bool" d= .ok (.bl (aL5 d)):=by
 rw[aA8 (by simp) h];cases d<;>first|rfl|(simp[knd]at h)
theorem iW(h:knd d=true):fK "tuple" d= .ok (.bl (kI d)):=by
 rw[aA8 (by simp) h];cases d<;>first|rfl|(simp[knd]at h)
@[simp] theorem yO:fK "tuple" (.tup l)= .ok (.bl true):=iW rfl
@[simp] theorem isi_int_int:fK "int" (.int i)= .ok (.bl true):=vK rfl
@[simp] theorem isi_bool_int:fK "bool" (.int i)= .ok (.bl false):=wZ rfl
@[simp] theorem isi_bool_bl:fK "bool" (.bl b)= .ok (.bl true):=wZ rfl
end
@[simp] theorem bK:eY n u ds=match u (bF n ds)with
 | .nx _=>.ok .non
 | .rt d=>.ok d
 | .ex c=>.ex c
 |_=>.st:=aO rfl
theorem pA(h0: -(2^62)<=j)(h1:j<2^62):nA [.int j]= .ok (di 0 j):=by unfold nA;dsimp only;rw[if_pos ⟨h0,h1⟩]
theorem aAD(h0: -(2^62)<=i)(h1:i<2^62)(h2: -(2^62)<=j)(h3:j<2^62):vq [.int i,.int j]= .ok (di i j):=by unfold vq;dsimp only;rw[if_pos ⟨⟨h0,h1⟩,h2,h3⟩]
theorem aBZ{lo hi:Int}:d∈di lo hi↔∃k:Int,d= .int k/\lo<=k/\k<hi:=by
 unfold di;rw[List.mem_map];constructor
 ·rintro⟨n,hn,rfl⟩
  have:=List.mem_range.mp hn
  exact⟨lo+n,rfl,by omega,by omega⟩
 ·rintro⟨k,rfl,h1,h2⟩
  exact⟨(k-lo).toNat,List.mem_range.mpr (by omega),by congr 1;omega⟩
theorem wu(I:Nat->En->Prop)(hs:∀(i:Nat) d ρ,ds[i]? =some d->I i ρ->∃ρ2,okE (a d ρ) (λ ρ1=>u ρ1)= .nx ρ2/\I (i+1) ρ2)(h0:I 0 ρ):∃ρ',forL a u ds ρ= .nx ρ'/\I ds.length ρ':=by
 have go:∀(n:Nat) (ρ:En),n<=ds.length->I (ds.length-n) ρ->∃ρ',forL a u (ds.drop (ds.length-n)) ρ= .nx ρ'/\I ds.length ρ':=by
  intro n;induction n with
  |zero=>intro ρ _ h;exact⟨ρ,by rw[Nat.sub_zero,List.drop_length];rfl,h⟩
  |succ n ih=>
   intro ρ hn h;have hlt:ds.length-(n+1)<ds.length:=by omega
   rw[List.drop_eq_getElem_cons hlt,fu];obtain⟨ρ2,e,h2⟩:=hs _ _ ρ (List.getElem?_eq_getElem hlt) h;rw[show ds.length-(n+1)+1=ds.length-n by omega]at h2 ⊢;cases ea:a ds[ds.length-(n+1)] ρ with
   |ok ρ1=>
    rw[ea]at e;simp only[oN]at e ⊢;rw[e,vW];exact ih ρ2 (by omega) h2
   |ex c=>rw[ea]at e;cases e
   |st=>rw[ea]at e;cases e
 have:=go ds.length ρ (Nat.le_refl _) (by rw[Nat.sub_self];exact h0)
 rwa [Nat.sub_self,List.drop_zero]at this
end VL
namespace VL.My
open PySem L2
def wdN:Str->Option Str:=λ c=>((["NoWeb","NoPlace","NoWay","NoParting","TooMany","NoForest","NoPlan","NoOneWay","NoOrder","NoText","NoDeed","NoRow"]:List Str).zip (["web","place","way","parting","many","forest","plan","one way","order","text","deed","row"]:List Str)).lookup c
def ik:En->Ou:=
  (retS (qt (op1 (fK "int") (aD 0)) (op1 aKL (op1 (fK "bool") (aD 0)))))
def lD:List D->Rs D:=eY 1 ik
def fV:En->Ou:=
  (aU (dj (eZ vq (aA (cD (.int 1)) (aA (opA cO (aA (aD 0) aF)) aF))) (gnm 1)
   (ifS (fB (tsb (op2 ltD (op2 ixD (aD 0) (op2 aCG (aD 1) (cD (.int 1)))) (op2 ixD (aD 0) (aD 1)))))
    (retS (cD (.bl false)))
    Ou.nx))
  (retS (cD (.bl true))))
def gq:List D->Rs D:=eY 2 fV
def gk:En->Ou:=
  (retS (op2 (eqR false) (opA gJ (aA (aA1 (bW (aD 1)) [none,none] (gnm 0) cz (inL (bW (aD 0)) (gnm 1) cz (aq (aD 1)))) aF)) (lrD (aD 0))))
def gr:List D->Rs D:=eY 2 gk
def mK:En->Ou:=
  (retS (bH (aA (opA (mmD λ i j=>if j<i then j else i) (aA (aD 0) (aA (aD 1) aF))) (aA (opA (mmD λ i j=>if j>i then j else i) (aA (aD 0) (aA (aD 1) aF))) aF))))
def iQ:List D->Rs D:=eY 2 mK
def iw:En->Ou:=
  (aU (aGn (aD 0) (fD 2 (aj (gnm 1) (aj (gnm 2) fM))))
  (aU (llS 3 (eZ nA (aA (aD 1) aF)) [none] (gnm 0))
  (aU (dj (bW (aD 2)) (fD 2 (aj (gnm 4) (aj (gnm 5) fM)))
   (aU (j6 3 (aD 4) (aq (aD 5)))
   (j6 3 (aD 5) (aq (aD 4)))))
  (retS (j9 3)))))
def jF:List D->Rs D:=eY 6 iw
def dX:En->Ou:=
  (retS (opA lG (aA (aD 0) (aA (op1 uq (aD 0)) aF))))
def dg:List D->Rs D:=eY 1 dX
def dH:En->Ou:=
  (aU (ifS (tsb (op2 ltD (aD 1) (opA cO (aA (aD 0) aF))))
   (retS (aq (op2 ixD (aD 0) (aD 1))))
   Ou.nx)
  (retS (cD (.int 0))))
def dI:List D->Rs D:=eY 2 dH
def fU:En->Ou:=
  (aU (ifS (tsb (op2 geD (aD 0) (op2 aJ8 (cD (.int 10)) (cD (.int 18)))))
   (aU (cU 3 (aD 0))
   (aU (dj (eZ nA (aA (aD 1) aF)) (gnm 4)
    (aU (ifS (tsb (op2 (eqR false) (aD 3) (cD (.int 0))))
     (retS (cD (.int 0)))
     Ou.nx)
    (cU 3 (op2 uT (aD 3) (aD 2)))))
   (retS (op2 oR (aD 3) (aD 2)))))
   Ou.nx)
  (aU (cU 5 (op2 oR (op2 lr (op2 au (op2 au (op2 oR (aD 0) (cD (.int 1000000007))) (op2 lr (cD (.int 1009)) (aD 1))) (cD (.int 17))) (cD (.int 69621))) (cD (.int 2147483647))))
  (aU (cU 5 (op2 oR (op2 au (op2 au (op2 lr (aD 5) (aD 5)) (op2 lr (cD (.int 40503)) (aD 1))) (cD (.int 5))) (cD (.int 2147483629))))
  (retS (op2 oR (op2 uT (op2 oR (op2 lr (aD 5) (cD (.int 48271))) (cD (.int 2147483647))) (cD (.int 32))) (aD 2))))))
def aX:List D->Rs D:=eY 6 fU
def iZ:En->Ou:=
  (aU (llS 1 (eZ nA (aA (op2 ixD (aD 0) (cD (.int 0))) aF)) [none] (gnm 0))
  (aU (dj (bW (op2 ixD (aD 0) (cD (.int 1)))) (fD 2 (aj (gnm 2) (aj (gnm 3) fM)))
   (aU (j6 1 (aD 2) (aq (aD 3)))
   (j6 1 (aD 3) (aq (aD 2)))))
  (retS (j9 1))))
def jE:List D->Rs D:=eY 4 iZ
def ie:En->Ou:=
  (aU (ifS (orT (fB (tst (op1 (fK "tuple") (aD 1)))) (tsb (op2 (eqR false) (aD 1) (bH aF))))
   (retS (cD (.bl false)))
   Ou.nx)
  (aU (dj (bW (aD 1)) (gnm 2)
   (ifS (orT (fB (tst (op1 (fK "int") (aD 2)))) (orT (tst (op1 (fK "bool") (aD 2))) (fB (tsb (chD leD ltD (cD (.int 0)) (aD 2) (op2 ixD (aD 0) (cD (.int 0))))))))
    (retS (cD (.bl false)))
    Ou.nx))
  (aU (ifS (tsb (op2 (eqR true) (opA ut (aA (opA sZ (aA (aD 1) aF)) aF)) (opA cO (aA (aD 1) aF))))
   (retS (cD (.bl false)))
   Ou.nx)
  (aU (dj (eZ qL (aA (aD 1) (aA (bM (aD 1) (cA (cD (.int 1))) cB) aF))) (fD 2 (aj (gnm 3) (aj (gnm 4) fM)))
   (ifS (tsb (op2 (inR true) (bH (aA (opA (mmD λ i j=>if j<i then j else i) (aA (aD 3) (aA (aD 4) aF))) (aA (opA (mmD λ i j=>if j>i then j else i) (aA (aD 3) (aA (aD 4) aF))) aF))) (op2 ixD (aD 0) (cD (.int 1)))))
    (retS (cD (.bl false)))
    Ou.nx))
  (retS (cD (.bl true)))))))
def lC:List D->Rs D:=eY 5 ie
def gh:En->Ou:=
  (retS (opA dO (aA (opA gJ (aA (lcD (bW (aD 0)) [none] (gnm 0) cz (opA lG (aA (aD 0) (aA (op1 uq (aD 0)) aF)))) aF)) aF)))
def jR:List D->Rs D:=eY 1 gh
def gj:En->Ou:=
  (aU (lE 1 (dJ aF))
  (aU (dj (bW (aD 0)) (gnm 2)
   (aIT 1 (lcD (eZ qL (aA (aD 2) (aA (bM (aD 2) (cA (cD (.int 1))) cB) aF))) [none,none] (fD 2 (aj (gnm 0) (aj (gnm 1) fM))) cz (bH (aA (opA (mmD λ i j=>if j<i then j else i) (aA (aD 0) (aA (aD 1) aF))) (aA (opA (mmD λ i j=>if j>i then j else i) (aA (aD 0) (aA (aD 1) aF))) aF))))))
  (retS (opA dO (aA (opA gJ (aA (vU 1) aF)) aF)))))
def jT:List D->Rs D:=eY 3 gj
def jk:En->Ou:=
  (retS (qt (aM lD (aA (aD 0) aF)) (chD leD leD (cD (.int 0)) (aD 0) (cD (.int 60)))))
def pL:List D->Rs D:=eY 1 jk
def il:En->Ou:=
  (retS (qt (aM lD (aA (aD 1) aF)) (chD leD ltD (cD (.int 0)) (aD 1) (aD 0))))
def cM:List D->Rs D:=eY 2 il
def jh:En->Ou:=
  (aU (cU 2 (aM aX (aA (aD 0) (aA (cD (.int 0)) (aA (op2 au (aD 1) (cD (.int 1))) aF)))))
  (aU (cU 3 (op2 au (cD (.int 1)) (aM aX (aA (aD 0) (aA (cD (.int 1)) (aA (cD (.int 6)) aF))))))
  (aU (lE 4 (dJ aF))
  (aU (dj (eZ nA (aA (aD 2) aF)) (gnm 5)
   (dj (eZ vq (aA (op2 au (aD 5) (cD (.int 1))) (aA (aD 2) aF))) (gnm 6)
    (ifS (tsb (op2 ltD (aM aX (aA (aD 0) (aA (op2 au (op2 au (cD (.int 3)) (op2 lr (cD (.int 61)) (aD 5))) (aD 6)) (aA (cD (.int 8)) aF)))) (aD 3)))
     (yV 4 (bH (aA (aq (aD 5)) (aA (aq (aD 6)) aF))))
     Ou.nx)))
  (retS (bH (aA (aq (aD 2)) (aA (opA dO (aA (j9 4) aF)) aF))))))))
def jD:List D->Rs D:=eY 7 jh
def gA:En->Ou:=
  (aU (qP 4 (lrD (op2 ixD (aD 2) (cD (.int 0)))))
  (aU (lE 5 (dJ aF))
  (aU (zX (tsb (op2 (eqR true) (iB 4) (dJ aF)))
   (aU (cU 6 (bH (aA (op2 ixD (iB 4) (aM aX (aA (aD 0) (aA (op2 au (aD 1) (opA cO (aA (iB 4) aF))) (aA (opA cO (aA (iB 4) aF)) aF))))) aF)))
   (aU (cU 7 (aM aX (aA (aD 0) (aA (op2 au (op2 au (aD 1) (cD (.int 70))) (opA cO (aA (iB 4) aF))) (aA (op2 au (op2 ixD (aD 2) (cD (.int 0))) (cD (.int 1))) aF)))))
   (aU (dj (eZ nA (aA (aD 7) aF)) (gnm 8)
    (aU (qP 9 (lcD (bW (op2 ixD (aD 3) (op2 ixD (aD 6) (op1 aBY (cD (.int 1)))))) [none,some 4,some 6] (gnm 0) (aI5 (tsb (op2 (inR false) (aD 0) (aD 1))) (tsb (op2 (inR true) (aD 0) (aD 2)))) (aq (aD 0))))
    (ifS (tsb (op2 (eqR true) (iB 9) (dJ aF)))
     (cU 6 (op2 au (aD 6) (bH (aA (op2 ixD (iB 9) (aM aX (aA (aD 0) (aA (op2 au (op2 au (aD 1) (cD (.int 140))) (aD 8)) (aA (opA cO (aA (iB 9) aF)) aF))))) aF))))
     Ou.nx)))
   (aU (qP 4 (lcD (bW (aD 4)) [none,some 6] (gnm 0) (tsb (op2 (inR true) (aD 0) (aD 1))) (aq (aD 0))))
   (yV 5 (aq (aD 6))))))))
  (retS (opA dO (aA (j9 5) aF))))))
def eG:List D->Rs D:=eY 10 gA
def cV:En->Ou:=
  (aU (ifS (orT (fB (tst (op1 (fK "tuple") (aD 1)))) (fB (tst (opA (uy λ bs=>bs.all id) (aA (lcD (bW (aD 1)) [none,some 0] (gnm 0) cz (aM lC (aA (aD 1) (aA (aD 0) aF)))) aF)))))
   (retS (cD (.bl false)))
   Ou.nx)
  (aU (lE 2 (dJ aF))
  (aU (dj (bW (aD 1)) (gnm 3)
   (aIS 2 (aq (aD 3))))
  (retS (op2 (eqR false) (opA gJ (aA (vU 2) aF)) (lrD (op2 ixD (aD 0) (cD (.int 0)))))))))
def dh:List D->Rs D:=eY 4 cV
def ig:En->Ou:=
  (aU (ifS (tsb (op2 (eqR false) (aD 2) (bH aF)))
   (retS (op2 ixD (dJ (aA (bH (aA (bH aF) aF)) (aA (bH (aA (bH (aA (cD (.int 0)) aF)) aF)) (aA (dJ aF) (aA (cD .non) (aA (cD (.int 0)) (aA (cD (.str "")) aF))))))) (aM aX (aA (aD 0) (aA (cD (.int 8000)) (aA (cD (.int 6)) aF))))))
   Ou.nx)
  (aU (cU 3 (aM aX (aA (aD 0) (aA (cD (.int 8001)) (aA (opA cO (aA (aD 2) aF)) aF)))))
  (aU (cU 4 (op2 ixD (aD 2) (aD 3)))
  (aU (cU 5 (op2 ixD (aD 2) (op2 oR (op2 au (aD 3) (cD (.int 1))) (opA cO (aA (aD 2) aF)))))
  (aU (qP 6 (dJ (aA (aq (op1 uq (aD 4))) (aA (aq (bM (aD 4) (cA (cD (.int 1))) cB)) (aA (aq (bM (aD 4) cB (cA (op1 aBY (cD (.int 1)))))) (aA (op2 au (aq (aD 4)) (aq (bM (aD 4) cB (cA (cD (.int 1)))))) (aA (bH (aA (aq (op2 ixD (aD 1) (cD (.int 0)))) aF)) (aA (opA uO (aA (aq (aD 4)) aF)) (aA (cD .non) (aA (op2 au (aq (bM (aD 5) cB (cA (cD (.int 1))))) (aq (bM (aD 4) (cA (cD (.int 1))) cB))) (aA (bH (aA (cD (.bl true)) aF)) (aA (op2 au (aq (aD 4)) (bH (aA (cD (.int 0)) aF))) aF))))))))))))
  (aU (lE 7 (dJ (aA (op2 au (op2 au (aq (bM (aD 2) cB (cA (aD 3)))) (bH (aA (op2 ixD (iB 6) (aM aX (aA (aD 0) (aA (cD (.int 8002)) (aA (cD (.int 10)) aF))))) aF))) (aq (bM (aD 2) (cA (op2 au (aD 3) (cD (.int 1)))) cB))) (aA (op2 au (aq (bM (aD 2) cB (cA (aD 3)))) (aq (bM (aD 2) (cA (op2 au (aD 3) (cD (.int 1)))) cB))) aF))))
  (aU (lE 7 (op2 au (j9 7) (dJ (aA (op2 au (aq (aD 2)) (bH (aA (aq (aD 4)) aF))) (aA (op2 au (op2 au (aq (bM (aD 2) cB (cA (aD 3)))) (bH (aA (aq (bM (aD 4) cB (cA (cD (.int 1))))) (aA (aq (bM (aD 4) (cA (cD (.int 1))) cB)) aF)))) (aq (bM (aD 2) (cA (op2 au (aD 3) (cD (.int 1)))) cB))) (aA (opA uO (aA (aq (aD 2)) aF)) aF))))))
  (aU (yV 7 (bH (aA (aq (aD 2)) aF)))
  (aU (cU 8 (opA dO (aA (lcD (bW (aD 2)) [none,some 4,some 5] (gnm 0) (tsb (op2 (inR true) (aD 0) (bH (aA (aD 1) (aA (aD 2) aF))))) (aq (aD 0))) aF)))
  (aU (lE 7 (op2 au (j9 7) (dJ (aA (op2 au (bH (aA (op2 au (aq (aD 4)) (aq (aD 5))) aF)) (aq (aD 8))) (aA (aq (op1 uq (aD 2))) (aA (cD .non) (aA (aq (aD 4)) aF)))))))
  (retS (op2 ixD (j9 7) (op2 ixD (dJ (aA (cD (.int 0)) (aA (cD (.int 0)) (aA (cD (.int 0)) (aA (cD (.int 1)) (aA (cD (.int 2)) (aA (cD (.int 3)) (aA (cD (.int 3)) (aA (cD (.int 4)) (aA (cD (.int 5)) (aA (cD (.int 6)) (aA (cD (.int 7)) (aA (cD (.int 8)) (aA (cD (.int 9)) aF)))))))))))))) (aM aX (aA (aD 0) (aA (cD (.int 8003)) (aA (cD (.int 13)) aF)))))))))))))))))
def eO:List D->Rs D:=eY 9 ig
def ji:En->Ou:=
  (aU (ifS (orT (fB (tst (op1 (fK "tuple") (aD 1)))) (tsb (op2 (eqR true) (opA cO (aA (aD 1) aF)) (cD (.int 2)))))
   (retS (cD (.bl false)))
   Ou.nx)
  (retS (qt (aM cM (aA (aD 0) (aA (op2 ixD (aD 1) (cD (.int 0))) aF))) (qt (aM cM (aA (aD 0) (aA (op2 ixD (aD 1) (cD (.int 1))) aF))) (op2 (eqR true) (op2 ixD (aD 1) (cD (.int 0))) (op2 ixD (aD 1) (cD (.int 1))))))))
def mV:List D->Rs D:=eY 2 ji
def gC:En->Ou:=
  (aU (ifS (orT (fB (tst (op1 (fK "tuple") (aD 1)))) (tsb (op2 (eqR false) (opA cO (aA (aD 1) aF)) (cD (.int 0)))))
   (retS (cD (.bl false)))
   Ou.nx)
  (aU (dj (bW (aD 1)) (gnm 2)
   (ifS (fB (tst (aM cM (aA (opA cO (aA (aD 0) aF)) (aA (aD 2) aF)))))
    (retS (cD (.bl false)))
    Ou.nx))
  (aU (ifS (tsb (op2 (eqR true) (opA ut (aA (opA sZ (aA (aD 1) aF)) aF)) (opA cO (aA (aD 1) aF))))
   (retS (cD (.bl false)))
   Ou.nx)
  (aU (dj (eZ vq (aA (cD (.int 1)) (aA (opA cO (aA (aD 1) aF)) aF))) (gnm 3)
   (ifS (tsb (op2 (inR true) (op2 ixD (aD 1) (aD 3)) (op2 ixD (aD 0) (op2 ixD (aD 1) (op2 aCG (aD 3) (cD (.int 1)))))))
    (retS (cD (.bl false)))
    Ou.nx))
  (retS (cD (.bl true)))))))
def cC:List D->Rs D:=eY 4 gC
def bV:En->Ou:=
  (aU (ifS (fB (tst (op1 (fK "tuple") (aD 1))))
   (retS (cD (.bl false)))
   Ou.nx)
  (aU (dj (bW (aD 1)) (gnm 2)
   (ifS (fB (tst (aM mV (aA (aD 0) (aA (aD 2) aF)))))
    (retS (cD (.bl false)))
    Ou.nx))
  (retS (aM gq (aA (aD 1) aF)))))
def bh:List D->Rs D:=eY 3 bV
def iu:En->Ou:=
  (retS (qt (aM bh (aA (aD 0) (aA (aD 1) aF))) (opA (uy λ bs=>bs.all id) (aA (lcD (bW (aD 1)) [none,none] (fD 2 (aj (gnm 0) (aj (gnm 1) fM))) cz (op2 ltD (aD 0) (aD 1))) aF))))
def nU:List D->Rs D:=eY 2 iu
def mL:En->Ou:=
  (aU (ifS (orT (fB (tst (op1 (fK "tuple") (aD 0)))) (tsb (op2 (eqR true) (opA cO (aA (aD 0) aF)) (cD (.int 2)))))
   (retS (cD (.bl false)))
   Ou.nx)
  (retS (qt (aM pL (aA (op2 ixD (aD 0) (cD (.int 0))) aF)) (aM nU (aA (op2 ixD (aD 0) (cD (.int 0))) (aA (op2 ixD (aD 0) (cD (.int 1))) aF))))))
def sV:List D->Rs D:=eY 1 mL
def gm:En->Ou:=
  (ifS (fB (tst (aM sV (aA (aD 0) aF))))
   (wA "NoWeb" (aA (cD (.str "this is no web")) aF))
   Ou.nx)
def gw:List D->Rs D:=eY 1 gm
def gB:En->Ou:=
  (aU (oY (aM gw (aA (aD 0) aF)))
  (aU (ifS (fB (tst (op1 (fK "tuple") (aD 1))))
   (retS (cD (.bl false)))
   Ou.nx)
  (aU (cU 2 (aM jF (aA (aD 0) aF)))
  (aU (dj (bW (aD 1)) (gnm 3)
   (ifS (fB (tst (aM cC (aA (aD 2) (aA (aD 3) aF)))))
    (retS (cD (.bl false)))
    Ou.nx))
  (retS (aM gr (aA (op2 ixD (aD 0) (cD (.int 0))) (aA (aD 1) aF))))))))
def bQ:List D->Rs D:=eY 4 gB
def dB:En->Ou:=
  (ifS (fB (tst (aM bQ (aA (aD 0) (aA (aD 1) aF)))))
   (wA "NoParting" (aA (cD (.str "this is no parting of the web")) aF))
   Ou.nx)
def bZ:List D->Rs D:=eY 2 dB
def nO:En->Ou:=
  (aU (oY (aM bZ (aA (aD 0) (aA (aD 1) aF))))
  (retS (opA dO (aA (opA gJ (aA (lcD (bW (aD 1)) [none] (gnm 0) cz (aM dg (aA (aD 0) aF))) aF)) aF))))
def cj:List D->Rs D:=eY 2 nO
def eF:En->Ou:=
  (aU (oY (aM bZ (aA (aD 0) (aA (aD 1) aF))))
  (retS (opA dO (aA (opA gJ (aA (aA1 (bW (aD 1)) [none,none,none] (gnm 0) cz (inL (eZ qL (aA (aD 0) (aA (bM (aD 0) (cA (cD (.int 1))) cB) aF))) (fD 2 (aj (gnm 1) (aj (gnm 2) fM))) cz (aM iQ (aA (aD 1) (aA (aD 2) aF))))) aF)) aF))))
def bC:List D->Rs D:=eY 2 eF
def zN:En->Ou:=
  (aU (dj (eZ nA (aA (opA (mmD λ i j=>if j>i then j else i) (aA (cD (.int 1)) (aA (opA (mmD λ i j=>if j<i then j else i) (aA (opA cO (aA (aD 0) aF)) (aA (cD (.int 8)) aF))) aF))) aF)) (gnm 1)
   (aU (cU 2 (aM dI (aA (aD 0) (aA (aD 1) aF))))
   (aU (cU 3 (aM jD (aA (aD 2) (aA (cD (.int 10)) aF))))
   (aU (cU 4 (aM eG (aA (aD 2) (aA (cD (.int 5000)) (aA (aD 3) (aA (aM jE (aA (aD 3) aF)) aF))))))
   (aU (dj (bW (dJ (aA (aD 4) (aA (aM eO (aA (aD 2) (aA (aD 3) (aA (aD 4) aF)))) (aA (aM eO (aA (op2 au (aD 2) (cD (.int 1))) (aA (aD 3) (aA (aD 4) aF)))) aF))))) (gnm 5)
    (aU (cU 6 (aM dh (aA (aD 3) (aA (aD 5) aF))))
    (aU (cU 7 (aM bQ (aA (aD 3) (aA (aD 5) aF))))
    (aU (ifS (orT (fB (tst (op1 (fK "bool") (aD 7)))) (tsb (op2 (eqR true) (aD 7) (aD 6))))
     (retS (cD (.bl false)))
     Ou.nx)
    (ifS (tst (aD 6))
     (aU (qP 8 (dJ (aA (aM cj (aA (aD 3) (aA (aD 5) aF))) (aA (aM bC (aA (aD 3) (aA (aD 5) aF))) aF))))
     (ifS (orT (tsb (op2 (eqR true) (iB 8) (dJ (aA (aM jR (aA (aD 5) aF)) (aA (aM jT (aA (aD 5) aF)) aF))))) (fB (tst (op1 (fK "tuple") (op2 ixD (iB 8) (cD (.int 0)))))))
      (retS (cD (.bl false)))
      Ou.nx))
     (aU (ifS (tsb (op2 (eqR true) (tK wdN "told" (aM cj (aA (aD 3) (aA (aD 5) aF)))) (cD (.str "parting"))))
      (retS (cD (.bl false)))
      Ou.nx)
     (ifS (tsb (op2 (eqR true) (tK wdN "told" (aM bC (aA (aD 3) (aA (aD 5) aF)))) (cD (.str "parting"))))
      (retS (cD (.bl false)))
      Ou.nx)))))))
   (dj (bW (dJ (aA (cD (.fn "is_parting")) (aA (cD (.fn "plain")) (aA (cD (.fn "ties_along")) aF))))) (gnm 9)
    (ifS (tsb (op2 (eqR true) (tK wdN "told" (aBm [("is_parting",bQ),("plain",cj),("ties_along",bC)] 9 (aA (bH (aA (cD (.int 1)) (aA (bH (aA (bH (aA (cD (.int 0)) (aA (cD (.int 0)) aF))) aF)) aF))) (aA (cD .non) aF)))) (cD (.str "web"))))
     (retS (cD (.bl false)))
     Ou.nx)))))))
  (retS (qt (op2 (isD false) (aM bQ (aA (bH (aA (cD (.int 0)) (aA (bH aF) aF))) (aA (bH aF) aF))) (cD (.bl true))) (qt (op2 (eqR false) (aM cj (aA (bH (aA (cD (.int 0)) (aA (bH aF) aF))) (aA (bH aF) aF))) (bH aF)) (op2 (eqR false) (aM bC (aA (bH (aA (cD (.int 1)) (aA (bH aF) aF))) (aA (bH (aA (bH (aA (cD (.int 0)) aF)) aF)) aF))) (bH aF))))))
def aGt:List D->Rs D:=eY 10 zN
theorem zK{b:Int}(hb:0<b)(hb2:b<1073741824){c:Int}{k:Int}:∀(ds:List D) (x:Int) (s:Slot),(∀d∈ds,∃n:Int,d= .int n)->
  (∃y s',forL (gnm 4) (aU (ifS (tsb (op2 (eqR false) (aD 3) (cD (.int 0)))) (retS (cD (.int 0))) Ou.nx) (cU 3 (op2 uT (aD 3) (aD 2)))) ds [.sh (.int c),.sh (.int k),.sh (.int b),.sh (.int x),s,.no]= .nx [.sh (.int c),.sh (.int k),.sh (.int b),.sh (.int y),s',.no])\/
  forL (gnm 4) (aU (ifS (tsb (op2 (eqR false) (aD 3) (cD (.int 0)))) (retS (cD (.int 0))) Ou.nx) (cU 3 (op2 uT (aD 3) (aD 2)))) ds [.sh (.int c),.sh (.int k),.sh (.int b),.sh (.int x),s,.no]= .rt (.int 0)
 |[],x,s,_=>.inl ⟨x,s,rfl⟩
 |d::ds,x,s,h=>by
  have ih:=zK hb hb2 (c:=c) (k:=k) ds (x / b) (.sh d) λ e he=>h e (List.mem_cons_of_mem _ he)
  rw[fu];by_cases hx:x=0
  ·subst hx
   right;simp
  ·simp[hx,yz hb hb2]
   exact ih
theorem aIW{c k b:Int}(hk0:0<=k)(hk1:k<2^40)(hb:0<b)(hb2:b<1073741824):∃r:Int,aX [.int c,.int k,.int b]= .ok (.int r)/\0<=r/\r<b:=by
 have hp:aJ8 (.int 10) (.int 18)= .ok (.int 1000000000000000000):=rfl;by_cases hc:(1000000000000000000:Int)<=c
 ·have hr:=pA (j:=k) (by lia) (by lia)
  have hl:=zK hb hb2 (c:=c) (k:=k) (di 0 k) c .no λ d hd=>let⟨n,e,_⟩:=aBZ.mp hd;⟨n,e⟩
  rcases hl with ⟨y,s',e⟩|e
  ·refine⟨y%b,?_,Int.emod_nonneg _ (by lia),Int.emod_lt_of_pos _ hb⟩
   simp[aX,fU,bF,hp,hc,hr,e,lu hb]
  ·refine⟨0,?_,by lia,hb⟩
   simp[aX,fU,bF,hp,hc,hr,e]
 ·have s1:∀z:Int,0<=z%2147483647/\z%2147483647<2147483647:=λ z=>⟨Int.emod_nonneg _ (by decide),Int.emod_lt_of_pos _ (by decide)⟩
  have s2:∀z:Int,0<=z%2147483629/\z%2147483629<2147483629:=λ z=>⟨Int.emod_nonneg _ (by decide),Int.emod_lt_of_pos _ (by decide)⟩
  have m1:∀z,lr (.int 1009) (.int z)= .ok (.int (1009*z)):=λ z=>aAT (by decide) (by decide)
  have m2:∀z,lr (.int z) (.int 69621)= .ok (.int (z*69621)):=λ z=>aFt (by decide) (by decide)
  have m3:∀z,lr (.int 40503) (.int z)= .ok (.int (40503*z)):=λ z=>aAT (by decide) (by decide)
  have m4:∀z,lr (.int z) (.int 48271)= .ok (.int (z*48271)):=λ z=>aFt (by decide) (by decide)
  have m5:∀z:Int,lr (.int (z%2147483647)) (.int (z%2147483647))= .ok (.int (z%2147483647*(z%2147483647))):=λ z=>aAT (by have:=s1 z;lia) (by have:=s1 z;lia)
  have d1:∀z,oR (.int z) (.int 1000000007)= .ok (.int (z%1000000007)):=λ z=>lu (by decide)
  have d2:∀z,oR (.int z) (.int 2147483647)= .ok (.int (z%2147483647)):=λ z=>lu (by decide)
  have d3:∀z,oR (.int z) (.int 2147483629)= .ok (.int (z%2147483629)):=λ z=>lu (by decide)
  have d4:∀z,uT (.int z) (.int 32)= .ok (.int (z / 32)):=λ z=>yz (by decide) (by decide)
  have d5:∀z,oR (.int z) (.int b)= .ok (.int (z%b)):=λ z=>lu hb
  simp[aX,fU,bF,hp,hc,m1,m2,m3,m4,m5,d1,d2,d3,d4,d5,-Int.emod_emod_of_dvd];exact⟨Int.emod_nonneg _ (by lia),Int.emod_lt_of_pos _ hb⟩
theorem jL(hk0:0<=k)(hk1:k<2^40)(hb:0<b)(hb2:b<1073741824):∃r:Nat,aX [.int c,.int k,.int b]= .ok (.int r)/\(r:Int)<b:=by
 obtain⟨r,e,h0,h1⟩:=aIW (c:=c) hk0 hk1 hb hb2;exact⟨r.toNat,by rw[Int.toNat_of_nonneg h0];exact e,by lia⟩
theorem aI1(h:0<=k):∃c:Int,dI [.scr ns,.int k]= .ok (.int c):=by
 by_cases hk:k<ns.length
 ·obtain⟨d,e,hm,_⟩:=lR (l:=ns.map .int) (i:=k) h (by simpa using hk)
  obtain⟨c,_,rfl⟩:=List.mem_map.mp hm;exact⟨c,by simp[dI,dH,bF,hk,e]⟩
 ·exact⟨0,by simp[dI,dH,bF,hk]⟩
mutual
def pln:D->Bool
 | .tup l=>tL l
 | .lst l=>tL l
 | .set _=>false
 | .scr _=>false
 | .fn _=>false
 |_=>true
def tL:List D->Bool
 |[]=>true
 |d::r=>pln d&&tL r
end
theorem jG(h:pln d=true):knd d=true:=by cases d<;>first|rfl|(simp[pln]at h)
theorem rH:∀{l:List D} {d:D},tL l=true->d∈l->pln d=true
 |x::r,d,h,hm=>by
  simp only[tL,Bool.and_eq_true]at h;rcases List.mem_cons.mp hm with rfl|hm
  ·exact h.1
  ·exact rH h.2 hm
theorem aAI:∀{l:List D},(∀d∈l,pln d=true)->tL l=true
 |[],_=>rfl
 |x::r,h=>by
  simp only[tL,Bool.and_eq_true];exact⟨h x (List.mem_cons_self ..),aAI λ d hd=>h d (List.mem_cons_of_mem _ hd)⟩
def aBx:D->Bool
 | .int _=>true
 |_=>false
def aD6:D->Bool
 | .int i=>decide (0<=i)&&decide (i<=60)
 |_=>false
def cG(m:Int):D->Bool
 | .int i=>decide (0<=i)&&decide (i<m)
 |_=>false
theorem uR(h:knd d=true):lD [d]= .ok (.bl (aBx d)):=by
 simp[lD,ik,bF,vK h,wZ h];cases d<;>rfl
theorem aCq(h:knd d=true):pL [d]= .ok (.bl (aD6 d)):=by
 simp[pL,jk,bF,uR h];cases d<;>simp[aBx,aD6]
 rename_i i;by_cases h0:0<=i<;>simp[h0]
theorem oU(h:knd d=true):cM [.int m,d]= .ok (.bl (cG m d)):=by
 simp[cM,il,bF,uR h];cases d<;>simp[aBx,cG]
 rename_i i;by_cases h0:0<=i<;>simp[h0]
def jw(m:Int):D->Bool
 | .tup [.int a,.int b]=>decide (0<=a)&&decide (a<m)&&decide (0<=b)&&decide (b<m)&& !(a==b)
 |_=>false
theorem tM(h:cG m d=true):∃i:Int,d= .int i/\0<=i/\i<m:=by
 cases d with
 |int i=>simp[cG]at h;exact⟨i,rfl,h.1,h.2⟩
 |_=>simp[cG]at h
theorem rA(h:kI d=true):∃l,d= .tup l:=by cases d<;>first|exact⟨_,rfl⟩|(cases h)
theorem aJJ(h:l.length=2):∃x y,l=[x,y]:=by
 match l,h with
 |[x,y],_=>exact⟨x,y,rfl⟩
theorem aFj(h:kI d=false):jw m d=false:=by cases d<;>first|rfl|(cases h)
theorem aEE(h:l.length≠2):jw m (.tup l)=false:=by
 match l,h with
 |[],_=>rfl
 |[x],_=>cases x<;>rfl
 |[x,y],h=>exact absurd rfl h
 |x::y::z::r,_=>cases x<;>first|rfl|(cases y<;>rfl)
theorem aHd(h:cG m x=false):jw m (.tup [x,y])=false:=by
 cases x with
 |int i=>
  cases y with
  |int j=>
   show((((decide (0<=i)&&decide (i<m))&&decide (0<=j))&&decide (j<m))&& !(i==j))=false
   rw[show(decide (0<=i)&&decide (i<m))=false from h];rfl
  |_=>rfl
 |_=>rfl
theorem aHc(h:cG m y=false):jw m (.tup [.int i,y])=false:=by
 cases y with
 |int j=>
  show((((decide (0<=i)&&decide (i<m))&&decide (0<=j))&&decide (j<m))&& !(i==j))=false
  rw[Bool.and_assoc (decide (0<=i)&&decide (i<m)),show(decide (0<=j)&&decide (j<m))=false from h,Bool.and_false];rfl
 |_=>rfl
theorem aFi(h1:cG m (.int i)=true)(h2:cG m (.int j)=true):jw m (.tup [.int i,.int j])= !(i==j):=by
 show((((decide (0<=i)&&decide (i<m))&&decide (0<=j))&&decide (j<m))&& !(i==j))= !(i==j)
 rw[Bool.and_assoc (decide (0<=i)&&decide (i<m)),show(decide (0<=j)&&decide (j<m))=true from h2,show(decide (0<=i)&&decide (i<m))=true from h1];rfl
def ipE:En->Ou:=ifS (orT (fB (tst (op1 (fK "tuple") (aD 1)))) (tsb (op2 (eqR true) (opA cO (aA (aD 1) aF)) (cD (.int 2))))) (retS (cD (.bl false))) Ou.nx
theorem aB7:ji=aU ipE (retS (qt (aM cM (aA (aD 0) (aA (op2 ixD (aD 1) (cD (.int 0))) aF))) (qt (aM cM (aA (aD 0) (aA (op2 ixD (aD 1) (cD (.int 1))) aF))) (op2 (eqR true) (op2 ixD (aD 1) (cD (.int 0))) (op2 ixD (aD 1) (cD (.int 1))))))):=rfl
theorem aK6(hk:knd d=true)(h:kI d=false):ipE [s,.sh d]= .rt (.bl false):=by simp[ipE,iW hk,h]
theorem aIC(h:l.length≠2):ipE [s,.sh (.tup l)]= .rt (.bl false):=by
 have:¬((l.length:Int)=2):=by omega
 simp[ipE,this]
theorem aIB:ipE [s,.sh (.tup [x,y])]= .nx [s,.sh (.tup [x,y])]:=by simp[ipE]
theorem aCp(h:pln d=true):mV [.int m,d]= .ok (.bl (jw m d)):=by
 have st:bF 2 [.int m,d]=[.sh (.int m),.sh d]:=rfl;simp only[mV,aB7,bK,st];cases ht:kI d with
 |false=>rw[aN,aK6 (jG h) ht,aFj ht];rfl
 |true=>
  obtain⟨l,rfl⟩:=rA ht;by_cases hl:l.length=2
  ·obtain⟨x,y,rfl⟩:=aJJ hl
   simp only[pln,tL,Bool.and_eq_true]at h;have hx:=oU (m:=m) (jG h.1);have hy:=oU (m:=m) (jG h.2.1);have ex:aM cM (aA (aD 0) (aA (op2 ixD (aD 1) (cD (.int 0))) aF)) [.sh (.int m),.sh (.tup [x,y])]= .ok (.bl (cG m x)):=by simp[hx]
   have ey:aM cM (aA (aD 0) (aA (op2 ixD (aD 1) (cD (.int 1))) aF)) [.sh (.int m),.sh (.tup [x,y])]= .ok (.bl (cG m y)):=by simp[hy]
   rw[aN,aIB,bG,gM,aAq,ex,bJ,aDm,aAq,ey,bJ,aDm];cases c1:cG m x with
   |false=>rw[aHd c1];rfl
   |true=>
    obtain⟨i,rfl,_,_⟩:=tM c1;cases c2:cG m y with
    |false=>rw[aHc c2];rfl
    |true=>
     obtain⟨j,rfl,_,_⟩:=tM c2;rw[aFi c1 c2];rfl
  ·rw[aN,aIC hl,aEE hl];rfl
def pD(p:Int×Int):D:=.tup [.int p.1,.int p.2]
def ltP(p q:Int×Int):Bool:=HT.lexLt [p.1,p.2] [q.1,q.2]
def yH:List (Int×Int)->Bool
 |[]=>true
 |[_]=>true
 |p::q::r=>ltP p q&&yH (q::r)
theorem aKO(p q:Int×Int):ltD (pD p) (pD q)= .ok (.bl (ltP p q)):=aHs [p.1,p.2] [q.1,q.2]
theorem lw:∀(ds:List D) (ok:Nat->Bool) (I:En->Prop) (ρ:En),I ρ->(∀(i:Nat) d ρ,ds[i]? =some d->I ρ->okE (a d ρ) u= .rt r/\ok i=false\/∃ρ',okE (a d ρ) u= .nx ρ'/\I ρ'/\ok i=true)->
  (forL a u ds ρ= .rt r/\∃i,i<ds.length/\ok i=false)\/(∃ρ',forL a u ds ρ= .nx ρ'/\I ρ'/\∀i,i<ds.length->ok i=true)
 |[],ok,I,ρ,h,_=>.inr ⟨ρ,rfl,h,λ i hi=>absurd hi (Nat.not_lt_zero _)⟩
 |d::ds,ok,I,ρ,h,hs=>by
  rw[fu];rcases hs 0 d ρ rfl h with ⟨e,o⟩|⟨ρ',e,h',o⟩
  ·left
   refine⟨?_,0,by simp,o⟩;cases ea:a d ρ with
   |ok ρ1=>rw[ea]at e;simp at e ⊢;rw[e];rfl
   |ex c=>rw[ea]at e;cases e
   |st=>rw[ea]at e;cases e
  ·have ih:=lw ds (λ i=>ok (i+1)) I ρ' h' λ i d2 ρ2 e2 h2=>hs (i+1) d2 ρ2 (by simpa using e2) h2
   have e3:okE (a d ρ) (λ ρ1=>(u ρ1).tn (forL a u ds))=forL a u ds ρ':=by
    cases ea:a d ρ with
    |ok ρ1=>rw[ea]at e;simp at e ⊢;rw[e];rfl
    |ex c=>rw[ea]at e;cases e
    |st=>rw[ea]at e;cases e
   rw[e3];rcases ih with ⟨e4,i,hi,o4⟩|⟨ρ4,e4,h4,o4⟩
   ·exact .inl ⟨e4,i+1,by simpa using hi,o4⟩
   ·refine .inr ⟨ρ4,e4,h4,λ i hi=>?_⟩
    cases i with
    |zero=>exact o
    |succ i=>exact o4 i (by simpa using hi)
theorem oK{i:Nat}(h:(di lo hi)[i]? =some d):d= .int (lo+i)/\lo+i<hi:=by
 unfold di at h;rw[List.getElem?_map]at h;by_cases hi2:i<(hi-lo).toNat
 ·rw[List.getElem?_range hi2]at h
  cases h;exact⟨rfl,by omega⟩
 ·rw[List.getElem?_eq_none (by simpa using hi2)]at h
  cases h
theorem lX:(di lo hi).length=(hi-lo).toNat:=by unfold di;simp
section
variable{α:Type}{f:α->D}{lt:α->α->Bool}
def vy(lt:α->α->Bool):List α->Bool
 |[]=>true
 |[_]=>true
 |p::q::r=>lt p q&&vy lt (q::r)
theorem rG:∀{ps:List α},vy lt ps=true↔∀(i:Nat) (p q:α),ps[i]? =some p->ps[i+1]? =some q->lt p q=true
 |[]=>by simp[vy]
 |[x]=>by
  simp only[vy,true_iff];intro i p q _ h2;simp at h2
 |x::y::r=>by
  have ih:=rG (ps:=y::r);unfold vy;rw[Bool.and_eq_true,ih];constructor
  ·rintro⟨h1,h2⟩ i p q e1 e2
   cases i with
   |zero=>simp at e1 e2;subst e1 e2;exact h1
   |succ i=>exact h2 i p q (by simpa using e1) (by simpa using e2)
  ·intro h
   exact⟨h 0 x y rfl rfl,λ i p q e1 e2=>h (i+1) p q (by simpa using e1) (by simpa using e2)⟩
theorem aB6(hlt:∀a b,ltD (f a) (f b)= .ok (.bl (lt a b)))(hl:ps.length<=100000):gq [.tup (ps.map f)]= .ok (.bl (vy lt ps)):=by
 have hr:=aAD (i:=1) (j:=(ps.length:Int)) (by decide) (by decide) (by omega) (by omega);have hlen:(di 1 (ps.length:Int)).length=ps.length-1:=by rw[lX];omega
 have L:=lw (a:=gnm 1) (u:=ifS (fB (tsb (op2 ltD (op2 ixD (aD 0) (op2 aCG (aD 1) (cD (.int 1)))) (op2 ixD (aD 0) (aD 1))))) (retS (cD (.bl false))) Ou.nx) (r:=.bl false)
  (di 1 (ps.length:Int)) (λ i=>match ps[i]?,ps[i+1]? with|some p,some q=>lt p q|_,_=>true) (λ ρ=>∃s,ρ=[.sh (.tup (ps.map f)),s]) [.sh (.tup (ps.map f)),.no] ⟨_,rfl⟩ (by
   rintro i d ρ hd ⟨s,rfl⟩;obtain⟨rfl,h2⟩:=oK hd;have e1:ps[i]? =some ps[i]:=List.getElem?_eq_getElem (by omega);have e2:ps[i+1]? =some ps[i+1]:=List.getElem?_eq_getElem (by omega);have a1:atD (ps.map f) (1+(i:Int)-1)= .ok (f ps[i]):=by
    rw[show(1+(i:Int)-1)=(i:Int)by omega];exact lL (by rw[List.getElem?_map,e1];rfl)
   have a2:atD (ps.map f) (1+(i:Int))= .ok (f ps[i+1]):=by
    rw[show(1+(i:Int))=((i+1:Nat):Int)by omega];exact lL (by rw[List.getElem?_map,e2];rfl)
   simp only[e1,e2];cases c:lt ps[i] ps[i+1]with
   |true=>right;exact⟨_,by simp[a1,a2,hlt,c];rfl,⟨_,rfl⟩,rfl⟩
   |false=>left;exact⟨by simp[a1,a2,hlt,c],rfl⟩)
 have st:bF 2 [.tup (ps.map f)]=[.sh (.tup (ps.map f)),.no]:=rfl;rcases L with ⟨e,i,hi,o⟩|⟨ρ',e,⟨s,rfl⟩,o⟩
 ·have:vy lt ps=false:=by
   cases c:vy lt ps with
   |false=>rfl
   |true=>
    rw[hlen]at hi;have z:=rG.mp c i ps[i] ps[i+1] (List.getElem?_eq_getElem (by omega)) (List.getElem?_eq_getElem (by omega));rw[List.getElem?_eq_getElem (by omega),List.getElem?_eq_getElem (by omega)]at o;simp only at o;rw[z]at o;cases o
  rw[this];simp only[gq,fV,bK,st];simp[hr,e]
 ·have:vy lt ps=true:=rG.mpr λ i p q e1 e2=>by
   have h2:=(List.getElem?_eq_some_iff.mp e2).1
   have:=o i (by rw[hlen];omega)
   rw[e1,e2]at this;exact this
  rw[this];simp only[gq,fV,bK,st];simp[hr,e]
end
theorem aCQ:∀ps:List (Int×Int),yH ps=vy ltP ps
 |[]=>rfl
 |[_]=>rfl
 |p::q::r=>by unfold yH vy;rw[aCQ (q::r)]
theorem aA9(hl:ps.length<=100000):gq [.tup (ps.map pD)]= .ok (.bl (yH ps)):=by
 rw[aCQ];exact aB6 aKO hl
theorem aHT:yH ps=true↔∀(i:Nat) (p q:Int×Int),ps[i]? =some p->ps[i+1]? =some q->ltP p q=true:=by rw[aCQ];exact rG
def aH2:D->Int×Int
 | .tup [.int a,.int b]=>(a,b)
 |_=>(0,0)
theorem aC3(h:jw m d=true):∃a b:Int,d= .tup [.int a,.int b]/\0<=a/\a<m/\0<=b/\b<m/\a≠b:=by
 unfold jw at h;split at h
 ·rename_i a b
  simp at h;exact⟨a,b,rfl,h.1.1.1.1,h.1.1.1.2,h.1.1.2,h.1.2,h.2⟩
 ·cases h
theorem aIr:∀{ts:List D},ts.all (jw m)=true->(ts.map aH2).map pD=ts
 |[],_=>rfl
 |t::ts,h=>by
  rw[List.all_cons,Bool.and_eq_true]at h;obtain⟨a,b,rfl,_⟩:=aC3 h.1;simp only[List.map_cons];rw[aIr h.2];rfl
def rpB(m:Int):D->Bool
 | .tup ts=>ts.all (jw m)&&yH (ts.map aH2)
 |_=>false
def aJU:D->Bool
 | .tup l=>decide (l.length<=100000)
 |_=>true
theorem pP(h:pln d=true)(hs:aJU d=true):bh [.int m,d]= .ok (.bl (rpB m d)):=by
 cases d with
 |tup ts=>
  have hp:tL ts=true:=by simpa[pln]using h
  have hl:ts.length<=100000:=by simpa[aJU]using hs
  have L:=lw (a:=gnm 2) (u:=ifS (fB (tst (aM mV (aA (aD 0) (aA (aD 2) aF))))) (retS (cD (.bl false))) Ou.nx) (r:=.bl false)
   ts (λ i=>match ts[i]? with|some t=>jw m t|none=>true) (λ ρ=>∃s,ρ=[.sh (.int m),.sh (.tup ts),s]) [.sh (.int m),.sh (.tup ts),.no] ⟨_,rfl⟩ (by
    rintro i d ρ hd ⟨s,rfl⟩;have e:=aCp (m:=m) (rH hp (List.mem_of_getElem? hd));simp only[hd];cases c:jw m d with
    |true=>right;exact⟨_,by simp[e,c];rfl,⟨_,rfl⟩,rfl⟩
    |false=>left;exact⟨by simp[e,c],rfl⟩)
  have st:bF 3 [.int m,.tup ts]=[.sh (.int m),.sh (.tup ts),.no]:=rfl;rcases L with ⟨e,i,hi,o⟩|⟨ρ',e,⟨s,rfl⟩,o⟩
  ·have:ts.all (jw m)=false:=by
    rw[List.all_eq_false];rw[List.getElem?_eq_getElem hi]at o;exact⟨ts[i],List.getElem_mem hi,by simpa using o⟩
   simp only[bh,bV,bK,st];simp[e,rpB,this]
  ·have:ts.all (jw m)=true:=by
    rw[List.all_eq_true];intro t ht;obtain⟨i,hi,rfl⟩:=List.getElem_of_mem ht
    have:=o i hi
    rw[List.getElem?_eq_getElem hi]at this;exact this
   have er:=aA9 (ps:=ts.map aH2) (by rw[List.length_map];exact hl);rw[aIr this]at er;simp only[bh,bV,bK,st];simp[e,rpB,this,er]
 |_=>simp[bh,bV,bF,iW (jG h),kI,rpB]
structure Ow(n:Int)(ps:List (Int×Int)):Prop where
 n0:0<=n
 n1:n<=60
 len:ps.length<=3600
 pr:∀p∈ps,0<=p.1/\p.1<n/\0<=p.2/\p.2<n/\p.1≠p.2
 ris:yH ps=true
def owD(n:Int)(ps:List (Int×Int)):D:=.tup [.int n,.tup (ps.map pD)]
theorem Ow.rp(h:Ow n ps):rpB n (.tup (ps.map pD))=true:=by
 have e:(ps.map pD).map aH2=ps:=by rw[List.map_map];exact(List.map_congr_left λ p _=>rfl).trans (List.map_id ps)
 unfold rpB;dsimp only;rw[e,h.ris,Bool.and_true,List.all_eq_true];intro d hd;obtain⟨p,hp,rfl⟩:=List.mem_map.mp hd;obtain⟨a,b,c,d,e⟩:=h.pr p hp;simp[pD,jw,a,b,c,d,e]
theorem aDV:∀ps:List (Int×Int),tL (ps.map pD)=true
 |[]=>rfl
 |p::ps=>by simp only[List.map_cons,tL,aDV ps,Bool.and_true];rfl
theorem mH:∀ns:List Int,cI (ns.map .int)=0/\ao (ns.map .int)=true
 |[]=>⟨rfl,rfl⟩
 |n::ns=>by
  obtain⟨h1,h2⟩:=mH ns;simp[cI,fP,ao,aQ,h1,h2]
theorem zL:∀ps:List (Int×Int),cI (ps.map pD)<=1/\ao (ps.map pD)=true
 |[]=>⟨by simp[cI],rfl⟩
 |p::ps=>by
  obtain⟨h1,h2⟩:=zL ps;simp[cI,fP,ao,aQ,h2,pD,h1]
theorem vL(neg:Bool)(y:Int)(ns:List Int):inR neg (.int y) (.lst (ns.map .int))= .ok (.bl (if neg then !decide (y∈ns)else decide (y∈ns))):=by
 obtain⟨h1,h2⟩:=mH ns;have e:inD (.int y) (ns.map .int)=decide (y∈ns):=by
  unfold inD;rw[Bool.eq_iff_iff];simp[List.any_eq_true,eqD]
 unfold inR;dsimp only;rw[h1,h2,e];rfl
theorem aGO(neg:Bool)(q:Int×Int)(ps:List (Int×Int)):inR neg (pD q) (.tup (ps.map pD))= .ok (.bl (if neg then !decide (q∈ps)else decide (q∈ps))):=by
 obtain⟨h1,h2⟩:=zL ps;have e:inD (pD q) (ps.map pD)=decide (q∈ps):=by
  unfold inD;rw[Bool.eq_iff_iff];simp only[List.any_map,List.any_eq_true,Function.comp,decide_eq_true_eq];constructor
  ·rintro⟨p,hp,h⟩
   simp[pD,eqD,iR]at h
   have:p=q:=Prod.ext h.1 h.2
   exact this▸hp
  ·intro h
   exact⟨q,h,by simp[pD,eqD,iR]⟩
 unfold inR;dsimp only;have h3:decide (cI (ps.map pD)<=60)=true:=by simp;lia
 have h4:aQ (pD q)=true:=rfl;rw[h2,e,h3,h4];rfl
theorem aA0:∀(ds:List D),(∀d∈ds,∃ρ1,fg d ρ= .ok ρ1/\fe ρ1= .ok (g d))->lcL ρ fg cz fe ds= .ok (ds.map g)
 |[],_=>rfl
 |d::ds,h=>by
  obtain⟨ρ1,e1,e2⟩:=h d List.mem_cons_self;have ih:=aA0 ds λ e he=>h e (List.mem_cons_of_mem _ he)
  unfold lcL;rw[e1,bJ,aDG,bJ,if_pos rfl,e2,bJ,ih,bJ];rfl
theorem aAm(f:α->Bool)(l:List α):boolsOf (l.map λ x=>D.bl (f x))=some (l.map f):=by
 have:=ul (l.map f)
 rwa [List.map_map]at this
theorem aBq(f:α->Bool)(l:List α):uy (λ bs=>bs.all id) [.lst (l.map λ x=>D.bl (f x))]= .ok (.bl (l.all f)):=by
 unfold uy;dsimp only;rw[aAm];dsimp only;rw[List.all_map];rfl
theorem pH:∀(l:List α),(∀x∈l,∃ρ1,fg (f x) ρ= .ok ρ1/\ft ρ1= .ok (t x)/\fe ρ1= .ok (g x))->lcL ρ fg ft fe (l.map f)= .ok ((l.filter t).map g)
 |[],_=>rfl
 |x::l,h=>by
  obtain⟨ρ1,e1,e2,e3⟩:=h x List.mem_cons_self;have ih:=pH l λ y hy=>h y (List.mem_cons_of_mem _ hy)
  rw[List.map_cons];unfold lcL;rw[e1,bJ,e2,bJ,e3,bJ,ih,bJ,List.filter_cons];cases t x<;>rfl
theorem aIy{ρ:En}:∀(ps:List (Int×Int)),lcL [.no,.no] (fD 2 (aj (gnm 0) (aj (gnm 1) fM))) cz (op2 ltD (aD 0) (aD 1)) (ps.map pD)= .ok (ps.map λ p=>.bl (decide (p.1<p.2)))
 |[]=>rfl
 |p::ps=>by
  unfold lcL;simp[pD,aIy (ρ:=ρ) ps]
theorem aBo{n:Int}(h:Ow n ps)(low:∀p∈ps,p.1<p.2):nU [.int n,.tup (ps.map pD)]= .ok (.bl true):=by
 have hl:=h.len;have e:=pP (m:=n) (d:=.tup (ps.map pD)) (by simpa[pln]using aDV ps) (by simp[aJU];lia);rw[h.rp]at e;have el:=aIy (ρ:=[]) ps;have ei:lcD (bW (aD 1)) [none,none] (fD 2 (aj (gnm 0) (aj (gnm 1) fM))) cz (op2 ltD (aD 0) (aD 1)) [.sh (.int n),.sh (.tup (ps.map pD))]= .ok (.lst (ps.map λ p=>.bl (decide (p.1<p.2)))):=by
  have hi:bW (aD 1) (shE [.sh (.int n),.sh (.tup (ps.map pD))])= .ok (ps.map pD):=by simp[shE,qN]
  unfold lcD;rw[hi,bJ,if_pos (by rw[szl,List.length_map];lia)]
  show(match lcL [.no,.no] _ cz _ (ps.map pD)with| .ok l=>Rs.ok (D.lst l)|_=>Rs.st)=_
  rw[el]
 have ha:opA (uy λ bs=>bs.all id) (aA (lcD (bW (aD 1)) [none,none] (fD 2 (aj (gnm 0) (aj (gnm 1) fM))) cz (op2 ltD (aD 0) (aD 1))) aF) [.sh (.int n),.sh (.tup (ps.map pD))]= .ok (.bl true):=by
  rw[jX,dY,ei,bJ,vJ,bJ,bJ,aBq,oO];rw[List.all_eq_true.mpr λ p hp=>decide_eq_true (low p hp)]
 have st:bF 2 [.int n,.tup (ps.map pD)]=[.sh (.int n),.sh (.tup (ps.map pD))]:=rfl;have ec:aM bh (aA (aD 0) (aA (aD 1) aF)) [.sh (.int n),.sh (.tup (ps.map pD))]= .ok (.bl true):=by rw[kY];exact e
 simp only[nU,iu,bK,st];rw[gM,aAq,ec,ha];rfl
theorem aEZ(h:Ow n ps)(low:∀p∈ps,p.1<p.2):sV [owD n ps]= .ok (.bl true):=by
 have e1:=aCq (d:=.int n) rfl;have e2:=aBo h low;have e3:aD6 (.int n)=true:=by simp[aD6,h.n0,h.n1]
 rw[e3]at e1;simp[sV,mL,owD,bF,e1,e2]
def mn(a b:Int):Int:=if b<a then b else a
def mx(a b:Int):Int:=if b>a then b else a
theorem mnmx_in(h1:0<=a)(h2:a<n)(h3:0<=b)(h4:b<n)(ne:a≠b):0<=mn a b/\mn a b<mx a b/\mx a b<n:=by
 by_cases h:b<a
 ·rw[mn,mx,if_pos h,if_neg (by lia)]
  exact⟨h3,h,h2⟩
 ·rw[mn,mx,if_neg h,if_pos (by lia)]
  exact⟨h1,by lia,h4⟩
theorem aHm(a b:Int):(mn a b=a/\mx a b=b)\/(mn a b=b/\mx a b=a):=by
 by_cases h:b<a
 ·rw[mn,mx,if_pos h,if_neg (by lia)]
  exact .inr ⟨rfl,rfl⟩
 ·rw[mn,mx,if_neg h]
  by_cases h2:b>a
  ·rw[if_pos h2];exact .inl ⟨rfl,rfl⟩
  ·rw[if_neg h2];exact .inl ⟨rfl,by lia⟩
def intOf:D->Int
 | .int i=>i
 |_=>0
theorem tV(h1:fi (shE ρ)= .ok ds)(h2:ds.length<16777216)(h3:lcL (stE js (shE ρ)) fg ft fe ds= .ok out):lcD fi js fg ft fe ρ= .ok (.lst out):=by
 unfold lcD;rw[h1,bJ,if_pos (by rw[szl];exact h2),h3]
theorem aGB{α:Type}{f g:α->D}(l:List α)(h:∀x∈l,∃ρ1,fg (f x) ρ= .ok ρ1/\fe ρ1= .ok (g x)):lcL ρ fg cz fe (l.map f)= .ok (l.map g):=by
 have:=pH (ρ:=ρ) (fg:=fg) (ft:=cz) (fe:=fe) (f:=f) (g:=g) (t:=λ _=>true) l λ x hx=>by
  obtain⟨ρ1,h1,h2⟩:=h x hx;exact⟨ρ1,h1,rfl,h2⟩
 rwa [List.filter_eq_self.mpr λ _ _=>rfl]at this
theorem aKm{α:Type}{f:α->Bool}{l:List α}(h:fe ρ= .ok (.lst (l.map λ x=>.bl (f x)))):opA (uy λ bs=>bs.all id) (aA fe aF) ρ= .ok (.bl (l.all f)):=by
 rw[jX,dY,h,bJ,vJ,bJ,bJ,aBq,oO]
theorem aB9(neg:Bool)(y:Int)(ns:List Int):inR neg (.int y) (.tup (ns.map .int))= .ok (.bl (if neg then !decide (y∈ns)else decide (y∈ns))):=vL neg y ns
def bR(ll:List (List D))(p:Int×Int):List (List D):=ll.set p.1.toNat (ll.getD p.1.toNat []++[.int p.2])
theorem mC:∀(ps:List (Int×Int)) (ll:List (List D)),(ps.foldl bR ll).length=ll.length
 |[],_=>rfl
 |p::ps,ll=>by rw[List.foldl_cons,mC ps];unfold bR;rw[List.length_set]
def rP(ps:List (Int×Int))(i:Int):List Int:=(ps.filter λ p=>p.1==i).map (·.2)
theorem uB:∀(ps:List (Int×Int)) (ll:List (List D)) (i:Nat),(∀p∈ps,0<=p.1/\p.1<ll.length)->i<ll.length->(ps.foldl bR ll).getD i []=ll.getD i []++(rP ps i).map .int
 |[],ll,i,_,_=>by simp[rP]
 |p::ps,ll,i,h,hi=>by
  obtain⟨h0,h1⟩:=h p List.mem_cons_self;rw[List.foldl_cons,uB ps (bR ll p) i (λ q hq=>by unfold bR;rw[List.length_set];exact h q (List.mem_cons_of_mem _ hq)) (by unfold bR;rw[List.length_set];exact hi)];unfold bR rP;by_cases c:p.1=i
  ·have hk:p.1.toNat=i:=by lia
   rw[hk,List.filter_cons_of_pos (by simpa using c)];simp[hi]
  ·have hk:p.1.toNat≠i:=by lia
   rw[List.filter_cons_of_neg (by simpa using c)];simp[List.getElem?_set_ne hk]
theorem aD5:b∈rP ps a↔(a,b)∈ps:=by
 unfold rP;simp only[List.mem_map,List.mem_filter];constructor
 ·rintro⟨p,⟨h1,h2⟩,rfl⟩
  have:p.1=a:=by simpa using h2
  rw[<-this];exact h1
 ·intro h
  exact⟨(a,b),⟨h,by simp⟩,rfl⟩
def dbl(ps:List (Int×Int)):List (Int×Int):=ps.flatMap λ p=>[p,(p.2,p.1)]
theorem aAV:(a,b)∈dbl ps↔(a,b)∈ps\/(b,a)∈ps:=by
 unfold dbl;simp only[List.mem_flatMap,List.mem_cons,List.not_mem_nil,or_false];constructor
 ·rintro⟨p,hp,h|h⟩
  ·rw[h];exact .inl hp
  ·cases h;exact .inr hp
 ·rintro(h|h)
  ·exact⟨_,h,.inl rfl⟩
  ·exact⟨_,h,.inr rfl⟩
theorem xU(p:Int×Int)(ps:List (Int×Int)):dbl (p::ps)=p::(p.2,p.1)::dbl ps:=rfl
theorem vP(hi:ρ[i]? =some (.o2 ll))(hf:f ρ= .ok (.int a))(hg:g ρ= .ok (.int b))(h0:0<=a)(h1:a<ll.length)(hz:(ll.getD a.toNat []).length<16777216):
  j6 i f g ρ= .nx (ρ.set i (.o2 (bR ll (a,b)))):=by
 have hk:a.toNat<ll.length:=by lia
 have ha:at2 ll (.int a)=some (a.toNat,ll.getD a.toNat []):=by
  have hx:ixN ll.length a=some a.toNat:=by
   unfold ixN;rw[if_pos (by lia),if_pos (by lia)]
  simp only[at2,hx,Option.bind_some];rw[List.getElem?_eq_getElem hk];simp[hk]
 unfold j6;rw[hi];dsimp only;rw[hf,dF,ha];dsimp only;rw[hg,dF,if_pos (by rw[sizeLine_eq];exact hz)];rfl
theorem lU(ll:List (List D))(p:Int×Int):(bR ll p).length=ll.length:=by unfold bR;rw[List.length_set]
theorem rD(h:∀l∈ll,l.length<=m):∀l∈bR ll p,l.length<=m+1:=by
 intro l hl;unfold bR at hl;rcases List.mem_or_eq_of_mem_set hl with z|z
 ·exact Nat.le_succ_of_le (h l z)
 ·subst z
  rw[List.length_append,List.length_singleton]
  have:(ll.getD p.1.toNat []).length<=m:=by
   by_cases hk:p.1.toNat<ll.length
   ·exact h _ (by simp[hk])
   ·simp[List.getElem?_eq_none (Nat.le_of_not_lt hk)]
  lia
theorem vM{ll:List (List D)}(h:∀l∈ll,l.length<=m)(k:Nat):(ll.getD k []).length<=m:=by
 by_cases hk:k<ll.length
 ·exact h _ (by simp[hk])
 ·simp[List.getElem?_eq_none (Nat.le_of_not_lt hk)]
def atB:En->Ou:=aU (j6 3 (aD 4) (aq (aD 5))) (j6 3 (aD 5) (aq (aD 4)))
theorem yZ{w s1 s2:Slot}:∀(ps:List (Int×Int)) (ll:List (List D)) (s4 s5:Slot),(∀p∈ps,0<=p.1/\p.1<ll.length/\0<=p.2/\p.2<ll.length)->(∀l∈ll,l.length+2*ps.length<=10000)->
  ∃s4' s5',forL (fD 2 (aj (gnm 4) (aj (gnm 5) fM))) atB (ps.map pD) [w,s1,s2,.o2 ll,s4,s5]= .nx [w,s1,s2,.o2 ((dbl ps).foldl bR ll),s4',s5']
 |[],ll,s4,s5,_,_=>⟨s4,s5,rfl⟩
 |p::ps,ll,s4,s5,h,hl=>by
  obtain⟨a0,a1,b0,b1⟩:=h p List.mem_cons_self;have hb0:∀l∈ll,l.length<=10000-2*(ps.length+1):=λ l hm=>by
   have:=hl l hm
   rw[List.length_cons]at this;lia
  have hb1:=rD (p:=p) hb0;have hb2:=rD (p:=(p.2,p.1)) hb1;by_cases hne:ll=[]
  ·subst hne
   simp at a1;lia
  have hbig:2*(ps.length+1)<=10000:=by
   obtain⟨l,hm⟩:=List.exists_mem_of_ne_nil ll hne
   have:=hl l hm
   rw[List.length_cons]at this;lia
  obtain⟨s4',s5',e⟩:=yZ (w:=w) (s1:=s1) (s2:=s2) ps (bR (bR ll p) (p.2,p.1)) (.sh (.int p.1)) (.sh (.int p.2)) (λ q hq=>by rw[lU,lU];exact h q (List.mem_cons_of_mem _ hq)) (λ l hm=>by have:=hb2 l hm;lia);refine⟨s4',s5',?_⟩;rw[List.map_cons,fu,xU,List.foldl_cons,List.foldl_cons];have hg:okE (fD 2 (aj (gnm 4) (aj (gnm 5) fM)) (pD p) [w,s1,s2,.o2 ll,s4,s5]) (λ ρ1=>(atB ρ1).tn (forL (fD 2 (aj (gnm 4) (aj (gnm 5) fM))) atB (ps.map pD)))=
    (atB [w,s1,s2,.o2 ll,.sh (.int p.1),.sh (.int p.2)]).tn (forL (fD 2 (aj (gnm 4) (aj (gnm 5) fM))) atB (ps.map pD)):=by
   simp[pD]
  have c1:j6 3 (aD 4) (aq (aD 5)) [w,s1,s2,.o2 ll,.sh (.int p.1),.sh (.int p.2)]= .nx [w,s1,s2,.o2 (bR ll p),.sh (.int p.1),.sh (.int p.2)]:=
   vP (a:=p.1) (b:=p.2) rfl (by simp) (by simp) a0 a1 (by have:=vM hb0 p.1.toNat;lia)
  have c2:j6 3 (aD 5) (aq (aD 4)) [w,s1,s2,.o2 (bR ll p),.sh (.int p.1),.sh (.int p.2)]= .nx [w,s1,s2,.o2 (bR (bR ll p) (p.2,p.1)),.sh (.int p.1),.sh (.int p.2)]:=
   vP (a:=p.2) (b:=p.1) rfl (by simp) (by simp) b0 (by rw[lU];exact b1) (by have:=vM hb1 p.2.toNat;lia)
  have hc:atB [w,s1,s2,.o2 ll,.sh (.int p.1),.sh (.int p.2)]= .nx [w,s1,s2,.o2 (bR (bR ll p) (p.2,p.1)),.sh (.int p.1),.sh (.int p.2)]:=by
   unfold atB;rw[aN,c1,bG,c2]
  rw[hg,hc,vW];exact e
structure aDF(n:Int)(es:List (Int×Int))(ll:List (List D)):Prop where
 len:ll.length=n.toNat
 item:∀i:Int,0<=i->i<n->∃ws:List Int,atD (ll.map .lst) i= .ok (.lst (ws.map .int))/\∀b,b∈ws↔(i,b)∈es
theorem aBp(h:Ow n ps):∃ll,jF [owD n ps]= .ok (.lst (ll.map .lst))/\aDF n (dbl ps) ll:=by
 have hn0:=h.n0;have hn1:=h.n1;have hr:=pA (j:=n) (by lia) (by lia);have hlen:(di 0 n).length=n.toNat:=by rw[lX];lia
 have hps:=h.len;have hin:∀p∈ps,0<=p.1/\p.1<(List.replicate n.toNat ([]:List D)).length/\0<=p.2/\p.2<(List.replicate n.toNat ([]:List D)).length:=λ p hp=>by
  obtain⟨a,b,c,d,_⟩:=h.pr p hp;rw[List.length_replicate];lia
 have hin2:∀p∈dbl ps,0<=p.1/\p.1<(List.replicate n.toNat ([]:List D)).length:=λ p hp=>by
  rcases aAV.mp (show(p.1,p.2)∈dbl ps from hp)with z|z
  ·have:=hin _ z;exact⟨this.1,this.2.1⟩
  ·have:=hin _ z;exact⟨this.2.2.1,this.2.2.2⟩
 obtain⟨s4,s5,e⟩:=yZ (w:=.sh (owD n ps)) (s1:=.sh (.int n)) (s2:=.sh (.tup (ps.map pD))) ps (List.replicate n.toNat []) .no .no hin (λ l hl=>by
  rw[(List.mem_replicate.mp hl).2];simp;lia)
 refine⟨(dbl ps).foldl bR (List.replicate n.toNat []),?_,by rw[mC,List.length_replicate],λ i h0 h1=>⟨rP (dbl ps) i,?_,λ b=>aD5⟩⟩
 ·have hz:n.toNat<16777216:=by lia
  have a0:aGn (aD 0) (fD 2 (aj (gnm 1) (aj (gnm 2) fM))) [.sh (owD n ps),.no,.no,.no,.no,.no]= .nx [.sh (owD n ps),.sh (.int n),.sh (.tup (ps.map pD)),.no,.no,.no]:=by
   simp[owD]
  have a1:llS 3 (eZ nA (aA (aD 1) aF)) [none] (gnm 0) [.sh (owD n ps),.sh (.int n),.sh (.tup (ps.map pD)),.no,.no,.no]= .nx [.sh (owD n ps),.sh (.int n),.sh (.tup (ps.map pD)),.o2 (List.replicate n.toNat []),.no,.no]:=by
   unfold llS;simp[shE,qN,hr,hlen,hz]
  have a2:dj (bW (aD 2)) (fD 2 (aj (gnm 4) (aj (gnm 5) fM))) atB [.sh (owD n ps),.sh (.int n),.sh (.tup (ps.map pD)),.o2 (List.replicate n.toNat []),.no,.no]= .nx [.sh (owD n ps),.sh (.int n),.sh (.tup (ps.map pD)),.o2 ((dbl ps).foldl bR (List.replicate n.toNat [])),s4,s5]:=by
   have hi:bW (aD 2) [.sh (owD n ps),.sh (.int n),.sh (.tup (ps.map pD)),.o2 (List.replicate n.toNat []),.no,.no]= .ok (ps.map pD):=by simp
   rw[fj,hi,dF];exact e
  have a3:retS (j9 3) [.sh (owD n ps),.sh (.int n),.sh (.tup (ps.map pD)),.o2 ((dbl ps).foldl bR (List.replicate n.toNat [])),s4,s5]= .rt (.lst (((dbl ps).foldl bR (List.replicate n.toNat [])).map .lst)):=by simp
  have st:bF 6 [owD n ps]=[.sh (owD n ps),.no,.no,.no,.no,.no]:=rfl;have df:iw=aU (aGn (aD 0) (fD 2 (aj (gnm 1) (aj (gnm 2) fM)))) (aU (llS 3 (eZ nA (aA (aD 1) aF)) [none] (gnm 0)) (aU (dj (bW (aD 2)) (fD 2 (aj (gnm 4) (aj (gnm 5) fM))) atB) (retS (j9 3)))):=rfl;simp only[jF,df,bK,st];rw[aN,a0,bG,aN,a1,bG,aN,a2,bG,a3]
 ·have hk:i.toNat<(List.replicate n.toNat ([]:List D)).length:=by rw[List.length_replicate];lia
  have hg:=uB (dbl ps) (List.replicate n.toNat []) i.toNat hin2 hk;have hk2:i.toNat<((dbl ps).foldl bR (List.replicate n.toNat [])).length:=by rw[mC];exact hk
  have hi:((i.toNat:Nat):Int)=i:=Int.toNat_of_nonneg h0;rw[hi]at hg;rw[<-hi];refine lL ?_;rw[hi,List.getElem?_map,List.getElem?_eq_getElem hk2]
  have:((dbl ps).foldl bR (List.replicate n.toNat []))[i.toNat]=(rP (dbl ps) i).map .int:=by
   have e1:((dbl ps).foldl bR (List.replicate n.toNat [])).getD i.toNat []=((dbl ps).foldl bR (List.replicate n.toNat []))[i.toNat]:=by simp[hk2]
   rw[<-e1,hg];have e2:(List.replicate n.toNat ([]:List D)).getD i.toNat []=[]:=by
    rw[List.getD_eq_getElem?_getD,List.getElem?_replicate];split<;>rfl
   rw[e2,List.nil_append]
  rw[this];rfl
def fG(ps:List (Int×Int)):List Int->Bool
 |a::b::r=>decide ((a,b)∈ps)&&fG ps (b::r)
 |_=>true
theorem uE:∀{ws:List Int},fG ps ws=true↔∀(i:Nat) (a b:Int),ws[i]? =some a->ws[i+1]? =some b->(a,b)∈ps
 |[]=>by simp[fG]
 |[x]=>by
  simp only[fG,true_iff];intro i p q _ h2;simp at h2
 |x::y::r=>by
  have ih:=uE (ps:=ps) (ws:=y::r);unfold fG;rw[Bool.and_eq_true,ih,decide_eq_true_eq];constructor
  ·rintro⟨h1,h2⟩ i p q e1 e2
   cases i with
   |zero=>simp at e1 e2;subst e1 e2;exact h1
   |succ i=>exact h2 i p q (by simpa using e1) (by simpa using e2)
  ·intro h
   exact⟨h 0 x y rfl rfl,λ i p q e1 e2=>h (i+1) p q (by simpa using e1) (by simpa using e2)⟩
def jO(n:Int)(ps:List (Int×Int)):D->Bool
 | .tup ts=>!ts.isEmpty&&ts.all (cG n)&&decide ((ddI (ts.map intOf)).length=ts.length)&&fG ps (ts.map intOf)
 |_=>false
theorem jb:∀{ts:List D},ts.all (cG n)=true->(ts.map intOf).map D.int=ts/\∀x∈ts.map intOf,0<=x/\x<n
 |[],_=>⟨rfl,λ x hx=>by simp at hx⟩
 |t::ts,h=>by
  rw[List.all_cons,Bool.and_eq_true]at h;obtain⟨i,rfl,h0,h1⟩:=tM h.1;obtain⟨e,q⟩:=jb h.2;refine⟨by simp only[List.map_cons];rw[e];rfl,λ x hx=>?_⟩;rw[List.map_cons]at hx;rcases List.mem_cons.mp hx with z|z
  ·subst z;exact⟨h0,h1⟩
  ·exact q x z
@[simp] theorem aBB(h:ns.length<4000):sZ [.tup (ns.map .int)]= .ok (.set (ddI ns)):=by
 unfold sZ;dsimp only;rw[fQ];dsimp only;rw[if_pos h]
@[simp] theorem lenX_set:ut [.set l]= .ok (.int l.length):=aO rfl
theorem aJD{ws:List Int}(e:ws.map D.int=ts){k:Nat}(h:ws[k]? =some w):atD ts (k:Int)= .ok (.int w):=by
 subst e;exact lL (by rw[List.getElem?_map,h];rfl)
def aDw:D->Bool
 | .tup l=>decide (l.length<4000)
 |_=>true
def aCx:En->Ou:=ifS (fB (tst (aM cM (aA (opA cO (aA (aD 0) aF)) (aA (aD 2) aF))))) (retS (cD (.bl false))) Ou.nx
def aCw:En->Ou:=ifS (tsb (op2 (inR true) (op2 ixD (aD 1) (aD 3)) (op2 ixD (aD 0) (op2 ixD (aD 1) (op2 aCG (aD 3) (cD (.int 1))))))) (retS (cD (.bl false))) Ou.nx
theorem dW:gC=aU (ifS (orT (fB (tst (op1 (fK "tuple") (aD 1)))) (tsb (op2 (eqR false) (opA cO (aA (aD 1) aF)) (cD (.int 0))))) (retS (cD (.bl false))) Ou.nx)
  (aU (dj (bW (aD 1)) (gnm 2) aCx)
  (aU (ifS (tsb (op2 (eqR true) (opA ut (aA (opA sZ (aA (aD 1) aF)) aF)) (opA cO (aA (aD 1) aF)))) (retS (cD (.bl false))) Ou.nx)
  (aU (dj (eZ vq (aA (cD (.int 1)) (aA (opA cO (aA (aD 1) aF)) aF))) (gnm 3) aCw)
  (retS (cD (.bl true)))))):=rfl
theorem yP{ps:List (Int×Int)}(hn:0<=n)(N:aDF n ps ll)(hp:pln d=true)(hs:aDw d=true):cC [.lst (ll.map .lst),d]= .ok (.bl (jO n ps d)):=by
 cases d with
 |tup ts=>
  have hp':tL ts=true:=by simpa[pln]using hp
  have hl:ts.length<4000:=by simpa[aDw]using hs
  have st:bF 4 [.lst (ll.map .lst),.tup ts]=[.sh (.lst (ll.map .lst)),.sh (.tup ts),.no,.no]:=rfl;have hll:((ll.map D.lst).length:Int)=n:=by rw[List.length_map,N.len];lia
  cases ts with
  |nil=>
   simp only[cC,dW,bK,st];simp[jO]
  |cons t0 tr=>
   generalize hts:t0::tr=ts at*;have hne:ts≠[]:=by rw[<-hts];simp
   have b1:ifS (orT (fB (tst (op1 (fK "tuple") (aD 1)))) (tsb (op2 (eqR false) (opA cO (aA (aD 1) aF)) (cD (.int 0))))) (retS (cD (.bl false))) Ou.nx [.sh (.lst (ll.map .lst)),.sh (.tup ts),.no,.no]= .nx [.sh (.lst (ll.map .lst)),.sh (.tup ts),.no,.no]:=by
    simp[hne]
   have L:=lw (a:=gnm 2) (u:=aCx) (r:=.bl false) ts (λ i=>match ts[i]? with|some t=>cG n t|none=>true) (λ ρ=>∃s,ρ=[.sh (.lst (ll.map .lst)),.sh (.tup ts),s,.no]) [.sh (.lst (ll.map .lst)),.sh (.tup ts),.no,.no] ⟨_,rfl⟩ (by
    rintro i d ρ hd ⟨s,rfl⟩;have e:=oU (m:=n) (jG (rH hp' (List.mem_of_getElem? hd)));simp only[hd];have hc:(fB (tst (aM cM (aA (opA cO (aA (aD 0) aF)) (aA (aD 2) aF))))) [.sh (.lst (ll.map .lst)),.sh (.tup ts),.sh d,.no]= .ok (!cG n d):=by
     have hv:aA (opA cO (aA (aD 0) aF)) (aA (aD 2) aF) [.sh (.lst (ll.map .lst)),.sh (.tup ts),.sh d,.no]= .ok [.int n,d]:=by
      rw[<-hll];simp
     rw[aAR,aCB,kY,hv,bJ,e,bJ,aHD,bJ]
    have hg:okE (gnm 2 d [.sh (.lst (ll.map .lst)),.sh (.tup ts),s,.no]) aCx=aCx [.sh (.lst (ll.map .lst)),.sh (.tup ts),.sh d,.no]:=by rw[t7,oN];rfl
    rw[hg];unfold aCx;rw[aAc,hc,dF];cases c:cG n d with
    |true=>right;exact⟨_,rfl,⟨_,rfl⟩,rfl⟩
    |false=>left;exact⟨by simp,rfl⟩)
   have hfor:∀o,forL (gnm 2) aCx ts [.sh (.lst (ll.map .lst)),.sh (.tup ts),.no,.no]=o->dj (bW (aD 1)) (gnm 2) aCx [.sh (.lst (ll.map .lst)),.sh (.tup ts),.no,.no]=o:=λ o h=>by
    have hi:bW (aD 1) [.sh (.lst (ll.map .lst)),.sh (.tup ts),.no,.no]= .ok ts:=by simp
    rw[fj,hi,dF,h]
   rcases L with ⟨e,i,hi,o⟩|⟨ρ',e,⟨s,rfl⟩,o⟩
   ·have:ts.all (cG n)=false:=by
     rw[List.all_eq_false];rw[List.getElem?_eq_getElem hi]at o;exact⟨ts[i],List.getElem_mem hi,by simpa using o⟩
    simp only[cC,dW,bK,st];rw[aN,b1,bG,aN,hfor _ e];simp[jO,this]
   ·have hall:ts.all (cG n)=true:=by
     rw[List.all_eq_true];intro t ht;obtain⟨i,hi,rfl⟩:=List.getElem_of_mem ht
     have:=o i hi
     rw[List.getElem?_eq_getElem hi]at this;exact this
    obtain⟨ei,hin⟩:=jb hall;have hwl:(ts.map intOf).length=ts.length:=List.length_map _;have hset:sZ [.tup ts]= .ok (.set (ddI (ts.map intOf))):=by
     have:=aBB (ns:=ts.map intOf) (by lia)
     rwa [ei]at this
    by_cases hdd:(ddI (ts.map intOf)).length=ts.length
    ·have b3:ifS (tsb (op2 (eqR true) (opA ut (aA (opA sZ (aA (aD 1) aF)) aF)) (opA cO (aA (aD 1) aF)))) (retS (cD (.bl false))) Ou.nx [.sh (.lst (ll.map .lst)),.sh (.tup ts),s,.no]= .nx [.sh (.lst (ll.map .lst)),.sh (.tup ts),s,.no]:=by
      simp[hset,hdd]
     have hr:=aAD (i:=1) (j:=(ts.length:Int)) (by decide) (by decide) (by lia) (by lia);have hlen:(di 1 (ts.length:Int)).length=ts.length-1:=by rw[lX];lia
     have L2:=lw (a:=gnm 3) (u:=aCw) (r:=.bl false) (di 1 (ts.length:Int)) (λ i=>match (ts.map intOf)[i]?,(ts.map intOf)[i+1]? with|some a,some b=>decide ((a,b)∈ps)|_,_=>true)
      (λ ρ=>∃s',ρ=[.sh (.lst (ll.map .lst)),.sh (.tup ts),s,s']) [.sh (.lst (ll.map .lst)),.sh (.tup ts),s,.no] ⟨_,rfl⟩ (by
       rintro i d ρ hd ⟨s',rfl⟩;obtain⟨rfl,h2⟩:=oK hd;have k1:i<(ts.map intOf).length:=by lia
       have k2:i+1<(ts.map intOf).length:=by lia
       have e1:(ts.map intOf)[i]? =some (ts.map intOf)[i]:=List.getElem?_eq_getElem k1;have e2:(ts.map intOf)[i+1]? =some (ts.map intOf)[i+1]:=List.getElem?_eq_getElem k2;have a1:atD ts (1+(i:Int)-1)= .ok (.int (ts.map intOf)[i]):=by
        rw[show(1+(i:Int)-1)=(i:Int)by lia];exact aJD ei e1
       have a2:atD ts (1+(i:Int))= .ok (.int (ts.map intOf)[i+1]):=by
        rw[show(1+(i:Int))=((i+1:Nat):Int)by lia];exact aJD ei e2
       have m1:=hin _ (List.getElem_mem k1);obtain⟨wa,a3,a4⟩:=N.item _ m1.1 m1.2;have hc:(tsb (op2 (inR true) (op2 ixD (aD 1) (aD 3)) (op2 ixD (aD 0) (op2 ixD (aD 1) (op2 aCG (aD 3) (cD (.int 1))))))) [.sh (.lst (ll.map .lst)),.sh (.tup ts),s,.sh (.int (1+(i:Int)))]= .ok (!decide (((ts.map intOf)[i],(ts.map intOf)[i+1])∈ps)):=by
        simp[a1,a2,a3,vL,a4,-List.getElem_map]
       have hg:okE (gnm 3 (.int (1+(i:Int))) [.sh (.lst (ll.map .lst)),.sh (.tup ts),s,s']) aCw=aCw [.sh (.lst (ll.map .lst)),.sh (.tup ts),s,.sh (.int (1+(i:Int)))]:=by rw[t7,oN];rfl
       rw[hg];unfold aCw;rw[aAc,hc,dF];simp only[e1,e2];cases c:decide (((ts.map intOf)[i],(ts.map intOf)[i+1])∈ps)with
       |true=>right;exact⟨_,rfl,⟨_,rfl⟩,rfl⟩
       |false=>left;exact⟨by simp,rfl⟩)
     have hfor2:∀o,forL (gnm 3) aCw (di 1 (ts.length:Int)) [.sh (.lst (ll.map .lst)),.sh (.tup ts),s,.no]=o->dj (eZ vq (aA (cD (.int 1)) (aA (opA cO (aA (aD 1) aF)) aF))) (gnm 3) aCw [.sh (.lst (ll.map .lst)),.sh (.tup ts),s,.no]=o:=λ o h=>by
      have hi:eZ vq (aA (cD (.int 1)) (aA (opA cO (aA (aD 1) aF)) aF)) [.sh (.lst (ll.map .lst)),.sh (.tup ts),s,.no]= .ok (di 1 (ts.length:Int)):=by simp[hr]
      rw[fj,hi,dF,h]
     rcases L2 with ⟨e2,i,hi,o2⟩|⟨ρ',e2,⟨s',rfl⟩,o2⟩
     ·have:fG ps (ts.map intOf)=false:=by
       cases c:fG ps (ts.map intOf)with
       |false=>rfl
       |true=>
        rw[hlen]at hi;have k1:i<(ts.map intOf).length:=by lia
        have k2:i+1<(ts.map intOf).length:=by lia
        have z:=uE.mp c i _ _ (List.getElem?_eq_getElem k1) (List.getElem?_eq_getElem k2);rw[List.getElem?_eq_getElem k1,List.getElem?_eq_getElem k2]at o2;simp only at o2;rw[decide_eq_true z]at o2;cases o2
      simp only[cC,dW,bK,st];rw[aN,b1,bG,aN,hfor _ e,bG,aN,b3,bG,aN,hfor2 _ e2];simp[jO,this]
     ·have:fG ps (ts.map intOf)=true:=uE.mpr λ i a b e1 e2'=>by
       have h2:=(List.getElem?_eq_some_iff.mp e2').1
       have:=o2 i (by rw[hlen];lia)
       rw[e1,e2']at this;simpa using this
      simp only[cC,dW,bK,st];rw[aN,b1,bG,aN,hfor _ e,bG,aN,b3,bG,aN,hfor2 _ e2,bG];simp[jO,this,hall,hdd,hne]
    ·have b3:ifS (tsb (op2 (eqR true) (opA ut (aA (opA sZ (aA (aD 1) aF)) aF)) (opA cO (aA (aD 1) aF)))) (retS (cD (.bl false))) Ou.nx [.sh (.lst (ll.map .lst)),.sh (.tup ts),s,.no]= .rt (.bl false):=by
      have:¬((ddI (ts.map intOf)).length:Int)=(ts.length:Int):=by lia
      simp[hset,this]
     simp only[cC,dW,bK,st];rw[aN,b1,bG,aN,hfor _ e,bG,aN,b3];simp[jO,hdd]
 |_=>
  simp only[cC,dW,bK];simp[bF,iW (jG hp),kI,jO]
theorem uA{α:Type}{f:α->D}{a:D->En->Rs En}{u:En->Ou}{r:D}{I:En->Prop}{P:α->Bool}:∀(xs:List α) (ρ:En),I ρ->
  (∀x∈xs,∀ρ,I ρ->(P x=true/\∃ρ',okE (a (f x) ρ) u= .nx ρ'/\I ρ')\/(P x=false/\okE (a (f x) ρ) u= .rt r))->
  (xs.all P=true/\∃ρ',forL a u (xs.map f) ρ= .nx ρ'/\I ρ')\/(xs.all P=false/\forL a u (xs.map f) ρ= .rt r)
 |[],ρ,h,_=>.inl ⟨rfl,ρ,rfl,h⟩
 |x::xs,ρ,h,H=>by
  rw[List.map_cons,fu,List.all_cons];have tnE:∀(r':Rs En) (k:En->Ou),okE r' (λ ρ1=>(u ρ1).tn k)=(okE r' u).tn k:=λ r' k=>by cases r'<;>rfl
  rw[tnE];rcases H x List.mem_cons_self ρ h with ⟨p,ρ',e,hI⟩|⟨p,e⟩
  ·rw[e,vW,p,Bool.true_and]
   exact uA xs ρ' hI λ y hy=>H y (List.mem_cons_of_mem _ hy)
  ·rw[e,aKx,p]
   exact .inr ⟨rfl,rfl⟩
theorem aBa{a:D->En->Rs En}{u:En->Ou}{r:D}{I:En->Prop}{P:D->Bool}(xs:List D)(ρ:En)(h:I ρ)
  (H:∀x∈xs,∀ρ,I ρ->(P x=true/\∃ρ',okE (a x ρ) u= .nx ρ'/\I ρ')\/(P x=false/\okE (a x ρ) u= .rt r)):
  (xs.all P=true/\∃ρ',forL a u xs ρ= .nx ρ'/\I ρ')\/(xs.all P=false/\forL a u xs ρ= .rt r):=by
 have:=uA (f:=id) (a:=a) (u:=u) (r:=r) (P:=P) xs ρ h H
 rwa [List.map_id]at this
theorem zO{l:List D}{k:Nat}(h:k<=l.length):cutD l (some (k:Int)) none=l.drop k:=by
 have e1:HT.sIx l.length 0 (some (k:Int))=k:=by simp[HT.sIx];lia
 have e2:HT.sIx l.length l.length none=l.length:=rfl;unfold cutD;rw[e1,e2,List.take_of_length_le (by rw[List.length_drop];exact Nat.le_refl _)]
theorem xX(l:List D)(a b:Option Int):(cutD l a b).length<=l.length:=by
 unfold cutD;rw[List.length_take,List.length_drop];lia
theorem xW(h:d∈cutD l a b):d∈l:=List.mem_of_mem_drop (List.mem_of_mem_take h)
theorem aG7(neg:Bool)(h1:fP d<=60)(h2:aQ d=true):eqR neg d d= .ok (.bl (if neg then false else true)):=by
 unfold eqR;rw[if_pos (by simp[h1,h2]),jP d h2];cases neg<;>rfl
theorem aG9(ns:List Int):fP (.tup (ns.map .int))<=60/\aQ (.tup (ns.map .int))=true:=by
 obtain⟨h1,h2⟩:=mH ns;exact⟨by unfold fP;lia,by unfold aQ;exact h2⟩
theorem vN{a:D->En->Rs En}{u:En->Ou}{I:En->Prop}:∀(ds:List D) (ρ:En),I ρ->(∀d∈ds,∀ρ,I ρ->∃ρ',okE (a d ρ) u= .nx ρ'/\I ρ')->∃ρ',forL a u ds ρ= .nx ρ'/\I ρ'
 |[],ρ,h,_=>⟨ρ,rfl,h⟩
 |d::ds,ρ,h,H=>by
  rw[fu];have tnE:∀(r':Rs En) (k:En->Ou),okE r' (λ ρ1=>(u ρ1).tn k)=(okE r' u).tn k:=λ r' k=>by cases r'<;>rfl
  rw[tnE];obtain⟨ρ',e,hI⟩:=H d List.mem_cons_self ρ h;rw[e,vW];exact vN ds ρ' hI λ y hy=>H y (List.mem_cons_of_mem _ hy)
theorem aDi{a b:Str}:eqR true (.str a) (.str b)= .ok (.bl (!(a==b))):=rfl
theorem aHr{p q:Int×Int}:ltP p q=true↔p.1<q.1\/p.1=q.1/\p.2<q.2:=by
 unfold ltP;have e:HT.lexLt [p.1,p.2] [q.1,q.2]=true↔p.1<q.1\/p.1=q.1/\p.2<q.2:=by
  by_cases h1:p.1=q.1
  ·by_cases h2:p.2=q.2
   ·simp[HT.lexLt,h1,h2]
   ·simp[HT.lexLt,h1,h2]
  ·simp[HT.lexLt,h1]
 exact e
theorem aFS{ps:List (Int×Int)}{q:Int×Int}(h:yH ps=true)(l:∀p∈ps,ltP p q=true):yH (ps++[q])=true:=by
 rw[aHT]at h ⊢;intro i a b e1 e2;by_cases hi:i+1<ps.length
 ·rw[List.getElem?_append_left (by lia)]at e1
  rw[List.getElem?_append_left hi]at e2;exact h i a b e1 e2
 ·have hj:=(List.getElem?_eq_some_iff.mp e2).1
  rw[List.length_append,List.length_singleton]at hj;have hk:i+1=ps.length:=by lia
  rw[List.getElem?_append_left (by lia)]at e1;rw[hk,List.getElem?_append_right (Nat.le_refl _),Nat.sub_self]at e2;cases e2;exact l a (List.mem_of_getElem? e1)
structure Wi(n a b:Int)(ps:List (Int×Int)):Prop where
 ris:yH ps=true
 pr:∀p∈ps,0<=p.1/\p.1<p.2/\p.2<n/\(p.1<a\/p.1=a/\p.2<b)
theorem Wi.put(W:Wi n a b ps)(h0:0<=a)(h1:a<b)(h2:b<n):Wi n a (b+1) (ps++[(a,b)]):=by
 refine⟨aFS W.ris λ p hp=>?_,λ p hp=>?_⟩
 ·obtain⟨_,_,_,h⟩:=W.pr p hp
  rw[aHr];exact h
 ·rcases List.mem_append.mp hp with hp|hp
  ·obtain⟨q1,q2,q3,q4⟩:=W.pr p hp
   exact⟨q1,q2,q3,by lia⟩
  ·rw[List.mem_singleton.mp hp]
   exact⟨h0,h1,h2,.inr ⟨rfl,by show b<b+1;lia⟩⟩
theorem Wi.on{a' b':Int}(W:Wi n a b ps)(h:a<a'\/a=a'/\b<=b'):Wi n a' b' ps:=⟨W.ris,λ p hp=>by
 obtain⟨q1,q2,q3,q4⟩:=W.pr p hp;exact⟨q1,q2,q3,by lia⟩⟩
def wbI:En->Ou:=ifS (tsb (op2 ltD (aM aX (aA (aD 0) (aA (op2 au (op2 au (cD (.int 3)) (op2 lr (cD (.int 61)) (aD 5))) (aD 6)) (aA (cD (.int 8)) aF)))) (aD 3))) (yV 4 (bH (aA (aq (aD 5)) (aA (aq (aD 6)) aF)))) Ou.nx
def wbO:En->Ou:=dj (eZ vq (aA (op2 au (aD 5) (cD (.int 1))) (aA (aD 2) aF))) (gnm 6) wbI
theorem aCj{most:Nat}(h1:most<=60):∃n ps,jD [.int c,.int most]= .ok (owD n ps)/\Ow n ps/\(∀p∈ps,p.1<p.2)/\n<=most:=by
 obtain⟨n,en,hn⟩:=jL (c:=c) (k:=0) (b:=(most:Int)+1) (by decide) (by decide) (by lia) (by lia);obtain⟨th,et,_⟩:=jL (c:=c) (k:=1) (b:=6) (by decide) (by decide) (by decide) (by decide);have hr1:=pA (j:=(n:Int)) (by lia) (by lia);have inner:∀(a:Int) (K0:Nat) (ps:List (Int×Int)) (s2:Slot),0<=a->a<n->K0<=3600->ps.length<=K0->Wi n a (a+1) ps->
   ∃ps' s2',forL (gnm 6) wbI (di (a+1) n) [.sh (.int c),.sh (.int most),.sh (.int n),.sh (.int (1+th)),.ow (.lst (ps.map pD)),.sh (.int a),s2]= .nx [.sh (.int c),.sh (.int most),.sh (.int n),.sh (.int (1+th)),.ow (.lst (ps'.map pD)),.sh (.int a),s2']/\ps'.length<=K0+60/\Wi n a n ps':=by
  intro a K0 ps s2 ha0 ha1 hK hl W;obtain⟨ρ',e,ps',s',rfl,hl',W'⟩:=wu (a:=gnm 6) (u:=wbI) (ds:=di (a+1) n)
   (λ k ρ=>∃(ps:List (Int×Int)) (s2:Slot),ρ=[.sh (.int c),.sh (.int most),.sh (.int n),.sh (.int (1+th)),.ow (.lst (ps.map pD)),.sh (.int a),s2]/\ps.length<=K0+k/\Wi n a (a+1+k) ps)
   (by
    rintro i d ρ hd ⟨ps,s2,rfl,hps,W⟩;obtain⟨rfl,hlt⟩:=oK hd;have hm:lr (.int 61) (.int a)= .ok (.int (61*a)):=aAT (by decide) (by decide);obtain⟨r,er,_⟩:=jL (c:=c) (k:=3+61*a+(a+1+i)) (b:=8) (by lia) (by lia) (by decide) (by decide);have hz:ps.length<16777216:=by lia
    by_cases hlt2:(r:Int)<1+th
    ·exact⟨_,by simp[wbI,hm,er,hlt2,yV,hz];rfl,ps++[(a,a+1+i)],_,by simp[pD];rfl,by simp;lia,by rw[show a+1+((i+1:Nat):Int)=a+1+(i:Int)+1 by lia];exact W.put ha0 (by lia) (by lia)⟩
    ·exact⟨_,by simp[wbI,hm,er,hlt2];rfl,ps,_,rfl,by lia,W.on (by lia)⟩)
   (ρ:=[.sh (.int c),.sh (.int most),.sh (.int n),.sh (.int (1+th)),.ow (.lst (ps.map pD)),.sh (.int a),s2]) ⟨ps,s2,rfl,by lia,W.on (by lia)⟩
  rw[lX]at hl' W';exact⟨ps',s',e,by lia,W'.on (by lia)⟩
 obtain⟨ρ',e,ps,s1,s2,rfl,hl,W⟩:=wu (a:=gnm 5) (u:=wbO) (ds:=di 0 n)
  (λ k ρ=>∃(ps:List (Int×Int)) (s1 s2:Slot),ρ=[.sh (.int c),.sh (.int most),.sh (.int n),.sh (.int (1+th)),.ow (.lst (ps.map pD)),s1,s2]/\ps.length<=60*k/\Wi n k 0 ps)
  (by
   rintro i d ρ hd ⟨ps,s1,s2,rfl,hps,W⟩;obtain⟨rfl,hlt⟩:=oK hd;have hr2:=aAD (i:=0+(i:Int)+1) (j:=(n:Int)) (by lia) (by lia) (by lia) (by lia);obtain⟨ps',s2',e,hl',W'⟩:=inner (0+(i:Int)) (60*i) ps s2 (by lia) (by lia) (by lia) hps ⟨W.ris,λ p hp=>by obtain⟨q1,q2,q3,q4⟩:=W.pr p hp;exact⟨q1,q2,q3,by lia⟩⟩;refine⟨_,?_,ps',.sh (.int (0+(i:Int))),s2',rfl,by lia,W'.on (by lia)⟩;simp only[Int.zero_add]at hr2 e ⊢;simp[wbO,hr2,e])
  (ρ:=[.sh (.int c),.sh (.int most),.sh (.int n),.sh (.int (1+th)),.ow (.lst []),.no,.no]) ⟨[],.no,.no,rfl,by simp,rfl,λ p hp=>by cases hp⟩
 rw[lX]at hl;refine⟨n,ps,?_,⟨by lia,by lia,by lia,λ p hp=>by obtain⟨q1,q2,q3,q4⟩:=W.pr p hp;exact⟨q1,by lia,by lia,q3,by lia⟩,W.ris⟩,λ p hp=>(W.pr p hp).2.1,by lia⟩;have st:bF 7 [.int c,.int most]=[.sh (.int c),.sh (.int most),.no,.no,.no,.no,.no]:=rfl;have df:jh=aU (cU 2 (aM aX (aA (aD 0) (aA (cD (.int 0)) (aA (op2 au (aD 1) (cD (.int 1))) aF)))))
  (aU (cU 3 (op2 au (cD (.int 1)) (aM aX (aA (aD 0) (aA (cD (.int 1)) (aA (cD (.int 6)) aF))))))
  (aU (lE 4 (dJ aF)) (aU (dj (eZ nA (aA (aD 2) aF)) (gnm 5) wbO)
  (retS (bH (aA (aq (aD 2)) (aA (opA dO (aA (j9 4) aF)) aF))))))):=rfl
 simp only[jD,df,bK,st];simp[en,et,hr1,e,owD]
def lnB:En->Ou:=aU (j6 1 (aD 2) (aq (aD 3))) (j6 1 (aD 3) (aq (aD 2)))
theorem wO{w:Slot}:∀(ps:List (Int×Int)) (ll:List (List D)) (s4 s5:Slot),(∀p∈ps,0<=p.1/\p.1<ll.length/\0<=p.2/\p.2<ll.length)->(∀l∈ll,l.length+2*ps.length<=10000)->
  ∃s4' s5',forL (fD 2 (aj (gnm 2) (aj (gnm 3) fM))) lnB (ps.map pD) [w,.o2 ll,s4,s5]= .nx [w,.o2 ((dbl ps).foldl bR ll),s4',s5']
 |[],ll,s4,s5,_,_=>⟨s4,s5,rfl⟩
 |p::ps,ll,s4,s5,h,hl=>by
  obtain⟨a0,a1,b0,b1⟩:=h p List.mem_cons_self;have hb0:∀l∈ll,l.length<=10000-2*(ps.length+1):=λ l hm=>by
   have:=hl l hm
   rw[List.length_cons]at this;lia
  have hb1:=rD (p:=p) hb0;have hb2:=rD (p:=(p.2,p.1)) hb1;by_cases hne:ll=[]
  ·subst hne
   simp at a1;lia
  have hbig:2*(ps.length+1)<=10000:=by
   obtain⟨l,hm⟩:=List.exists_mem_of_ne_nil ll hne
   have:=hl l hm
   rw[List.length_cons]at this;lia
  obtain⟨s4',s5',e⟩:=wO (w:=w) ps (bR (bR ll p) (p.2,p.1)) (.sh (.int p.1)) (.sh (.int p.2)) (λ q hq=>by rw[lU,lU];exact h q (List.mem_cons_of_mem _ hq)) (λ l hm=>by have:=hb2 l hm;lia);refine⟨s4',s5',?_⟩;rw[List.map_cons,fu,xU,List.foldl_cons,List.foldl_cons];have hg:okE (fD 2 (aj (gnm 2) (aj (gnm 3) fM)) (pD p) [w,.o2 ll,s4,s5]) (λ ρ1=>(lnB ρ1).tn (forL (fD 2 (aj (gnm 2) (aj (gnm 3) fM))) lnB (ps.map pD)))=
    (lnB [w,.o2 ll,.sh (.int p.1),.sh (.int p.2)]).tn (forL (fD 2 (aj (gnm 2) (aj (gnm 3) fM))) lnB (ps.map pD)):=by
   simp[pD]
  have c1:j6 1 (aD 2) (aq (aD 3)) [w,.o2 ll,.sh (.int p.1),.sh (.int p.2)]= .nx [w,.o2 (bR ll p),.sh (.int p.1),.sh (.int p.2)]:=
   vP (a:=p.1) (b:=p.2) rfl (by simp) (by simp) a0 a1 (by have:=vM hb0 p.1.toNat;lia)
  have c2:j6 1 (aD 3) (aq (aD 2)) [w,.o2 (bR ll p),.sh (.int p.1),.sh (.int p.2)]= .nx [w,.o2 (bR (bR ll p) (p.2,p.1)),.sh (.int p.1),.sh (.int p.2)]:=
   vP (a:=p.2) (b:=p.1) rfl (by simp) (by simp) b0 (by rw[lU];exact b1) (by have:=vM hb1 p.2.toNat;lia)
  have hc:lnB [w,.o2 ll,.sh (.int p.1),.sh (.int p.2)]= .nx [w,.o2 (bR (bR ll p) (p.2,p.1)),.sh (.int p.1),.sh (.int p.2)]:=by
   unfold lnB;rw[aN,c1,bG,c2]
  rw[hg,hc,vW];exact e
theorem aBb:∀(ps:List (Int×Int)) (ll:List (List D)) (m:Nat),(∀l∈ll,l.length<=m)->∀l∈ps.foldl bR ll,l.length<=m+ps.length
 |[],_,_,h=>h
 |p::ps,ll,m,h=>λ l hl=>by
  have:=aBb ps (bR ll p) (m+1) (rD h) l hl
  rw[List.length_cons];lia
theorem aDj:∀ps:List (Int×Int),(dbl ps).length=2*ps.length
 |[]=>rfl
 |p::ps=>by rw[xU,List.length_cons,List.length_cons,aDj ps,List.length_cons];lia
theorem aB2(h:Ow n ps):∃ll,jE [owD n ps]= .ok (.lst (ll.map .lst))/\aDF n (dbl ps) ll/\∀l∈ll,l.length<=7200:=by
 have hn0:=h.n0;have hn1:=h.n1;have hr:=pA (j:=n) (by lia) (by lia);have hlen:(di 0 n).length=n.toNat:=by rw[lX];lia
 have hps:=h.len;have hin:∀p∈ps,0<=p.1/\p.1<(List.replicate n.toNat ([]:List D)).length/\0<=p.2/\p.2<(List.replicate n.toNat ([]:List D)).length:=λ p hp=>by
  obtain⟨a,b,c,d,_⟩:=h.pr p hp;rw[List.length_replicate];lia
 have hin2:∀p∈dbl ps,0<=p.1/\p.1<(List.replicate n.toNat ([]:List D)).length:=λ p hp=>by
  rcases aAV.mp (show(p.1,p.2)∈dbl ps from hp)with z|z
  ·have:=hin _ z;exact⟨this.1,this.2.1⟩
  ·have:=hin _ z;exact⟨this.2.2.1,this.2.2.2⟩
 obtain⟨s4,s5,e⟩:=wO (w:=.sh (owD n ps)) ps (List.replicate n.toNat []) .no .no hin (λ l hl=>by
  rw[(List.mem_replicate.mp hl).2];simp;lia)
 refine⟨(dbl ps).foldl bR (List.replicate n.toNat []),?_,⟨by rw[mC,List.length_replicate],λ i h0 h1=>⟨rP (dbl ps) i,?_,λ b=>aD5⟩⟩,λ l hl=>?_⟩
 ·have hz:n.toNat<16777216:=by lia
  have a1:llS 1 (eZ nA (aA (op2 ixD (aD 0) (cD (.int 0))) aF)) [none] (gnm 0) [.sh (owD n ps),.no,.no,.no]= .nx [.sh (owD n ps),.o2 (List.replicate n.toNat []),.no,.no]:=by
   unfold llS;simp[shE,qN,owD,hr,hlen,hz]
  have a2:dj (bW (op2 ixD (aD 0) (cD (.int 1)))) (fD 2 (aj (gnm 2) (aj (gnm 3) fM))) lnB [.sh (owD n ps),.o2 (List.replicate n.toNat []),.no,.no]= .nx [.sh (owD n ps),.o2 ((dbl ps).foldl bR (List.replicate n.toNat [])),s4,s5]:=by
   have hi:bW (op2 ixD (aD 0) (cD (.int 1))) [.sh (owD n ps),.o2 (List.replicate n.toNat []),.no,.no]= .ok (ps.map pD):=by simp[owD]
   rw[fj,hi,dF];exact e
  have a3:retS (j9 1) [.sh (owD n ps),.o2 ((dbl ps).foldl bR (List.replicate n.toNat [])),s4,s5]= .rt (.lst (((dbl ps).foldl bR (List.replicate n.toNat [])).map .lst)):=by simp
  have st:bF 4 [owD n ps]=[.sh (owD n ps),.no,.no,.no]:=rfl;have df:iZ=aU (llS 1 (eZ nA (aA (op2 ixD (aD 0) (cD (.int 0))) aF)) [none] (gnm 0)) (aU (dj (bW (op2 ixD (aD 0) (cD (.int 1)))) (fD 2 (aj (gnm 2) (aj (gnm 3) fM))) lnB) (retS (j9 1))):=rfl;simp only[jE,df,bK,st];rw[aN,a1,bG,aN,a2,bG,a3]
 ·have hk:i.toNat<(List.replicate n.toNat ([]:List D)).length:=by rw[List.length_replicate];lia
  have hg:=uB (dbl ps) (List.replicate n.toNat []) i.toNat hin2 hk;have hk2:i.toNat<((dbl ps).foldl bR (List.replicate n.toNat [])).length:=by rw[mC];exact hk
  have hi:((i.toNat:Nat):Int)=i:=Int.toNat_of_nonneg h0;rw[hi]at hg;rw[<-hi];refine lL ?_;rw[hi,List.getElem?_map,List.getElem?_eq_getElem hk2]
  have:((dbl ps).foldl bR (List.replicate n.toNat []))[i.toNat]=(rP (dbl ps) i).map .int:=by
   have e1:((dbl ps).foldl bR (List.replicate n.toNat [])).getD i.toNat []=((dbl ps).foldl bR (List.replicate n.toNat []))[i.toNat]:=by simp[hk2]
   rw[<-e1,hg];have e2:(List.replicate n.toNat ([]:List D)).getD i.toNat []=[]:=by
    rw[List.getD_eq_getElem?_getD,List.getElem?_replicate];split<;>rfl
   rw[e2,List.nil_append]
  rw[this];rfl
 ·have:=aBb (dbl ps) (List.replicate n.toNat []) 0 (λ l hl=>by rw[(List.mem_replicate.mp hl).2];exact Nat.le_refl _) l hl
  rw[aDj]at this;lia
theorem uD:∀ws:List Int,fG es ws=(ws.zip (ws.drop 1)).all λ p=>decide (p∈es)
 |[]=>rfl
 |[_]=>rfl
 |a::b::r=>by
  have ih:=uD (es:=es) (b::r);unfold fG;rw[ih];rfl
theorem aGb(low:∀p∈ps,p.1<p.2):(a,b)∈dbl ps↔(mn a b,mx a b)∈ps:=by
 rw[aAV];constructor
 ·rintro(h|h)
  ·have:=low _ h
   have e1:mn a b=a:=by unfold mn;rw[if_neg (by simp at this;lia)]
   have e2:mx a b=b:=by unfold mx;rw[if_pos (by simp at this;lia)]
   rw[e1,e2];exact h
  ·have:=low _ h
   have e1:mn a b=b:=by unfold mn;rw[if_pos (by simp at this;lia)]
   have e2:mx a b=a:=by unfold mx;rw[if_neg (by simp at this;lia)]
   rw[e1,e2];exact h
 ·intro h
  rcases aHm a b with ⟨e1,e2⟩|⟨e1,e2⟩
  ·rw[e1,e2]at h;exact .inl h
  ·rw[e1,e2]at h;exact .inr h
def lgA:En->Ou:=ifS (orT (fB (tst (op1 (fK "tuple") (aD 1)))) (tsb (op2 (eqR false) (aD 1) (bH aF)))) (retS (cD (.bl false))) Ou.nx
def lgB:En->Ou:=ifS (orT (fB (tst (op1 (fK "int") (aD 2)))) (orT (tst (op1 (fK "bool") (aD 2))) (fB (tsb (chD leD ltD (cD (.int 0)) (aD 2) (op2 ixD (aD 0) (cD (.int 0)))))))) (retS (cD (.bl false))) Ou.nx
def lgC:En->Ou:=ifS (tsb (op2 (eqR true) (opA ut (aA (opA sZ (aA (aD 1) aF)) aF)) (opA cO (aA (aD 1) aF)))) (retS (cD (.bl false))) Ou.nx
def lgD:En->Ou:=ifS (tsb (op2 (inR true) (bH (aA (opA (mmD λ i j=>if j<i then j else i) (aA (aD 3) (aA (aD 4) aF))) (aA (opA (mmD λ i j=>if j>i then j else i) (aA (aD 3) (aA (aD 4) aF))) aF))) (op2 ixD (aD 0) (cD (.int 1))))) (retS (cD (.bl false))) Ou.nx
def lgZ:En->Rs (List D):=eZ qL (aA (aD 1) (aA (bM (aD 1) (cA (cD (.int 1))) cB) aF))
theorem aA3:ie=aU lgA (aU (dj (bW (aD 1)) (gnm 2) lgB) (aU lgC (aU (dj lgZ (fD 2 (aj (gnm 3) (aj (gnm 4) fM))) lgD) (retS (cD (.bl true)))))):=rfl
theorem aKP{s:Slot}{w:D}(hk:knd d=true):lgB [.sh (.tup [.int n,w]),s,.sh d,.no,.no]=if cG n d=true then .nx [.sh (.tup [.int n,w]),s,.sh d,.no,.no]else .rt (.bl false):=by
 unfold lgB;cases d with
 |int i=>
  by_cases h1:0<=i<;>by_cases h2:i<n<;>simp[cG,h1,h2]
 |bl b=>simp[cG,vK (d:=.bl b) rfl,aCr]
 |scr x=>cases hk
 |set x=>cases hk
 |fn x=>cases hk
 |_=>simp[cG,vK hk,aCr]
theorem aB3(h:Ow n ps)(low:∀p∈ps,p.1<p.2)(hp:pln d=true)(hs:aDw d=true)(h1:fP d<=60)(h2:aQ d=true):lC [owD n ps,d]= .ok (.bl (jO n (dbl ps) d)):=by
 have st:bF 5 [owD n ps,d]=[.sh (owD n ps),.sh d,.no,.no,.no]:=rfl;simp only[lC,aA3,bK,st];cases ht:kI d with
 |false=>
  have b1:lgA [.sh (owD n ps),.sh d,.no,.no,.no]= .rt (.bl false):=by simp[lgA,iW (jG hp),ht]
  have e:jO n (dbl ps) d=false:=by cases d<;>first|rfl|(cases ht)
  rw[aN,b1,e];rfl
 |true=>
  obtain⟨ts,rfl⟩:=rA ht;have hp':tL ts=true:=by simpa[pln]using hp
  have hl:ts.length<4000:=by simpa[aDw]using hs
  have hq:eqR false (.tup ts) (.tup [])= .ok (.bl ts.isEmpty):=by
   unfold eqR;have e0:aQ (.tup [])=true:=rfl;rw[if_pos (by rw[h2,e0,decide_eq_true h1];rfl)];cases ts<;>rfl
  cases hne:ts.isEmpty with
  |true=>
   have b1:lgA [.sh (owD n ps),.sh (.tup ts),.no,.no,.no]= .rt (.bl false):=by simp[lgA,hq,hne]
   rw[aN,b1];simp[jO,hne]
  |false=>
   have b1:lgA [.sh (owD n ps),.sh (.tup ts),.no,.no,.no]= .nx [.sh (owD n ps),.sh (.tup ts),.no,.no,.no]:=by simp[lgA,hq,hne]
   rw[aN,b1,bG,aN];have hi:bW (aD 1) [.sh (owD n ps),.sh (.tup ts),.no,.no,.no]= .ok ts:=by simp
   rw[fj,hi,dF];rcases aBa (a:=gnm 2) (u:=lgB) (r:=.bl false) (P:=cG n) (I:=λ ρ=>∃s,ρ=[.sh (owD n ps),.sh (.tup ts),s,.no,.no]) ts [.sh (owD n ps),.sh (.tup ts),.no,.no,.no] ⟨_,rfl⟩ (by
     rintro x hx ρ ⟨s,rfl⟩;have e:=aKP (n:=n) (d:=x) (s:=.sh (.tup ts)) (w:=.tup (ps.map pD)) (jG (rH hp' hx));rw[t7,oN];cases c:cG n x with
     |true=>rw[c,if_pos rfl]at e;exact .inl ⟨rfl,_,e,_,rfl⟩
     |false=>rw[c,if_neg (by simp)]at e;exact .inr ⟨rfl,e⟩)with ⟨hall,ρ',e,s,rfl⟩|⟨hall,e⟩
   ·rw[e,bG]
    obtain⟨ei,hin⟩:=jb hall;have hwl:(ts.map intOf).length=ts.length:=List.length_map _;have hset:sZ [.tup ts]= .ok (.set (ddI (ts.map intOf))):=by
     have:=aBB (ns:=ts.map intOf) (by lia)
     rwa [ei]at this
    by_cases hdd:(ddI (ts.map intOf)).length=ts.length
    ·have b3:lgC [.sh (owD n ps),.sh (.tup ts),s,.no,.no]= .nx [.sh (owD n ps),.sh (.tup ts),s,.no,.no]:=by simp[lgC,hset,hdd]
     rw[aN,b3,bG,aN];have hz:lgZ [.sh (owD n ps),.sh (.tup ts),s,.no,.no]= .ok (((ts.map intOf).zip ((ts.map intOf).drop 1)).map pD):=by
      have hc:cutD ts (some 1) none=ts.drop 1:=zO (k:=1) (by cases ts with
       |nil=>cases hne
       |cons _ _=>simp)
      have e1:xq ts (ts.drop 1)=((ts.map intOf).zip ((ts.map intOf).drop 1)).map pD:=by
       have e2:ts=(ts.map intOf).map D.int:=ei.symm;generalize ts.map intOf=ws at e2;subst e2;unfold xq;rw[<-List.map_drop,List.zip_map,List.map_map];rfl
      simp[lgZ,hc,qL,e1,-List.drop_one]
     rw[fj,hz,dF];rcases uA (f:=pD) (a:=fD 2 (aj (gnm 3) (aj (gnm 4) fM))) (u:=lgD) (r:=.bl false) (P:=λ p=>decide (p∈dbl ps)) (I:=λ ρ=>∃s3 s4,ρ=[.sh (owD n ps),.sh (.tup ts),s,s3,s4]) ((ts.map intOf).zip ((ts.map intOf).drop 1)) [.sh (owD n ps),.sh (.tup ts),s,.no,.no] ⟨_,_,rfl⟩ (by
       rintro⟨a,b⟩ hx ρ ⟨s3,s4,rfl⟩;have g:okE (fD 2 (aj (gnm 3) (aj (gnm 4) fM)) (pD (a,b)) [.sh (owD n ps),.sh (.tup ts),s,s3,s4]) lgD=lgD [.sh (owD n ps),.sh (.tup ts),s,.sh (.int a),.sh (.int b)]:=by simp[pD]
       have hc:inR true (.tup [.int (mn a b),.int (mx a b)]) (.tup (ps.map pD))= .ok (.bl (!decide ((mn a b,mx a b)∈ps))):=aGO true (mn a b,mx a b) ps;have e:lgD [.sh (owD n ps),.sh (.tup ts),s,.sh (.int a),.sh (.int b)]=if decide ((mn a b,mx a b)∈ps)=true then .nx [.sh (owD n ps),.sh (.tup ts),s,.sh (.int a),.sh (.int b)]else .rt (.bl false):=by
        unfold lgD;unfold mn mx at hc ⊢;simp only[gt_iff_lt]at hc ⊢;simp[owD,hc]
       have e2:decide ((a,b)∈dbl ps)=decide ((mn a b,mx a b)∈ps):=by rw[Bool.eq_iff_iff,decide_eq_true_eq,decide_eq_true_eq];exact aGb low
       rw[g,e,e2];cases c:decide ((mn a b,mx a b)∈ps)with
       |true=>exact .inl ⟨rfl,_,rfl,_,_,rfl⟩
       |false=>exact .inr ⟨rfl,rfl⟩)with ⟨hz2,ρ',e2,s3,s4,rfl⟩|⟨hz2,e2⟩
     ·rw[e2,bG]
      have:=uD (es:=dbl ps) (ts.map intOf)
      rw[hz2]at this;simp[jO,hne,hall,hdd,this]
     ·rw[e2]
      have:=uD (es:=dbl ps) (ts.map intOf)
      rw[hz2]at this;simp[jO,this]
    ·have b3:lgC [.sh (owD n ps),.sh (.tup ts),s,.no,.no]= .rt (.bl false):=by
      have hdi:¬((ddI (ts.map intOf)).length:Int)=(ts.length:Int):=by lia
      simp[lgC,hset,hdi]
     rw[aN,b3];simp[jO,hdd]
   ·rw[e]
    simp[jO,hall]
theorem aDd:∀{l:List D},(∀d∈l,imm d=true)->uw l=true
 |[],_=>rfl
 |x::r,h=>by
  simp only[uw,Bool.and_eq_true];exact⟨h x (List.mem_cons_self ..),aDd λ d hd=>h d (List.mem_cons_of_mem _ hd)⟩
theorem oZ{k:Nat}:∀{l:List D},(∀d∈l,fP d<=k)->cI l<=k
 |[],_=>Nat.zero_le _
 |x::r,h=>by
  unfold cI;exact Nat.max_le.mpr ⟨h x List.mem_cons_self,oZ λ d hd=>h d (List.mem_cons_of_mem _ hd)⟩
theorem lZ:∀{l:List D},(∀d∈l,aQ d=true)->ao l=true
 |[],_=>rfl
 |x::r,h=>by
  unfold ao;rw[h x List.mem_cons_self,lZ λ d hd=>h d (List.mem_cons_of_mem _ hd)];rfl
structure El(k:Nat)(d:D):Prop where
 p:pln d=true
 e:fP d<=k
 n:aQ d=true
 i:imm d=true
theorem El.tup{k:Nat}{l:List D}(h:∀d∈l,El k d):El (k+1) (.tup l):=⟨by unfold pln;exact aAI λ d hd=>(h d hd).p,by unfold fP;exact Nat.succ_le_succ (oZ λ d hd=>(h d hd).e),by unfold aQ;exact lZ λ d hd=>(h d hd).n,by unfold imm;exact aDd λ d hd=>(h d hd).i⟩
theorem El.int{k:Nat}{i:Int}:El k (.int i):=⟨rfl,Nat.zero_le _,rfl,rfl⟩
theorem El.bl{k:Nat}{b:Bool}:El k (.bl b):=⟨rfl,Nat.zero_le _,rfl,rfl⟩
theorem El.ints{k:Nat}{ws:List Int}:∀d∈ws.map D.int,El k d:=λ d hd=>by obtain⟨w,_,rfl⟩:=List.mem_map.mp hd;exact .int
theorem El.g{k:Nat}(h:El k d):rY d= .ok d:=aIQ h.i
theorem uz{l m:List D}(h:l.length+m.length<=16777216):au (.tup l) (.tup m)= .ok (.tup (l++m)):=by rw[mR,if_pos h]
theorem aLg{l m:List D}(h:l.length+m.length<=16777216):au (.lst l) (.lst m)= .ok (.lst (l++m)):=by rw[aBr,if_pos h]
theorem aI3{l:List D}(h:l≠[]):atD l (-1)= .ok (l.getLast h):=by
 have hk:0<l.length:=List.length_pos_iff.mpr h;unfold atD atI ixN;rw[if_neg (by decide),if_pos (by lia)];have e:((-1:Int)+(l.length:Int)).toNat=l.length-1:=by lia
 rw[e,List.getLast_eq_getElem];simp[List.getElem?_eq_getElem (show l.length-1<l.length by lia)]
theorem aGl{ws:List Int}(h:ws≠[]):atD (ws.map .int) (-1)= .ok (.int (ws.getLast h)):=by
 rw[aI3 (by simpa using h),List.getLast_map]
structure Fn4(d:D):Prop where
 p:pln d=true
 s:aDw d=true
 e:fP d<=60
 n:aQ d=true
theorem El.fn{k:Nat}{l:List D}(h:∀d∈l,El k d)(hk:k<60)(hl:l.length<4000):Fn4 (.tup l):=let q:=El.tup h;⟨q.p,by simpa[aDw]using hl,Nat.le_trans q.e hk,q.n⟩
theorem aGL{c:En->Rs Bool}{b:En->Ou}{I:Nat->En->Prop}(st:∀m ρ,I m ρ->c ρ= .ok false\/(c ρ= .ok true/\∃ρ' m',b ρ= .nx ρ'/\m'<m/\I m' ρ')):
  ∀(n m:Nat) (ρ:En),m<n->I m ρ->∃ρ' m',itW c b n ρ= .nx ρ'/\I m' ρ'/\c ρ'= .ok false
 |0,_,_,h,_=>absurd h (Nat.not_lt_zero _)
 |n+1,m,ρ,h,hI=>by
  rcases st m ρ hI with e|⟨e,ρ',m',e2,hm,hI'⟩
  ·exact⟨ρ,m,by unfold itW;rw[e];rfl,hI,e⟩
  ·obtain⟨ρ2,m2,e3,r⟩:=aGL st n m' ρ' (by lia) hI'
   refine⟨ρ2,m2,?_,r⟩;unfold itW;rw[e,dF,if_pos rfl,e2];exact e3
theorem aEn{c:En->Rs Bool}{b:En->Ou}(I:Nat->En->Prop)(st:∀m ρ,I m ρ->c ρ= .ok false\/(c ρ= .ok true/\∃ρ' m',b ρ= .nx ρ'/\m'<m/\I m' ρ')){m:Nat}{ρ:En}(hm:m<1000000)(h:I m ρ):
  ∃ρ' m',zX c b ρ= .nx ρ'/\I m' ρ'/\c ρ'= .ok false:=aGL st fuel m ρ hm h
def rowOf:D->List Int
 | .tup ts=>ts.map intOf
 |_=>[]
def aBS(n:Int)(l:List Int):Bool:=eqD (.lst ((sortI l).map .int)) (.lst (di 0 n))
theorem yh(h:l.length<64):gJ [.lst (l.map .int)]= .ok (.lst ((sortI l).map .int)):=by
 cases l with
 |nil=>rfl
 |cons i r=>
  have e:qM ((i::r).map D.int)=none:=rfl;unfold gJ;dsimp only;rw[e];dsimp only;rw[fQ];dsimp only;rw[if_pos h]
theorem aD2:eqR false (.lst ((sortI l).map .int)) (.lst (di 0 n))= .ok (.bl (aBS n l)):=by
 obtain⟨h1,h2⟩:=mH (sortI l);have h3:ao (di 0 n)=true:=by rw[yp];exact(mH _).2
 unfold eqR aBS;simp[aQ,fP,h1,h2,h3]
theorem aGA(hf:f ρ= .ok (.int n))(h0:0<=n)(h1:n<=60):lrD f ρ= .ok (.lst (di 0 n)):=by
 unfold lrD;rw[hf,bJ];unfold lrR;simp;lia
theorem aFm(rws:List (List Int)):nsL [.no,.no] (gnm 0) cz (inL (bW (aD 0)) (gnm 1) cz (aq (aD 1))) (rws.map tupI)= .ok (rws.flatten.map .int):=by
 induction rws with
 |nil=>rfl
 |cons ns rws ih=>
  have hi:inL (bW (aD 0)) (gnm 1) cz (aq (aD 1)) [.sh (tupI ns),.no]= .ok (ns.map .int):=by
   have hm:=aA0 (ρ:=[.sh (tupI ns),.no]) (fg:=gnm 1) (fe:=aq (aD 1)) (g:=id) (ns.map .int) λ d hd=>⟨_,rfl,by
    obtain⟨i,_,rfl⟩:=List.mem_map.mp hd;simp⟩
   rw[List.map_id]at hm;unfold inL;rw[if_pos (by rfl)]
   have:bW (aD 0) [.sh (tupI ns),.no]= .ok (ns.map .int):=by simp[tupI]
   rw[this,bJ,hm]
  rw[List.map_cons,List.flatten_cons,List.map_append]
  show((gnm 0 (tupI ns) [.no,.no]).bd λ ρ1=>(cz ρ1).bd λ k=>if k=true then(inL (bW (aD 0)) (gnm 1) cz (aq (aD 1)) ρ1).bd λ ys=>(nsL [.no,.no] (gnm 0) cz (inL (bW (aD 0)) (gnm 1) cz (aq (aD 1))) (rws.map tupI)).bd λ zs=>.ok (ys++zs)else _)=_
  have hg:gnm 0 (tupI ns) [.no,.no]= .ok [.sh (tupI ns),.no]:=rfl;have hy:cz [.sh (tupI ns),.no]= .ok true:=rfl;rw[hg,bJ,hy,bJ,if_pos rfl,hi,bJ,ih,bJ]
theorem aAf{rws:List (List Int)}(h0:0<=n)(h1:n<=60)(hl:rws.flatten.length<64):gr [.int n,.tup (rws.map tupI)]= .ok (.bl (aBS n rws.flatten)):=by
 have st:bF 2 [.int n,.tup (rws.map tupI)]=[.sh (.int n),.sh (.tup (rws.map tupI))]:=rfl;have hc:aA1 (bW (aD 1)) [none,none] (gnm 0) cz (inL (bW (aD 0)) (gnm 1) cz (aq (aD 1))) [.sh (.int n),.sh (.tup (rws.map tupI))]= .ok (.lst (rws.flatten.map .int)):=by
  have hi:bW (aD 1) (shE [.sh (.int n),.sh (.tup (rws.map tupI))])= .ok (rws.map tupI):=by simp[shE,qN]
  have hns:nsL (stE [none,none] (shE [.sh (.int n),.sh (.tup (rws.map tupI))])) (gnm 0) cz (inL (bW (aD 0)) (gnm 1) cz (aq (aD 1))) (rws.map tupI)= .ok (rws.flatten.map .int):=aFm rws;unfold aA1;rw[hi,bJ,hns];dsimp only;rw[if_pos (by rw[List.length_map,sizeLine_eq];lia)]
 have hr:lrD (aD 0) [.sh (.int n),.sh (.tup (rws.map tupI))]= .ok (.lst (di 0 n)):=aGA (by simp) h0 h1;simp only[gr,gk,bK,st];rw[gM,nG,jX,dY,hc,bJ,vJ,bJ,bJ,yh hl,oO,bJ,hr,bJ,aD2];rfl
theorem aEQ(ws:List Int):dg [tupI ws]= .ok (tupI (if HT.lexLt ws.reverse ws=true then ws.reverse else ws)):=by
 have st:bF 1 [tupI ws]=[.sh (tupI ws)]:=rfl;have hm:lG [tupI ws,.tup (ws.map D.int).reverse]= .ok (tupI (if HT.lexLt ws.reverse ws=true then ws.reverse else ws)):=by
  rw[<-List.map_reverse];unfold lG tupI;dsimp only;rw[fQ,fQ];dsimp only;split<;>rfl
 simp only[dg,dX,bK,st];rw[gM,jX];have hv:aA (aD 0) (aA (op1 uq (aD 0)) aF) [.sh (tupI ws)]= .ok [tupI ws,.tup (ws.map D.int).reverse]:=by simp[tupI]
 rw[hv,bJ,hm];rfl
theorem vp{B:D->Bool}(hr:∀d,B d=true->tupI (rowOf d)=d){rs:List D}(h:rs.all B=true):(rs.map rowOf).map tupI=rs:=by
 rw[List.map_map]
 conv=>rhs;rw[<-List.map_id rs]
 refine List.map_congr_left λ d hd=>hr d (List.all_eq_true.mp h d hd)
theorem aHt(h:jO n es (.tup ts)=true):tupI (rowOf (.tup ts))= .tup ts:=by
 simp only[jO,Bool.and_eq_true]at h;show D.tup ((ts.map intOf).map .int)=D.tup ts;rw[(jb h.1.1.2).1]
theorem mD:∀{l:List (List Int)},(∀r∈l,r≠[])->l.length<=l.flatten.length:=by
 intro l;induction l with
 |nil=>intro _;simp
 |cons a l ih=>
  intro h;have h1:0<a.length:=List.length_pos_iff.mpr (h a List.mem_cons_self)
  have:=ih λ x hx=>h x (List.mem_cons_of_mem _ hx)
  rw[List.flatten_cons,List.length_append,List.length_cons];lia
theorem yg(h:∀r∈f,r≠[])(hl:f.length<64):gJ [.lst (f.map tupI)]= .ok (.lst ((pU f).map tupI)):=by
 unfold gJ;dsimp only;rw[vV h];dsimp only;rw[if_pos hl]
theorem aFo{i j:Nat}{l m:List Int}(hf:f (shE ρ)= .ok (l.map .int))(hs:stE js (shE ρ)=[.no,.sh (.tup (m.map .int))]\/stE js (shE ρ)=[.no,.sh (.lst (m.map .int))])(hl:l.length<=1000):
  lcD f js (gnm 0) (tsb (op2 (inR true) (aD 0) (aD 1))) (aq (aD 0)) ρ= .ok (.lst ((l.filter λ x=>!decide (x∈m)).map .int)):=by
 refine tV hf (by rw[List.length_map];lia) ?_;rcases hs with hs|hs<;>rw[hs]
 ·refine pH (fg:=gnm 0) (f:=D.int) (g:=D.int) (t:=λ x=>!decide (x∈m)) l λ x _=>⟨[.sh (.int x),.sh (.tup (m.map .int))],rfl,?_,by simp⟩
  have a2:aD 1 [.sh (.int x),.sh (.tup (m.map .int))]= .ok (.tup (m.map .int)):=rfl;have a3:aD 0 [.sh (.int x),.sh (.tup (m.map .int))]= .ok (.int x):=rfl;rw[zY,nG,a3,bJ,a2,bJ,aB9,oO,bJ];rfl
 ·refine pH (fg:=gnm 0) (f:=D.int) (g:=D.int) (t:=λ x=>!decide (x∈m)) l λ x _=>⟨[.sh (.int x),.sh (.lst (m.map .int))],rfl,?_,by simp⟩
  have a2:aD 1 [.sh (.int x),.sh (.lst (m.map .int))]= .ok (.lst (m.map .int)):=rfl;have a3:aD 0 [.sh (.int x),.sh (.lst (m.map .int))]= .ok (.int x):=rfl;rw[zY,nG,a3,bJ,a2,bJ,vL,oO,bJ];rfl
theorem aES{left r:List Int}(hr:r.Nodup)(hs:∀x∈r,x∈left):(left.filter λ x=>!decide (x∈r)).length+r.length<=left.length:=by
 have h1:r.length<=(left.filter λ x=>decide (x∈r)).length:=sub_len hr λ x hx=>List.mem_filter.mpr ⟨hs x hx,decide_eq_true hx⟩
 have h2:(left.filter λ x=>decide (x∈r)).length+(left.filter λ x=>!decide (x∈r)).length=left.length:=by
  clear h1 hs hr;induction left with
  |nil=>rfl
  |cons a l ih=>
   by_cases h:a∈r
   ·rw[List.filter_cons_of_pos (by simpa using h),List.filter_cons_of_neg (by simpa using h),List.length_cons,List.length_cons];lia
   ·rw[List.filter_cons_of_neg (by simpa using h),List.filter_cons_of_pos (by simpa using h),List.length_cons,List.length_cons];lia
 lia
def n6:D->Nat
 | .tup l=>l.length
 |_=>0
theorem wW(d:D)(h:jO n es d=true):tupI (rowOf d)=d:=by
 cases d with
 |tup ts=>exact aHt h
 |_=>cases h
theorem aAd:∀rs:List D,((rs.map rowOf).flatten).length<=(rs.map n6).sum
 |[]=>Nat.le_refl _
 |r::rs=>by
  have:=aAd rs
  have e:(rowOf r).length<=n6 r:=by cases r<;>simp[rowOf,n6]
  simp only[List.map_cons,List.flatten_cons,List.length_append,List.sum_cons];lia
def ju(n:Int)(es:List (Int×Int)):D->Bool
 | .tup rs=>rs.all (jO n es)&&aBS n ((rs.map rowOf).flatten)
 |_=>false
structure Fi(d:D):Prop where
 p:pln d=true
 r:∀l,d= .tup l->∀e∈l,Fn4 e
 z:∀l,d= .tup l->(l.map n6).sum<64/\l.length<4000
def ptL:En->Ou:=ifS (fB (tst (aM cC (aA (aD 2) (aA (aD 3) aF))))) (retS (cD (.bl false))) Ou.nx
theorem w5:gB=aU (oY (aM gw (aA (aD 0) aF))) (aU (ifS (fB (tst (op1 (fK "tuple") (aD 1)))) (retS (cD (.bl false))) Ou.nx) (aU (cU 2 (aM jF (aA (aD 0) aF))) (aU (dj (bW (aD 1)) (gnm 3) ptL) (retS (aM gr (aA (op2 ixD (aD 0) (cD (.int 0))) (aA (aD 1) aF))))))):=rfl
theorem aAi(h:Ow n ps)(low:∀p∈ps,p.1<p.2):gw [owD n ps]= .ok .non:=by
 have st:bF 1 [owD n ps]=[.sh (owD n ps)]:=rfl;simp only[gw,gm,bK,st];simp[aEZ h low]
theorem ph(h:Ow n ps)(low:∀p∈ps,p.1<p.2)(F:Fi d):bQ [owD n ps,d]= .ok (.bl (ju n (dbl ps) d)):=by
 obtain⟨ll,e,N⟩:=aBp h;have st:bF 4 [owD n ps,d]=[.sh (owD n ps),.sh d,.no,.no]:=rfl;have c0:oY (aM gw (aA (aD 0) aF)) [.sh (owD n ps),.sh d,.no,.no]= .nx [.sh (owD n ps),.sh d,.no,.no]:=by simp[aAi h low]
 simp only[bQ,w5,bK,st];rw[aN,c0,bG,aN];cases ht:kI d with
 |false=>
  have e:ju n (dbl ps) d=false:=by cases d<;>first|rfl|(cases ht)
  simp[iW (jG F.p),ht,e]
 |true=>
  obtain⟨rs,rfl⟩:=rA ht;have c1:ifS (fB (tst (op1 (fK "tuple") (aD 1)))) (retS (cD (.bl false))) Ou.nx [.sh (owD n ps),.sh (.tup rs),.no,.no]= .nx [.sh (owD n ps),.sh (.tup rs),.no,.no]:=by simp
  have c2:cU 2 (aM jF (aA (aD 0) aF)) [.sh (owD n ps),.sh (.tup rs),.no,.no]= .nx [.sh (owD n ps),.sh (.tup rs),.sh (.lst (ll.map .lst)),.no]:=by simp[e]
  rw[c1,bG,aN,c2,bG,aN,fj];have hi:bW (aD 1) [.sh (owD n ps),.sh (.tup rs),.sh (.lst (ll.map .lst)),.no]= .ok rs:=by simp
  rw[hi,dF];rcases aBa (a:=gnm 3) (u:=ptL) (r:=.bl false) (P:=jO n (dbl ps)) (I:=λ ρ=>∃s,ρ=[.sh (owD n ps),.sh (.tup rs),.sh (.lst (ll.map .lst)),s]) rs [.sh (owD n ps),.sh (.tup rs),.sh (.lst (ll.map .lst)),.no] ⟨_,rfl⟩ (by
    rintro x hx ρ ⟨s,rfl⟩;have f:=F.r rs rfl x hx;have g:=yP h.n0 N f.p f.s;rw[t7,oN];cases c:jO n (dbl ps) x with
    |true=>rw[c]at g;exact .inl ⟨rfl,_,by simp[ptL,g];rfl,_,rfl⟩
    |false=>rw[c]at g;exact .inr ⟨rfl,by simp[ptL,g]⟩)with ⟨hall,ρ',e2,s,rfl⟩|⟨hall,e2⟩
  ·rw[e2,bG]
   have er:=vp wW hall;have ho:=aAf (n:=n) (rws:=rs.map rowOf) h.n0 h.n1 (Nat.lt_of_le_of_lt (aAd rs) (F.z rs rfl).1);rw[er]at ho;have hv:aM gr (aA (op2 ixD (aD 0) (cD (.int 0))) (aA (aD 1) aF)) [.sh (owD n ps),.sh (.tup rs),.sh (.lst (ll.map .lst)),s]= .ok (.bl (aBS n ((rs.map rowOf).flatten))):=by
    rw[kY,<-ho];simp[owD]
   rw[gM,hv,dF];simp only[ju,hall,Bool.true_and]
  ·rw[e2]
   simp[ju,hall]
theorem iy(h:Ow n ps)(low:∀p∈ps,p.1<p.2)(F:Fi d):bZ [owD n ps,d]=if ju n (dbl ps) d=true then .ok .non else .ex "NoParting":=by
 have st:bF 2 [owD n ps,d]=[.sh (owD n ps),.sh d]:=rfl;simp only[bZ,dB,bK,st];cases c:ju n (dbl ps) d<;>simp[ph h low F,c]
def aAZ(ws:List Int):List Int:=if HT.lexLt ws.reverse ws=true then ws.reverse else ws
theorem aKQ{ws:List Int}(h:ws≠[]):aAZ ws≠[]:=by
 unfold aAZ;split
 ·simpa using h
 ·exact h
def iH(ws:List Int):List (List Int):=(ws.zip (ws.drop 1)).map λ p=>[mn p.1 p.2,mx p.1 p.2]
theorem vX(ws:List Int):(iH ws).length<=ws.length:=by
 unfold iH;rw[List.length_map,List.length_zip];lia
theorem aKR(h:jO n es (.tup ts)=true):ts≠[]:=by
 intro e;subst e;simp[jO]at h
theorem aED(h:ju n es d=true):∃rws:List (List Int),d= .tup (rws.map tupI)/\(∀r∈rws,r≠[]):=by
 cases d with
 |tup rs=>
  simp only[ju,Bool.and_eq_true]at h;refine⟨rs.map rowOf,by rw[vp wW h.1],λ r hr=>?_⟩;obtain⟨x,hx,rfl⟩:=List.mem_map.mp hr;have hl:=List.all_eq_true.mp h.1 x hx;cases x with
  |tup ts=>simpa[rowOf]using aKR hl
  |_=>cases hl
 |_=>cases h
theorem nq(rws:List (List Int)):((rws.map tupI).map n6).sum=rws.flatten.length:=by
 induction rws with
 |nil=>rfl
 |cons r rws ih=>simp only[List.map_cons,List.sum_cons,List.flatten_cons,List.length_append,ih];simp[tupI,n6]
def lQ(rws:List (List Int)):D:=.tup ((pU (rws.map aAZ)).map tupI)
def nT(rws:List (List Int)):D:=.tup ((pU (rws.flatMap iH)).map tupI)
theorem aBR{ρ:En}{fi:En->Rs (List D)}{fe:En->Rs D}(rws:List (List Int))(hf:fi (shE ρ)= .ok (rws.map tupI))(he:∀ws:List Int,fe [.sh (tupI ws)]= .ok (tupI (aAZ ws)))(hn:∀r∈rws,r≠[])(hl:rws.length<64):
  opA dO (aA (opA gJ (aA (lcD fi [none] (gnm 0) cz fe) aF)) aF) ρ= .ok (lQ rws):=by
 have e1:lcD fi [none] (gnm 0) cz fe ρ= .ok (.lst ((rws.map aAZ).map tupI)):=tV hf (by rw[List.length_map];lia) (by
  rw[List.map_map];exact aGB rws λ x hx=>⟨[.sh (tupI x)],rfl,he x⟩)
 have e2:=yg (f:=rws.map aAZ) (λ r hr=>by obtain⟨x,hx,rfl⟩:=List.mem_map.mp hr;exact aKQ (hn x hx)) (by simpa using hl);rw[jX,dY,jX,dY,e1];simp[e2,lQ,-List.map_map]
theorem aF9(h:Ow n ps)(low:∀p∈ps,p.1<p.2){rws:List (List Int)}(F:Fi (.tup (rws.map tupI)))(hp:ju n (dbl ps) (.tup (rws.map tupI))=true)(hn:∀r∈rws,r≠[]):cj [owD n ps,.tup (rws.map tupI)]= .ok (lQ rws):=by
 have st:bF 2 [owD n ps,.tup (rws.map tupI)]=[.sh (owD n ps),.sh (.tup (rws.map tupI))]:=rfl;have hc:=iy h low F;rw[hp,if_pos rfl]at hc;have hz:=(F.z _ rfl).1;rw[nq]at hz;have hl:=Nat.lt_of_le_of_lt (mD hn) hz;have e:=aBR (ρ:=[.sh (owD n ps),.sh (.tup (rws.map tupI))]) (fi:=bW (aD 1)) (fe:=aM dg (aA (aD 0) aF)) rws (by simp[shE,qN]) (λ ws=>by
  have:=aEQ ws
  simp[this,aAZ]) hn hl
 have df:nO=aU (oY (aM bZ (aA (aD 0) (aA (aD 1) aF)))) (retS (opA dO (aA (opA gJ (aA (lcD (bW (aD 1)) [none] (gnm 0) cz (aM dg (aA (aD 0) aF))) aF)) aF))):=rfl;have c0:oY (aM bZ (aA (aD 0) (aA (aD 1) aF))) [.sh (owD n ps),.sh (.tup (rws.map tupI))]= .nx [.sh (owD n ps),.sh (.tup (rws.map tupI))]:=by simp[hc]
 simp only[cj,df,bK,st];rw[aN,c0,bG,gM,e,dF]
theorem aEh{s:Slot}{r:List Slot}{ws:List Int}(hw:ws≠[]){i:Nat}{ρ:En}(hv:aD i ρ= .ok (tupI ws)):eZ qL (aA (aD i) (aA (bM (aD i) (cA (cD (.int 1))) cB) aF)) ρ= .ok ((ws.zip (ws.drop 1)).map pD):=by
 have hc:cutD (ws.map .int) (some 1) none=(ws.drop 1).map .int:=by
  have:=zO (l:=ws.map D.int) (k:=1) (by
   have:=List.length_pos_iff.mpr hw
   rw[List.length_map];lia)
  rw[List.map_drop];exact this
 have hz:xq (ws.map .int) ((ws.drop 1).map .int)=(ws.zip (ws.drop 1)).map pD:=by
  unfold xq;rw[List.zip_map,List.map_map];rfl
 have e:eZ qL (aA (aD i) (aA (bM (aD i) (cA (cD (.int 1))) cB) aF)) ρ=qL [.tup (ws.map .int),.tup (cutD (ws.map .int) (some 1) none)]:=by
  rw[aHS,dY,hv,bJ,dY,aDv,hv];simp[tupI]
 rw[e,hc];show Rs.ok (xq (ws.map .int) ((ws.drop 1).map .int))=_;rw[hz]
theorem aDt(a b:Int):iQ [.int a,.int b]= .ok (.tup [.int (mn a b),.int (mx a b)]):=by
 have st:bF 2 [.int a,.int b]=[.sh (.int a),.sh (.int b)]:=rfl;simp only[iQ,mK,bK,st];simp[mn,mx]
theorem yf(rws:List (List Int))(hz:rws.flatten.length<64):gJ [.lst ((rws.flatMap iH).map tupI)]= .ok (.lst ((pU (rws.flatMap iH)).map tupI)):=by
 refine yg (λ r hr=>?_) (Nat.lt_of_le_of_lt ?_ hz)
 ·obtain⟨ws,_,h2⟩:=List.mem_flatMap.mp hr
  obtain⟨p,_,rfl⟩:=List.mem_map.mp h2;simp
 ·clear hz
  induction rws with
  |nil=>simp
  |cons r rws ih=>
   have:=vX r
   simp only[List.flatMap_cons,List.length_append,List.flatten_cons];lia
theorem aDJ{ws:List Int}{ρ:En}{fg:D->En->Rs En}{fe:En->Rs D}(hg:∀p:Int×Int,∃ρ1,fg (pD p) ρ= .ok ρ1/\fe ρ1= .ok (.tup [.int (mn p.1 p.2),.int (mx p.1 p.2)])):lcL ρ fg cz fe ((ws.zip (ws.drop 1)).map pD)= .ok ((iH ws).map tupI):=by
 unfold iH;rw[List.map_map];exact aGB _ λ p hp=>hg p
theorem xx(h:Ow n ps)(low:∀p∈ps,p.1<p.2){rws:List (List Int)}(F:Fi (.tup (rws.map tupI)))(hp:ju n (dbl ps) (.tup (rws.map tupI))=true)(hn:∀r∈rws,r≠[]):bC [owD n ps,.tup (rws.map tupI)]= .ok (nT rws):=by
 have st:bF 2 [owD n ps,.tup (rws.map tupI)]=[.sh (owD n ps),.sh (.tup (rws.map tupI))]:=rfl;have hc:=iy h low F;rw[hp,if_pos rfl]at hc;have hz:=(F.z _ rfl).1;rw[nq]at hz;have hl:=Nat.lt_of_le_of_lt (mD hn) hz;have hns:∀rws:List (List Int),(∀r∈rws,r≠[])->nsL [.no,.no,.no] (gnm 0) cz (inL (eZ qL (aA (aD 0) (aA (bM (aD 0) (cA (cD (.int 1))) cB) aF))) (fD 2 (aj (gnm 1) (aj (gnm 2) fM))) cz (aM iQ (aA (aD 1) (aA (aD 2) aF)))) (rws.map tupI)= .ok ((rws.flatMap iH).map tupI):=by
  intro rws;induction rws with
  |nil=>intro _;rfl
  |cons r rws ih=>
   intro hn;have hr:=hn r List.mem_cons_self;have e1:=aEh (s:=.no) (r:=[]) hr (i:=0) (ρ:=[.sh (tupI r),.no,.no]) rfl;have e2:=aDJ (ws:=r) (ρ:=[.sh (tupI r),.no,.no]) (fg:=fD 2 (aj (gnm 1) (aj (gnm 2) fM))) (fe:=aM iQ (aA (aD 1) (aA (aD 2) aF))) λ p=>⟨[.sh (tupI r),.sh (.int p.1),.sh (.int p.2)],by simp[pD],by simp[aDt]⟩
   have e3:inL (eZ qL (aA (aD 0) (aA (bM (aD 0) (cA (cD (.int 1))) cB) aF))) (fD 2 (aj (gnm 1) (aj (gnm 2) fM))) cz (aM iQ (aA (aD 1) (aA (aD 2) aF))) [.sh (tupI r),.no,.no]= .ok ((iH r).map tupI):=by
    unfold inL;rw[if_pos (show[Slot.sh (tupI r),.no,.no].all shB=true from rfl),e1,bJ,e2]
   rw[List.map_cons,nsL];have g:gnm 0 (tupI r) [.no,.no,.no]= .ok [.sh (tupI r),.no,.no]:=rfl;rw[g,bJ,aDG,bJ,if_pos rfl,e3,bJ,ih λ x hx=>hn x (List.mem_cons_of_mem _ hx),bJ,List.flatMap_cons,List.map_append]
 have e0:aA1 (bW (aD 1)) [none,none,none] (gnm 0) cz (inL (eZ qL (aA (aD 0) (aA (bM (aD 0) (cA (cD (.int 1))) cB) aF))) (fD 2 (aj (gnm 1) (aj (gnm 2) fM))) cz (aM iQ (aA (aD 1) (aA (aD 2) aF)))) [.sh (owD n ps),.sh (.tup (rws.map tupI))]= .ok (.lst ((rws.flatMap iH).map tupI)):=by
  have hi:bW (aD 1) (shE [.sh (owD n ps),.sh (.tup (rws.map tupI))])= .ok (rws.map tupI):=by simp[shE,qN]
  have hs:stE [none,none,none] (shE [.sh (owD n ps),.sh (.tup (rws.map tupI))])=[.no,.no,.no]:=rfl;have hb:((rws.flatMap iH).map tupI).length<16777216:=by
   rw[List.length_map];clear hp hc hi hs F hns
   have:(rws.flatMap iH).length<=rws.flatten.length:=by
    clear hz hl hn st;induction rws with
    |nil=>simp
    |cons r rws ih=>
     have:=vX r
     simp only[List.flatMap_cons,List.length_append,List.flatten_cons];lia
   lia
  unfold aA1;rw[hi,bJ,hs,hns rws hn];dsimp only;rw[if_pos (by rw[szl];exact hb)]
 have df:eF=aU (oY (aM bZ (aA (aD 0) (aA (aD 1) aF)))) (retS (opA dO (aA (opA gJ (aA (aA1 (bW (aD 1)) [none,none,none] (gnm 0) cz (inL (eZ qL (aA (aD 0) (aA (bM (aD 0) (cA (cD (.int 1))) cB) aF))) (fD 2 (aj (gnm 1) (aj (gnm 2) fM))) cz (aM iQ (aA (aD 1) (aA (aD 2) aF))))) aF)) aF))):=rfl;have c0:oY (aM bZ (aA (aD 0) (aA (aD 1) aF))) [.sh (owD n ps),.sh (.tup (rws.map tupI))]= .nx [.sh (owD n ps),.sh (.tup (rws.map tupI))]:=by simp[hc]
 simp only[bC,df,bK,st];rw[aN,c0,bG,gM,jX,dY,jX,dY,e0];simp[yf rws hz,nT]
def lpA:En->Rs D:=lcD (bW (aD 1)) [none,some 0] (gnm 0) cz (aM lC (aA (aD 1) (aA (aD 0) aF)))
def lpI:En->Ou:=ifS (orT (fB (tst (op1 (fK "tuple") (aD 1)))) (fB (tst (opA (uy λ bs=>bs.all id) (aA lpA aF))))) (retS (cD (.bl false))) Ou.nx
def lpE:En->Ou:=aIS 2 (aq (aD 3))
theorem ql:cV=aU lpI (aU (lE 2 (dJ aF)) (aU (dj (bW (aD 1)) (gnm 3) lpE) (retS (op2 (eqR false) (opA gJ (aA (vU 2) aF)) (lrD (op2 ixD (aD 0) (cD (.int 0)))))))):=rfl
theorem aD8{w t:Slot}:∀(rws:List (List Int)) (acc:List Int) (s:Slot),acc.length+rws.flatten.length<10000->
  ∃s',forL (gnm 3) lpE (rws.map tupI) [w,t,.ow (.lst (acc.map .int)),s]= .nx [w,t,.ow (.lst ((acc++rws.flatten).map .int)),s']
 |[],acc,s,_=>⟨s,by simp⟩
 |r::rws,acc,s,h=>by
  rw[List.flatten_cons,List.length_append]at h;obtain⟨s',e⟩:=aD8 (w:=w) (t:=t) rws (acc++r) (.sh (tupI r)) (by rw[List.length_append];lia);refine⟨s',?_⟩;have gi:rY (tupI r)= .ok (tupI r):=(El.tup (k:=0) El.ints).g;have b:lpE [w,t,.ow (.lst (acc.map .int)),.sh (tupI r)]= .nx [w,t,.ow (.lst ((acc++r).map .int)),.sh (tupI r)]:=by
   have hv:aq (aD 3) [w,t,.ow (.lst (acc.map .int)),.sh (tupI r)]= .ok (tupI r):=by simp[gi]
   show((aq (aD 3) [w,t,.ow (.lst (acc.map .int)),.sh (tupI r)]).bo (aG5 (acc.map .int) λ l=>.nx [w,t,.ow (.lst l),.sh (tupI r)]))=_
   rw[hv,dF];show aG5 (acc.map .int) _ (.tup (r.map .int))=_;unfold aG5;dsimp only;rw[if_pos (by rw[szl,List.length_map,List.length_map];lia),List.map_append]
  rw[List.map_cons,fu,t7,oN]
  show(lpE [w,t,.ow (.lst (acc.map .int)),.sh (tupI r)]).tn _=_
  rw[b,vW,e,List.flatten_cons,List.append_assoc]
theorem rQ(h:Ow n ps)(low:∀p∈ps,p.1<p.2)(F:Fi d):dh [owD n ps,d]= .ok (.bl (ju n (dbl ps) d)):=by
 have st:bF 4 [owD n ps,d]=[.sh (owD n ps),.sh d,.no,.no]:=rfl;simp only[dh,ql,bK,st];rw[aN];cases ht:kI d with
 |false=>
  have e:ju n (dbl ps) d=false:=by cases d<;>first|rfl|(cases ht)
  have c:lpI [.sh (owD n ps),.sh d,.no,.no]= .rt (.bl false):=by simp[lpI,iW (jG F.p),ht]
  rw[c,e];rfl
 |true=>
  obtain⟨rs,rfl⟩:=rA ht;have ea:lpA [.sh (owD n ps),.sh (.tup rs),.no,.no]= .ok (.lst (rs.map λ r=>.bl (jO n (dbl ps) r))):=by
   refine tV (ds:=rs) (by simp[shE,qN]) (by have:=(F.z rs rfl).2;lia) (aA0 rs λ r hr=>⟨[.sh r,.sh (owD n ps)],rfl,?_⟩);have f:=F.r rs rfl r hr
   have:=aB3 h low f.p f.s f.e f.n
   simp[this]
  have eb:=aKm ea;have c:lpI [.sh (owD n ps),.sh (.tup rs),.no,.no]=if rs.all (jO n (dbl ps))=true then .nx [.sh (owD n ps),.sh (.tup rs),.no,.no]else .rt (.bl false):=by
   unfold lpI;rw[aAc,aJs,aAR,aCB,aAR,aCB,eb];cases rs.all (jO n (dbl ps))<;>simp
  rw[c];cases hall:rs.all (jO n (dbl ps))with
  |false=>
   simp[ju,hall]
  |true=>
   rw[if_pos rfl,bG,aN];have c1:lE 2 (dJ aF) [.sh (owD n ps),.sh (.tup rs),.no,.no]= .nx [.sh (owD n ps),.sh (.tup rs),.ow (.lst []),.no]:=by simp
   have er:=vp wW hall;have hz:=Nat.lt_of_le_of_lt (aAd rs) (F.z rs rfl).1;obtain⟨s',e⟩:=aD8 (w:=.sh (owD n ps)) (t:=.sh (.tup rs)) (rs.map rowOf) [] .no (by simp only[List.length_nil];lia);rw[er,List.nil_append]at e;have hi:bW (aD 1) [.sh (owD n ps),.sh (.tup rs),.ow (.lst []),.no]= .ok rs:=by simp
   rw[c1,bG,aN,fj,hi,dF];have e':forL (gnm 3) lpE rs [.sh (owD n ps),.sh (.tup rs),.ow (.lst []),.no]= .nx [.sh (owD n ps),.sh (.tup rs),.ow (.lst ((rs.map rowOf).flatten.map .int)),s']:=e;rw[e',bG];have hs:=yh (l:=(rs.map rowOf).flatten) hz;have hlr:=aGA (f:=op2 ixD (aD 0) (cD (.int 0))) (ρ:=[.sh (owD n ps),.sh (.tup rs),.ow (.lst ((rs.map rowOf).flatten.map .int)),s']) (n:=n) (by simp[owD]) h.n0 h.n1;have hv:opA gJ (aA (vU 2) aF) [.sh (owD n ps),.sh (.tup rs),.ow (.lst ((rs.map rowOf).flatten.map .int)),s']= .ok (.lst ((sortI (rs.map rowOf).flatten).map .int)):=by
    have hd:vU 2 [.sh (owD n ps),.sh (.tup rs),.ow (.lst ((rs.map rowOf).flatten.map .int)),s']= .ok (.lst ((rs.map rowOf).flatten.map .int)):=rfl;rw[jX,dY,hd,bJ,vJ,bJ,bJ,hs,oO]
   rw[gM,nG,hv,bJ,hlr,bJ,aD2,oO,dF];simp only[ju,hall,Bool.true_and]
theorem aFu(ws:List Int):lG [tupI ws,.tup (ws.map .int).reverse]= .ok (tupI (aAZ ws)):=by
 show lG [.tup (ws.map .int),.tup (ws.map .int).reverse]=_;unfold lG aAZ;rw[<-List.map_reverse];simp only[fQ];split
 ·rfl
 ·rfl
theorem aA2{rws:List (List Int)}(hn:∀r∈rws,r≠[])(hl:rws.length<64):jR [.tup (rws.map tupI)]= .ok (lQ rws):=by
 have st:bF 1 [.tup (rws.map tupI)]=[.sh (.tup (rws.map tupI))]:=rfl;have e:=aBR (ρ:=[.sh (.tup (rws.map tupI))]) (fi:=bW (aD 0)) (fe:=opA lG (aA (aD 0) (aA (op1 uq (aD 0)) aF))) rws (by simp[shE,qN]) (λ ws=>by
  have:=aFu ws
  have hr:uq (tupI ws)= .ok (.tup (ws.map .int).reverse):=rfl;simp[hr,this]) hn hl
 have df:gh=retS (opA dO (aA (opA gJ (aA (lcD (bW (aD 0)) [none] (gnm 0) cz (opA lG (aA (aD 0) (aA (op1 uq (aD 0)) aF)))) aF)) aF)):=rfl;simp only[jR,df,bK,st];rw[gM,e,dF]
def laL:En->Rs D:=lcD (eZ qL (aA (aD 2) (aA (bM (aD 2) (cA (cD (.int 1))) cB) aF))) [none,none] (fD 2 (aj (gnm 0) (aj (gnm 1) fM))) cz (bH (aA (opA (mmD λ i j=>if j<i then j else i) (aA (aD 0) (aA (aD 1) aF))) (aA (opA (mmD λ i j=>if j>i then j else i) (aA (aD 0) (aA (aD 1) aF))) aF)))
def laE:En->Ou:=aIT 1 laL
theorem yN:gj=aU (lE 1 (dJ aF)) (aU (dj (bW (aD 0)) (gnm 2) laE) (retS (opA dO (aA (opA gJ (aA (vU 1) aF)) aF)))):=rfl
theorem aKT{s0 s1:Slot}{ws:List Int}(hw:ws≠[])(hl:ws.length<10000)(hs1:qN s1=qN s1):laL [s0,s1,.sh (tupI ws)]= .ok (.lst ((iH ws).map tupI)):=by
 refine tV (aEh (s:=.no) (r:=[]) hw (i:=2) (ρ:=shE [s0,s1,.sh (tupI ws)]) rfl) ?_ (aDJ λ p=>⟨[.sh (.int p.1),.sh (.int p.2)],?_,?_⟩)
 ·rw[List.length_map,List.length_zip]
  lia
 ·show fD 2 (aj (gnm 0) (aj (gnm 1) fM)) (pD p) [.no,.no]=_
  simp[pD]
 ·simp[mn,mx]
theorem aDa{w:Slot}:∀(rws:List (List Int)) (acc:List (List Int)) (s:Slot),(∀r∈rws,r≠[])->acc.length+rws.flatten.length<10000->
  ∃s',forL (gnm 2) laE (rws.map tupI) [w,.ow (.lst (acc.map tupI)),s]= .nx [w,.ow (.lst ((acc++rws.flatMap iH).map tupI)),s']
 |[],acc,s,_,_=>⟨s,by simp⟩
 |r::rws,acc,s,hn,h=>by
  rw[List.flatten_cons,List.length_append]at h;have hr:=vX r;obtain⟨s',e⟩:=aDa (w:=w) rws (acc++iH r) (.sh (tupI r)) (λ x hx=>hn x (List.mem_cons_of_mem _ hx)) (by rw[List.length_append];lia);refine⟨s',?_⟩;have b:laE [w,.ow (.lst (acc.map tupI)),.sh (tupI r)]= .nx [w,.ow (.lst ((acc++iH r).map tupI)),.sh (tupI r)]:=by
   have hv:=aKT (s0:=w) (s1:=.ow (.lst (acc.map tupI))) (hn r List.mem_cons_self) (by lia) rfl
   show((laL [w,.ow (.lst (acc.map tupI)),.sh (tupI r)]).bo (aIU (acc.map tupI) λ l=>.nx [w,.ow (.lst l),.sh (tupI r)]))=_
   rw[hv,dF];unfold aIU;dsimp only;rw[if_pos (by rw[szl,List.length_map,List.length_map];lia),List.map_append]
  rw[List.map_cons,fu,t7,oN]
  show(laE [w,.ow (.lst (acc.map tupI)),.sh (tupI r)]).tn _=_
  rw[b,vW,e,List.flatMap_cons,List.append_assoc]
theorem aA5{rws:List (List Int)}(hn:∀r∈rws,r≠[])(hz:rws.flatten.length<64):jT [.tup (rws.map tupI)]= .ok (nT rws):=by
 have st:bF 3 [.tup (rws.map tupI)]=[.sh (.tup (rws.map tupI)),.no,.no]:=rfl;obtain⟨s',e⟩:=aDa (w:=.sh (.tup (rws.map tupI))) rws [] .no hn (by simp only[List.length_nil];lia);rw[List.nil_append]at e;have c1:lE 1 (dJ aF) [.sh (.tup (rws.map tupI)),.no,.no]= .nx [.sh (.tup (rws.map tupI)),.ow (.lst []),.no]:=by simp
 have hi:bW (aD 0) [.sh (.tup (rws.map tupI)),.ow (.lst []),.no]= .ok (rws.map tupI):=by simp
 have e':forL (gnm 2) laE (rws.map tupI) [.sh (.tup (rws.map tupI)),.ow (.lst []),.no]= .nx [.sh (.tup (rws.map tupI)),.ow (.lst ((rws.flatMap iH).map tupI)),s']:=e;simp only[jT,yN,bK,st];rw[aN,c1,bG,aN,fj,hi,dF,e',bG];have hd:vU 1 [.sh (.tup (rws.map tupI)),.ow (.lst ((rws.flatMap iH).map tupI)),s']= .ok (.lst ((rws.flatMap iH).map tupI)):=rfl;rw[gM,jX,dY,jX,dY,hd];simp[yf rws hz,nT]
def upI(n:Int):List Int:=(List.range n.toNat).map λ(k:Nat)=>(k:Int)
theorem aJ2(n:Int):di 0 n=(upI n).map .int:=by
 unfold di upI;rw[List.map_map,show(n-0).toNat=n.toNat by lia];exact List.map_congr_left λ k _=>by simp
theorem aEp(n:Int):(upI n).Nodup:=by
 unfold upI;rw[List.nodup_iff_pairwise_ne,List.pairwise_map];exact List.nodup_range.imp λ h e=>h (by lia)
theorem aKM{x n:Int}:x∈upI n↔0<=x/\x<n:=by
 unfold upI;rw[List.mem_map];constructor
 ·rintro⟨k,hk,rfl⟩
  have:=List.mem_range.mp hk
  lia
 ·rintro⟨h0,h1⟩
  exact⟨x.toNat,List.mem_range.mpr (by lia),by lia⟩
theorem aBy(n:Int):(upI n).length=n.toNat:=by unfold upI;simp
theorem xf{es:List (Int×Int)}{v:Int}:∀{ws:List Int} (h:ws≠[]),fG es ws=true->(ws.getLast h,v)∈es->fG es (ws++[v])=true
 |[a],_,_,h2=>by simpa[fG]using h2
 |a::b::r,_,h1,h2=>by
  simp only[fG,Bool.and_eq_true,decide_eq_true_eq]at h1
  have:=xf (ws:=b::r) (by simp) h1.2 (by simpa using h2)
  rw[List.cons_append,List.cons_append,fG,Bool.and_eq_true,decide_eq_true_eq];exact⟨h1.1,by simpa using this⟩
theorem aC1{left ws:List Int}(h1:left.Nodup)(h2:ws.Nodup)(h3:∀w∈ws,w∈left):(ws++left.filter λ x=>!decide (x∈ws)).Perm left:=by
 rw[List.perm_ext_iff_of_nodup]
 ·intro a
  rw[List.mem_append,List.mem_filter];constructor
  ·rintro(h|h)
   ·exact h3 a h
   ·exact h.1
  ·intro h
   by_cases hw:a∈ws
   ·exact .inl hw
   ·exact .inr ⟨h,by simp[hw]⟩
 ·rw[List.nodup_append]
  refine⟨h2,h1.filter _,λ a ha b hb e=>?_⟩;subst e
  have:=(List.mem_filter.mp hb).2
  simp[ha]at this
 ·exact h1
def pdC:En->Rs D:=lcD (bW (op2 ixD (aD 3) (op2 ixD (aD 6) (op1 aBY (cD (.int 1)))))) [none,some 4,some 6] (gnm 0) (aI5 (tsb (op2 (inR false) (aD 0) (aD 1))) (tsb (op2 (inR true) (aD 0) (aD 2)))) (aq (aD 0))
def pdB:En->Ou:=aU (qP 9 pdC) (ifS (tsb (op2 (eqR true) (iB 9) (dJ aF))) (cU 6 (op2 au (aD 6) (bH (aA (op2 ixD (iB 9) (aM aX (aA (aD 0) (aA (op2 au (op2 au (aD 1) (cD (.int 140))) (aD 8)) (aA (opA cO (aA (iB 9) aF)) aF))))) aF)))) Ou.nx)
def pdL:En->Rs D:=lcD (bW (aD 4)) [none,some 6] (gnm 0) (tsb (op2 (inR true) (aD 0) (aD 1))) (aq (aD 0))
def pdW:En->Ou:=aU (cU 6 (bH (aA (op2 ixD (iB 4) (aM aX (aA (aD 0) (aA (op2 au (aD 1) (opA cO (aA (iB 4) aF))) (aA (opA cO (aA (iB 4) aF)) aF))))) aF)))
   (aU (cU 7 (aM aX (aA (aD 0) (aA (op2 au (op2 au (aD 1) (cD (.int 70))) (opA cO (aA (iB 4) aF))) (aA (op2 au (op2 ixD (aD 2) (cD (.int 0))) (cD (.int 1))) aF)))))
   (aU (dj (eZ nA (aA (aD 7) aF)) (gnm 8) pdB) (aU (qP 4 pdL) (yV 5 (aq (aD 6))))))
def pdT:En->Rs Bool:=tsb (op2 (eqR true) (iB 4) (dJ aF))
theorem wX:gA=aU (qP 4 (lrD (op2 ixD (aD 2) (cD (.int 0))))) (aU (lE 5 (dJ aF)) (aU (zX pdT pdW) (retS (opA dO (aA (j9 5) aF))))):=rfl
abbrev pE(c a n:Int)(w:D)(ll:List (List D))(left:List Int)(rws:List (List Int))(s6 s7 s8 s9:Slot):En:=[.sh (.int c),.sh (.int a),.sh (.tup [.int n,w]),.sh (.lst (ll.map .lst)),.nw (.lst (left.map .int)),.ow (.lst (rws.map tupI)),s6,s7,s8,s9]
theorem rz(l:List Int):eqR true (.lst (l.map .int)) (.lst [])= .ok (.bl (!l.isEmpty)):=by
 obtain⟨h1,h2⟩:=mH l;have e:eqD (.lst (l.map .int)) (.lst [])=l.isEmpty:=by cases l<;>simp[eqD,iR]
 unfold eqR;rw[if_pos (by simp[fP,aQ,ao,h1,h2]),e];rfl
structure Wy(n:Int)(es:List (Int×Int))(left ws:List Int):Prop where
 ne:ws≠[]
 nd:ws.Nodup
 sub:∀w∈ws,w∈left
 al:fG es ws=true
section
variable{c a n:Int}{w:D}{ll:List (List D)}{left ws:List Int}{rws:List (List Int)}{es:List (Int×Int)}{s6 s7 s8 s9:Slot}
theorem aJm(N:aDF n es ll)(hz:∀l∈ll,l.length<=7200)(hw:Wy n es left ws)(hin:∀x∈left,0<=x/\x<n):∃vs:List Int,pdC (pE c a n w ll left rws (.sh (tupI ws)) s7 s8 s9)= .ok (.lst (vs.map .int))/\(∀v∈vs,v∈left/\v∉ws/\(ws.getLast hw.ne,v)∈es)/\vs.length<10000:=by
 have hl:=aGl hw.ne;have hm:=hin _ (hw.sub _ (List.getLast_mem hw.ne));obtain⟨us,e1,e2⟩:=N.item _ hm.1 hm.2;have hu:us.length<10000:=by
  obtain⟨d,e,hd,_⟩:=lR (l:=ll.map .lst) (i:=ws.getLast hw.ne) hm.1 (by rw[List.length_map,N.len];lia);rw[e1]at e;cases e;obtain⟨l,hl,e3⟩:=List.mem_map.mp hd
  have:=hz l hl
  have e4:l=us.map .int:=by cases e3;rfl
  rw[e4,List.length_map]at this;lia
 refine⟨us.filter λ u=>decide (u∈left)&& !decide (u∈ws),tV (ds:=us.map .int) ?_ (by rw[List.length_map];lia) (pH us λ u hu=>⟨[.sh (.int u),.sh (.lst (left.map .int)),.sh (tupI ws)],rfl,?_,?_⟩),λ v hv=>?_,Nat.lt_of_le_of_lt (List.length_filter_le _ _) hu⟩
 ·simp[shE,qN,tupI,hl,e1]
 ·have h1:=vL false u left
  have h2:=aB9 true u ws;have h2':inR true (.int u) (tupI ws)= .ok (.bl (!decide (u∈ws))):=h2;simp only[aI4,zY,nG,aHB,List.getElem?_cons_zero,List.getElem?_cons_succ,bJ,h1,h2',oO,aKj];cases decide (u∈left)<;>rfl
 ·simp
 ·obtain⟨h1,h2⟩:=List.mem_filter.mp hv
  rw[Bool.and_eq_true,decide_eq_true_eq]at h2;exact⟨h2.1,by simpa using h2.2,(e2 v).mp h1⟩
theorem aJn{k:Int}(h0:0<=a)(h1:a<=100000)(hk0:0<=k)(hk1:k<=1000)(N:aDF n es ll)(hz:∀l∈ll,l.length<=7200)(hw:Wy n es left ws)(hin:∀x∈left,0<=x/\x<n)(hl:ws.length<1000):
  ∃ws' s9',pdB (pE c a n w ll left rws (.sh (tupI ws)) s7 (.sh (.int k)) s9)= .nx (pE c a n w ll left rws (.sh (tupI ws')) s7 (.sh (.int k)) s9')/\Wy n es left ws'/\ws'.length<=ws.length+1:=by
 obtain⟨vs,ev,hv,hvl⟩:=aJm (c:=c) (a:=a) (w:=w) (rws:=rws) (s7:=s7) (s8:=.sh (.int k)) (s9:=s9) N hz hw hin;have hs:qP 9 pdC (pE c a n w ll left rws (.sh (tupI ws)) s7 (.sh (.int k)) s9)= .nx (pE c a n w ll left rws (.sh (tupI ws)) s7 (.sh (.int k)) (.nw (.lst (vs.map .int)))):=by
  rw[vD,ev,dF];rfl
 have hq:=rz vs;cases hv0:vs.isEmpty with
 |true=>
  refine⟨ws,.nw (.lst (vs.map .int)),?_,hw,Nat.le_succ _⟩;rw[pdB,aN,hs,bG];simp[hq,hv0]
 |false=>
  have hvp:0<vs.length:=by
   cases vs with
   |nil=>cases hv0
   |cons _ _=>simp
  obtain⟨r,er,hr⟩:=jL (c:=c) (k:=a+140+k) (b:=(vs.length:Int)) (by lia) (by lia) (by lia) (by lia);obtain⟨d,ed,hd,_⟩:=lR (l:=vs.map .int) (i:=(r:Int)) (by lia) (by simpa using hr);obtain⟨v,hv1,rfl⟩:=List.mem_map.mp hd;obtain⟨v1,v2,v3⟩:=hv v hv1;have A:au (tupI ws) (.tup [.int v])= .ok (tupI (ws++[v])):=by
   have:=uz (l:=ws.map .int) (m:=[.int v]) (by simp;lia)
   rw[show tupI (ws++[v])= .tup (ws.map .int++[.int v])by simp[tupI]];exact this
  refine⟨ws++[v],.nw (.lst (vs.map .int)),?_,⟨by simp,?_,λ x hx=>?_,xf hw.ne hw.al v3⟩,by simp⟩
  ·rw[pdB,aN,hs,bG]
   simp[hq,hv0,er,ed,A,-mR]
  ·rw[List.nodup_append]
   exact⟨hw.nd,by simp,λ x hx y hy e=>by rw[List.mem_singleton.mp hy]at e;subst e;exact v2 hx⟩
  ·rcases List.mem_append.mp hx with z|z
   ·exact hw.sub x z
   ·rw[List.mem_singleton.mp z];exact v1
structure Pq(n:Int)(es:List (Int×Int))(left:List Int)(rws:List (List Int)):Prop where
 nd:left.Nodup
 ne:∀r∈rws,r≠[]
 al:∀r∈rws,fG es r=true
 pm:(rws.flatten++left).Perm (upI n)
theorem Pq.inn(P:Pq n es left rws):∀x∈left,0<=x/\x<n:=λ x hx=>aKM.mp (P.pm.mem_iff.mp (List.mem_append_right _ hx))
theorem Pq.step(P:Pq n es left rws)(hw:Wy n es left ws):Pq n es (left.filter λ x=>!decide (x∈ws)) (rws++[ws]) where
 nd:=P.nd.filter _
 ne:=λ r hr=>(List.mem_append.mp hr).elim (P.ne r) λ h=>by rw[List.mem_singleton.mp h];exact hw.ne
 al:=λ r hr=>(List.mem_append.mp hr).elim (P.al r) λ h=>by rw[List.mem_singleton.mp h];exact hw.al
 pm:=by
  rw[List.flatten_append];simp only[List.flatten_cons,List.flatten_nil,List.append_nil];rw[List.append_assoc];exact((aC1 P.nd hw.nd hw.sub).append_left _).trans P.pm
theorem aJl(h0:0<=a)(h1:a<=100000)(hn:n<=60)(N:aDF n es ll)(hz:∀l∈ll,l.length<=7200)(P:Pq n es left rws)(hne:left≠[]):
  ∃ws s7' s8' s9',pdW (pE c a n w ll left rws s6 s7 s8 s9)= .nx (pE c a n w ll (left.filter λ x=>!decide (x∈ws)) (rws++[ws]) (.sh (tupI ws)) s7' s8' s9')/\Wy n es left ws:=by
 have hp:0<left.length:=List.length_pos_iff.mpr hne;have hlen:left.length+rws.flatten.length<=n.toNat:=by
  have:=P.pm.length_eq
  rw[List.length_append,aBy]at this;lia
 obtain⟨r,er,hr⟩:=jL (c:=c) (k:=a+(left.length:Int)) (b:=(left.length:Int)) (by lia) (by lia) (by lia) (by lia);obtain⟨f,ef,hf⟩:=jL (c:=c) (k:=a+70+(left.length:Int)) (b:=n+1) (by lia) (by lia) (by lia) (by lia);obtain⟨d,ed,hd,_⟩:=lR (l:=left.map .int) (i:=(r:Int)) (by lia) (by simpa using hr);obtain⟨x,hx,rfl⟩:=List.mem_map.mp hd;have W0:Wy n es left [x]:=⟨by simp,by simp,λ y hy=>by rw[List.mem_singleton.mp hy];exact hx,rfl⟩;have s1:cU 6 (bH (aA (op2 ixD (iB 4) (aM aX (aA (aD 0) (aA (op2 au (aD 1) (opA cO (aA (iB 4) aF))) (aA (opA cO (aA (iB 4) aF)) aF))))) aF)) (pE c a n w ll left rws s6 s7 s8 s9)= .nx (pE c a n w ll left rws (.sh (tupI [x])) s7 s8 s9):=by
  simp[er,ed,tupI]
 have s2:cU 7 (aM aX (aA (aD 0) (aA (op2 au (op2 au (aD 1) (cD (.int 70))) (opA cO (aA (iB 4) aF))) (aA (op2 au (op2 ixD (aD 2) (cD (.int 0))) (cD (.int 1))) aF)))) (pE c a n w ll left rws (.sh (tupI [x])) s7 s8 s9)= .nx (pE c a n w ll left rws (.sh (tupI [x])) (.sh (.int f)) s8 s9):=by
  simp[ef]
 have hr1:=pA (j:=(f:Int)) (by lia) (by lia);obtain⟨ρ',e,ws,s8',s9',rfl,hw,hwl⟩:=wu (a:=gnm 8) (u:=pdB) (ds:=di 0 (f:Int))
  (λ k ρ=>∃(ws:List Int) (s8 s9:Slot),ρ=pE c a n w ll left rws (.sh (tupI ws)) (.sh (.int f)) s8 s9/\Wy n es left ws/\ws.length<=k+1)
  (by
   rintro i d ρ hd ⟨ws,s8,s9,rfl,hw,hl⟩;obtain⟨rfl,hlt⟩:=oK hd;obtain⟨ws',s9',e,hw',hl'⟩:=aJn (c:=c) (w:=w) (rws:=rws) (s7:=.sh (.int f)) (s9:=s9) (k:=0+(i:Int)) h0 h1 (by lia) (by lia) N hz hw P.inn (by lia);exact⟨_,e,ws',_,s9',rfl,hw',by lia⟩)
  (ρ:=pE c a n w ll left rws (.sh (tupI [x])) (.sh (.int f)) s8 s9) ⟨[x],s8,s9,rfl,W0,by simp⟩
 have s3:dj (eZ nA (aA (aD 7) aF)) (gnm 8) pdB (pE c a n w ll left rws (.sh (tupI [x])) (.sh (.int f)) s8 s9)= .nx (pE c a n w ll left rws (.sh (tupI ws)) (.sh (.int f)) s8' s9'):=by
  have hi:eZ nA (aA (aD 7) aF) (pE c a n w ll left rws (.sh (tupI [x])) (.sh (.int f)) s8 s9)= .ok (di 0 (f:Int)):=by simp[hr1]
  rw[fj,hi,dF,e]
 have s4:pdL (pE c a n w ll left rws (.sh (tupI ws)) (.sh (.int f)) s8' s9')= .ok (.lst ((left.filter λ x=>!decide (x∈ws)).map .int)):=aFo (i:=0) (j:=0) (f:=bW (aD 4)) (by simp[shE,qN]) (.inl rfl) (by lia);have gi:rY (tupI ws)= .ok (tupI ws):=(El.tup (k:=0) El.ints).g;have hrl:rws.length<16777216:=by have:=mD P.ne;lia
 refine⟨ws,.sh (.int f),s8',s9',?_,hw⟩;rw[pdW,aN,s1,bG,aN,s2,bG,aN,s3,bG,aN,vD,s4,dF,bG]
 show((aq (aD 6) (pE c a n w ll (left.filter λ x=>!decide (x∈ws)) rws (.sh (tupI ws)) (.sh (.int f)) s8' s9')).bo λ d=>if (rws.map tupI).length<sizeLine then .nx (List.set (pE c a n w ll (left.filter λ x=>!decide (x∈ws)) rws (.sh (tupI ws)) (.sh (.int f)) s8' s9') 5 (.ow (.lst (rws.map tupI++[d]))))else .st)=_
 have hv:aq (aD 6) (pE c a n w ll (left.filter λ x=>!decide (x∈ws)) rws (.sh (tupI ws)) (.sh (.int f)) s8' s9')= .ok (tupI ws):=by simp[gi]
 rw[hv,dF,if_pos (by rw[szl,List.length_map];exact hrl)];simp[List.map_append]
theorem yM(h0:0<=a)(h1:a<=100000)(hn0:0<=n)(hn:n<=60)(N:aDF n es ll)(hz:∀l∈ll,l.length<=7200):
  ∃rws:List (List Int),eG [.int c,.int a,.tup [.int n,w],.lst (ll.map .lst)]= .ok (.tup (rws.map tupI))/\Pq n es [] rws:=by
 have P0:Pq n es (upI n) []:=⟨aEp n,λ _ hr=>(nomatch hr),λ _ hr=>(nomatch hr),List.Perm.refl _⟩;obtain⟨ρ',m',e,⟨left,rws,s6,s7,s8,s9,rfl,P,hm⟩,ht⟩:=aEn (c:=pdT) (b:=pdW) (λ m ρ=>∃left rws s6 s7 s8 s9,ρ=pE c a n w ll left rws s6 s7 s8 s9/\Pq n es left rws/\m=left.length)
  (by
   rintro m ρ ⟨left,rws,s6,s7,s8,s9,rfl,P,rfl⟩;have hq:=rz left;by_cases hne:left=[]
   ·left;subst hne;have hq':eqR true (.lst []) (.lst [])= .ok (.bl false):=rz [];simp[pdT,hq']
   ·right
    have hi:left.isEmpty=false:=by cases left with
     |nil=>exact absurd rfl hne
     |cons _ _=>rfl
    obtain⟨ws,s7',s8',s9',e,hw⟩:=aJl (c:=c) (w:=w) (s6:=s6) (s7:=s7) (s8:=s8) (s9:=s9) h0 h1 hn N hz P hne;refine⟨by simp[pdT,hq,hi],_,_,e,?_,_,_,_,_,_,_,rfl,P.step hw,rfl⟩
    have:=aES hw.nd hw.sub
    have:=List.length_pos_iff.mpr hw.ne
    lia)
  (m:=(upI n).length) (ρ:=pE c a n w ll (upI n) [] .no .no .no .no) (by rw[aBy];lia) ⟨_,_,_,_,_,_,rfl,P0,rfl⟩
 have hle:left=[]:=by
  have hq:=rz left
  have:pdT (pE c a n w ll left rws s6 s7 s8 s9)= .ok (!left.isEmpty):=by simp[pdT,hq]
  rw[this]at ht;cases left with
  |nil=>rfl
  |cons _ _=>cases ht
 subst hle;refine⟨rws,?_,P⟩;have st:bF 10 [.int c,.int a,.tup [.int n,w],.lst (ll.map .lst)]=[.sh (.int c),.sh (.int a),.sh (.tup [.int n,w]),.sh (.lst (ll.map .lst)),.no,.no,.no,.no,.no,.no]:=rfl;have hlr:=aGA (f:=op2 ixD (aD 2) (cD (.int 0))) (ρ:=[.sh (.int c),.sh (.int a),.sh (.tup [.int n,w]),.sh (.lst (ll.map .lst)),.no,.no,.no,.no,.no,.no]) (n:=n) (by simp) hn0 hn;rw[aJ2]at hlr;have c0:qP 4 (lrD (op2 ixD (aD 2) (cD (.int 0)))) [.sh (.int c),.sh (.int a),.sh (.tup [.int n,w]),.sh (.lst (ll.map .lst)),.no,.no,.no,.no,.no,.no]= .nx [.sh (.int c),.sh (.int a),.sh (.tup [.int n,w]),.sh (.lst (ll.map .lst)),.nw (.lst ((upI n).map .int)),.no,.no,.no,.no,.no]:=by
  rw[vD,hlr,dF];rfl
 have c1:lE 5 (dJ aF) [.sh (.int c),.sh (.int a),.sh (.tup [.int n,w]),.sh (.lst (ll.map .lst)),.nw (.lst ((upI n).map .int)),.no,.no,.no,.no,.no]= .nx (pE c a n w ll (upI n) [] .no .no .no .no):=by simp
 simp only[eG,wX,bK,st];rw[aN,c0,bG,aN,c1,bG,aN,e,bG];simp
end
abbrev S1(l:List D):Nat:=(l.map n6).sum
theorem o6(l m:List D):S1 (l++m)=S1 l+S1 m:=by simp[S1]
theorem aDE(d:D):S1 [d]=n6 d:=by simp[S1]
theorem aKp(l:List D):S1 l.reverse=S1 l:=by
 induction l with
 |nil=>rfl
 |cons d l ih=>rw[List.reverse_cons,o6,ih,aDE];simp only[S1,List.map_cons,List.sum_cons];lia
theorem aGr{d:D}:∀{l:List D},d∈l->n6 d<=S1 l
 |z::zs,h=>by
  simp only[S1,List.map_cons,List.sum_cons];rcases List.mem_cons.mp h with rfl|h
  ·lia
  ·have:=aGr h
   simp only[S1]at this;lia
theorem aDo:∀x:List Int,S1 (x.map .int)=0
 |[]=>rfl
 |i::x=>by
  have:=aDo x
  simp only[S1,List.map_cons,List.sum_cons]at*;rw[this];rfl
theorem aDn:∀(l:List D) (k:Nat),S1 (l.take k)<=S1 l
 |[],k=>by simp
 |d::l,0=>Nat.zero_le _
 |d::l,k+1=>by
  have:=aDn l k
  simp only[S1,List.take_succ_cons,List.map_cons,List.sum_cons]at*;lia
theorem aDp:∀(l:List D) (k:Nat),S1 (l.drop k)<=S1 l
 |[],k=>by simp
 |d::l,0=>by simp
 |d::l,k+1=>by
  have:=aDp l k
  simp only[S1,List.drop_succ_cons,List.map_cons,List.sum_cons]at*;lia
theorem aKq(l:List D)(a b:Option Int):S1 (cutD l a b)<=S1 l:=Nat.le_trans (aDn _ _) (aDp _ _)
theorem zV(p:List Int->Bool):∀l:List (List Int),S1 ((l.filter p).map tupI)<=S1 (l.map tupI)
 |[]=>Nat.le_refl _
 |d::l=>by
  have:=zV p l
  rw[List.filter_cons];split<;>(simp only[S1,List.map_cons,List.sum_cons]at*;lia)
theorem Fi.tup{l:List D}(h:∀e∈l,Fn4 e)(hz:S1 l<64)(hl:l.length<4000):Fi (.tup l):=⟨by unfold pln;exact aAI λ d hd=>(h d hd).p,λ m e=>by cases e;exact h,λ m e=>by cases e;exact⟨hz,hl⟩⟩
theorem Fi.non{d:D}(h:pln d=true)(ht:kI d=false):Fi d:=⟨h,λ l e=>(by rw[e]at ht;cases ht),λ l e=>(by rw[e]at ht;cases ht)⟩
theorem Fn4.row{ws:List Int}(h:ws.length<4000):Fn4 (tupI ws):=El.fn (k:=0) El.ints (by decide) (by simpa using h)
def b5O:En->Rs D:=dJ (aA (aq (op1 uq (aD 4))) (aA (aq (bM (aD 4) (cA (cD (.int 1))) cB)) (aA (aq (bM (aD 4) cB (cA (op1 aBY (cD (.int 1)))))) (aA (op2 au (aq (aD 4)) (aq (bM (aD 4) cB (cA (cD (.int 1)))))) (aA (bH (aA (aq (op2 ixD (aD 1) (cD (.int 0)))) aF)) (aA (opA uO (aA (aq (aD 4)) aF)) (aA (cD .non) (aA (op2 au (aq (bM (aD 5) cB (cA (cD (.int 1))))) (aq (bM (aD 4) (cA (cD (.int 1))) cB))) (aA (bH (aA (cD (.bl true)) aF)) (aA (op2 au (aq (aD 4)) (bH (aA (cD (.int 0)) aF))) aF))))))))))
def b5S:En->Rs D:=dJ (aA (op2 au (op2 au (aq (bM (aD 2) cB (cA (aD 3)))) (bH (aA (op2 ixD (iB 6) (aM aX (aA (aD 0) (aA (cD (.int 8002)) (aA (cD (.int 10)) aF))))) aF))) (aq (bM (aD 2) (cA (op2 au (aD 3) (cD (.int 1)))) cB))) (aA (op2 au (aq (bM (aD 2) cB (cA (aD 3)))) (aq (bM (aD 2) (cA (op2 au (aD 3) (cD (.int 1)))) cB))) aF))
def b5T:En->Rs D:=dJ (aA (op2 au (aq (aD 2)) (bH (aA (aq (aD 4)) aF))) (aA (op2 au (op2 au (aq (bM (aD 2) cB (cA (aD 3)))) (bH (aA (aq (bM (aD 4) cB (cA (cD (.int 1))))) (aA (aq (bM (aD 4) (cA (cD (.int 1))) cB)) aF)))) (aq (bM (aD 2) (cA (op2 au (aD 3) (cD (.int 1)))) cB))) (aA (opA uO (aA (aq (aD 2)) aF)) aF)))
def b5R:En->Rs D:=lcD (bW (aD 2)) [none,some 4,some 5] (gnm 0) (tsb (op2 (inR true) (aD 0) (bH (aA (aD 1) (aA (aD 2) aF))))) (aq (aD 0))
def b5U:En->Rs D:=dJ (aA (op2 au (bH (aA (op2 au (aq (aD 4)) (aq (aD 5))) aF)) (aq (aD 8))) (aA (aq (op1 uq (aD 2))) (aA (cD .non) (aA (aq (aD 4)) aF))))
def b5Z:En->Rs D:=op2 ixD (j9 7) (op2 ixD (dJ (aA (cD (.int 0)) (aA (cD (.int 0)) (aA (cD (.int 0)) (aA (cD (.int 1)) (aA (cD (.int 2)) (aA (cD (.int 3)) (aA (cD (.int 3)) (aA (cD (.int 4)) (aA (cD (.int 5)) (aA (cD (.int 6)) (aA (cD (.int 7)) (aA (cD (.int 8)) (aA (cD (.int 9)) aF)))))))))))))) (aM aX (aA (aD 0) (aA (cD (.int 8003)) (aA (cD (.int 13)) aF)))))
def b5N:En->Ou:=ifS (tsb (op2 (eqR false) (aD 2) (bH aF))) (retS (op2 ixD (dJ (aA (bH (aA (bH aF) aF)) (aA (bH (aA (bH (aA (cD (.int 0)) aF)) aF)) (aA (dJ aF) (aA (cD .non) (aA (cD (.int 0)) (aA (cD (.str "")) aF))))))) (aM aX (aA (aD 0) (aA (cD (.int 8000)) (aA (cD (.int 6)) aF)))))) Ou.nx
theorem aA4:ig=aU b5N (aU (cU 3 (aM aX (aA (aD 0) (aA (cD (.int 8001)) (aA (opA cO (aA (aD 2) aF)) aF))))) (aU (cU 4 (op2 ixD (aD 2) (aD 3))) (aU (cU 5 (op2 ixD (aD 2) (op2 oR (op2 au (aD 3) (cD (.int 1))) (opA cO (aA (aD 2) aF))))) (aU (qP 6 b5O) (aU (lE 7 b5S) (aU (lE 7 (op2 au (j9 7) b5T)) (aU (yV 7 (bH (aA (aq (aD 2)) aF))) (aU (cU 8 (opA dO (aA b5R aF))) (aU (lE 7 (op2 au (j9 7) b5U)) (retS b5Z)))))))))):=rfl
theorem aIV(l:List D)(h1:cI l<=10)(h2:ao l=true):eqR false (.tup l) (.tup [])= .ok (.bl l.isEmpty):=by
 have e0:aQ (.tup [])=true:=rfl;have e1:aQ (.tup l)=true:=by unfold aQ;exact h2
 have e2:fP (.tup l)<=60:=by unfold fP;lia
 unfold eqR;rw[if_pos (by rw[e1,e0,decide_eq_true e2];rfl)];cases l<;>rfl
theorem uP{c:Int}{w:D}{rws:List (List Int)}(hn:∀r∈rws,r≠[])(hf:rws.flatten.length<=10):∃d,eO [.int c,.tup [.int n,w],.tup (rws.map tupI)]= .ok d/\Fi d:=by
 have hl:rws.length<=10:=Nat.le_trans (mD hn) hf;have hS:S1 (rws.map tupI)<=10:=by rw[show S1 (rws.map tupI)=rws.flatten.length from nq rws];exact hf
 have el1:∀d∈rws.map tupI,El 1 d:=λ d hd=>by
  obtain⟨r,_,rfl⟩:=List.mem_map.mp hd;exact .tup El.ints
 have hrow:∀r∈rws,r.length<=10:=λ r hr=>Nat.le_trans (List.Sublist.length_le (List.sublist_flatten_of_mem hr)) hf
 have st:bF 9 [.int c,.tup [.int n,w],.tup (rws.map tupI)]=[.sh (.int c),.sh (.tup [.int n,w]),.sh (.tup (rws.map tupI)),.no,.no,.no,.no,.no,.no]:=rfl;have hq:=aIV (rws.map tupI) (Nat.le_trans (oZ λ d hd=>(el1 d hd).e) (by decide)) (lZ λ d hd=>(el1 d hd).n);simp only[eO,aA4,bK,st];cases he:(rws.map tupI).isEmpty with
 |true=>
  obtain⟨b,eb,hb⟩:=jL (c:=c) (k:=8000) (b:=6) (by decide) (by decide) (by decide) (by decide);obtain⟨o,eo,ho,_⟩:=lR (l:=[.tup [.tup []],.tup [.tup [.int 0]],.lst [],.non,.int 0,.str ""]) (i:=(b:Int)) (by lia) (by simpa using hb);refine⟨o,?_,?_⟩
  ·have b1:b5N [.sh (.int c),.sh (.tup [.int n,w]),.sh (.tup (rws.map tupI)),.no,.no,.no,.no,.no,.no]= .rt o:=by simp[b5N,hq,he,eb,eo]
   rw[aN,b1];rfl
  ·simp only[List.mem_cons,List.not_mem_nil,or_false]at ho
   rcases ho with rfl|rfl|rfl|rfl|rfl|rfl
   ·exact Fi.tup (λ d hd=>by rw[List.mem_singleton.mp hd];exact⟨rfl,rfl,by decide,rfl⟩) (by decide) (by decide)
   ·exact Fi.tup (λ d hd=>by rw[List.mem_singleton.mp hd];exact⟨rfl,rfl,by decide,rfl⟩) (by decide) (by decide)
   ·exact Fi.non rfl rfl
   ·exact Fi.non rfl rfl
   ·exact Fi.non rfl rfl
   ·exact Fi.non rfl rfl
 |false=>
  have b1:b5N [.sh (.int c),.sh (.tup [.int n,w]),.sh (.tup (rws.map tupI)),.no,.no,.no,.no,.no,.no]= .nx [.sh (.int c),.sh (.tup [.int n,w]),.sh (.tup (rws.map tupI)),.no,.no,.no,.no,.no,.no]:=by simp[b5N,hq,he]
  have hp:0<rws.length:=by
   cases rws with
   |nil=>cases he
   |cons _ _=>simp
  obtain⟨a,ea,ha⟩:=jL (c:=c) (k:=8001) (b:=(rws.length:Int)) (by decide) (by decide) (by lia) (by lia);obtain⟨b,eb,hb⟩:=jL (c:=c) (k:=8002) (b:=10) (by decide) (by decide) (by decide) (by decide);obtain⟨r,er,hr⟩:=jL (c:=c) (k:=8003) (b:=13) (by decide) (by decide) (by decide) (by decide);obtain⟨d1,e1,h1,_⟩:=lR (l:=rws.map tupI) (i:=(a:Int)) (by lia) (by simpa using ha);obtain⟨x,hx,rfl⟩:=List.mem_map.mp h1;have hm:oR (.int ((a:Int)+1)) (.int (rws.length:Int))= .ok (.int (((a:Int)+1)%(rws.length:Int))):=lu (by lia);obtain⟨d2,e2,h2,_⟩:=lR (l:=rws.map tupI) (i:=((a:Int)+1)%(rws.length:Int)) (Int.emod_nonneg _ (by lia)) (by rw[List.length_map];exact Int.emod_lt_of_pos _ (by lia));obtain⟨y,hy,rfl⟩:=List.mem_map.mp h2;have hxl:=hrow x hx;have hyl:=hrow y hy;have hlL:((rws.map tupI).length:Int)=(rws.length:Int):=by rw[List.length_map]
  generalize hL:rws.map tupI=L at*;have hLl:L.length<=10:=by rw[<-hL,List.length_map];exact hl
  have elX:∀d∈x.map D.int,El 1 d:=El.ints
  have elY:∀d∈y.map D.int,El 1 d:=El.ints
  have tX:tupI x= .tup (x.map .int):=rfl;have tY:tupI y= .tup (y.map .int):=rfl;rw[tX]at e1;rw[tY]at e2;generalize hX:x.map D.int=X at*;generalize hY:y.map D.int=Y at*;have hXl:X.length<=10:=by rw[<-hX,List.length_map];exact hxl
  have hYl:Y.length<=10:=by rw[<-hY,List.length_map];exact hyl
  have gI:∀{l:List D},(∀d∈l,El 1 d)->rY (.tup l)= .ok (.tup l):=λ h=>(El.tup h).g
  have gc:∀{l:List D},(∀d∈l,El 1 d)->∀u v,rY (.tup (cutD l u v))= .ok (.tup (cutD l u v)):=λ h u v=>gI λ d hd=>h d (xW hd)
  have gX:=gI elX;have gY:=gI elY;have gL:=gI el1;have gcX:=gc elX;have gcY:=gc elY;have gcL:=gc el1;have gR:rY (.tup X.reverse)= .ok (.tup X.reverse):=gI λ d hd=>elX d (List.mem_reverse.mp hd)
  have gLR:rY (.tup L.reverse)= .ok (.tup L.reverse):=gI λ d hd=>el1 d (List.mem_reverse.mp hd)
  have cX:∀u v,(cutD X u v).length<=10:=λ u v=>Nat.le_trans (xX X u v) hXl
  have cY:∀u v,(cutD Y u v).length<=10:=λ u v=>Nat.le_trans (xX Y u v) hYl
  have cL:∀u v,(cutD L u v).length<=10:=λ u v=>Nat.le_trans (xX L u v) hLl
  have A1:∀u v,au (.tup X) (.tup (cutD X u v))= .ok (.tup (X++cutD X u v)):=λ u v=>uz (by have:=cX u v;lia)
  have A2:∀u v u' v',au (.tup (cutD Y u v)) (.tup (cutD X u' v'))= .ok (.tup (cutD Y u v++cutD X u' v')):=λ u v u' v'=>uz (by have:=cX u' v';have:=cY u v;lia)
  have A3:au (.tup X) (.tup [.int 0])= .ok (.tup (X++[.int 0])):=uz (by simp;lia);have c6:b5O [.sh (.int c),.sh (.tup [.int n,w]),.sh (.tup L),.sh (.int a),.sh (.tup X),.sh (.tup Y),.no,.no,.no]= .ok (.lst [.tup X.reverse,.tup (cutD X (some 1) none),.tup (cutD X none (some (-1))),.tup (X++cutD X none (some 1)),.tup [.int n],.lst X,.non,.tup (cutD Y none (some 1)++cutD X (some 1) none),.tup [.bl true],.tup (X++[.int 0])]):=by
   simp[b5O,gX,gcX,gcY,gR,A1,A2,A3,-mR]
  obtain⟨o,eo,ho,_⟩:=lR (l:=[.tup X.reverse,.tup (cutD X (some 1) none),.tup (cutD X none (some (-1))),.tup (X++cutD X none (some 1)),.tup [.int n],.lst X,.non,.tup (cutD Y none (some 1)++cutD X (some 1) none),.tup [.bl true],.tup (X++[.int 0])]) (i:=(b:Int)) (by lia) (by simpa using hb);have eC:∀{l:List D},(∀d∈l,El 1 d)->∀u v,∀d∈cutD l u v,El 1 d:=λ h u v d hd=>h d (xW hd)
  have ap:∀{l m:List D},(∀d∈l,El 1 d)->(∀d∈m,El 1 d)->∀d∈l++m,El 1 d:=λ h1 h2 d hd=>(List.mem_append.mp hd).elim (h1 d) (h2 d)
  have fT:∀{l:List D},(∀d∈l,El 1 d)->l.length<=20->Fn4 (.tup l)/\n6 (.tup l)<=20:=λ h hl=>⟨El.fn h (by decide) (by lia),hl⟩
  have hO:Fn4 o/\n6 o<=20:=by
   simp only[List.mem_cons,List.not_mem_nil,or_false]at ho;have l1:=cX (some 1) none;have l2:=cX none (some (-1));have l3:=cX none (some 1);have l4:=cY none (some 1);rcases ho with rfl|rfl|rfl|rfl|rfl|rfl|rfl|rfl|rfl|rfl
   ·exact fT (λ d hd=>elX d (List.mem_reverse.mp hd)) (by rw[List.length_reverse];lia)
   ·exact fT (eC elX _ _) (by lia)
   ·exact fT (eC elX _ _) (by lia)
   ·exact fT (ap elX (eC elX _ _)) (by rw[List.length_append];lia)
   ·exact fT (λ d hd=>by rw[List.mem_singleton.mp hd];exact .int) (by simp)
   ·have q:=El.tup elX
    exact⟨⟨q.p,rfl,Nat.le_trans q.e (by decide),q.n⟩,by simp[n6]⟩
   ·exact⟨⟨rfl,rfl,by decide,rfl⟩,by decide⟩
   ·exact fT (ap (eC elY _ _) (eC elX _ _)) (by rw[List.length_append];lia)
   ·exact fT (λ d hd=>by rw[List.mem_singleton.mp hd];exact .bl) (by simp)
   ·exact fT (ap elX λ d hd=>by rw[List.mem_singleton.mp hd];exact .int) (by simp;lia)
  generalize hOs:([.tup X.reverse,.tup (cutD X (some 1) none),.tup (cutD X none (some (-1))),.tup (X++cutD X none (some 1)),.tup [.int n],.lst X,.non,.tup (cutD Y none (some 1)++cutD X (some 1) none),.tup [.bl true],.tup (X++[.int 0])]:List D)=Os at c6 eo;have B1:au (.tup (cutD L none (some (a:Int)))) (.tup [o])= .ok (.tup (cutD L none (some (a:Int))++[o])):=uz (by have:=cL none (some (a:Int));simp;lia);have B2:∀u v,au (.tup (cutD L none (some (a:Int))++[o])) (.tup (cutD L u v))= .ok (.tup (cutD L none (some (a:Int))++[o]++cutD L u v)):=λ u v=>uz (by have:=cL none (some (a:Int));have:=cL u v;rw[List.length_append,List.length_singleton];lia)
  have B3:∀u v u' v',au (.tup (cutD L u v)) (.tup (cutD L u' v'))= .ok (.tup (cutD L u v++cutD L u' v')):=λ u v u' v'=>uz (by have:=cL u v;have:=cL u' v';lia)
  have c7:b5S [.sh (.int c),.sh (.tup [.int n,w]),.sh (.tup L),.sh (.int a),.sh (.tup X),.sh (.tup Y),.nw (.lst Os),.no,.no]= .ok (.lst [.tup (cutD L none (some (a:Int))++[o]++cutD L (some ((a:Int)+1)) none),.tup (cutD L none (some (a:Int))++cutD L (some ((a:Int)+1)) none)]):=by
   simp[b5S,gcL,eb,eo,B1,B2,B3,-mR,-List.append_assoc]
  have B4:au (.tup L) (.tup [.tup X])= .ok (.tup (L++[.tup X])):=uz (by simp;lia);have B5:au (.tup (cutD L none (some (a:Int)))) (.tup [.tup (cutD X none (some 1)),.tup (cutD X (some 1) none)])= .ok (.tup (cutD L none (some (a:Int))++[.tup (cutD X none (some 1)),.tup (cutD X (some 1) none)])):=uz (by have:=cL none (some (a:Int));simp;lia);have B6:∀u v,au (.tup (cutD L none (some (a:Int))++[.tup (cutD X none (some 1)),.tup (cutD X (some 1) none)])) (.tup (cutD L u v))= .ok (.tup (cutD L none (some (a:Int))++[.tup (cutD X none (some 1)),.tup (cutD X (some 1) none)]++cutD L u v)):=λ u v=>uz (by have:=cL none (some (a:Int));have:=cL u v;rw[List.length_append];simp;lia)
  have c8:∀s,b5T [.sh (.int c),.sh (.tup [.int n,w]),.sh (.tup L),.sh (.int a),.sh (.tup X),.sh (.tup Y),.nw (.lst Os),s,.no]= .ok (.lst [.tup (L++[.tup X]),.tup (cutD L none (some (a:Int))++[.tup (cutD X none (some 1)),.tup (cutD X (some 1) none)]++cutD L (some ((a:Int)+1)) none),.lst L]):=λ s=>by
   simp[b5T,gL,gX,gcL,gcX,B4,B5,B6,-mR,-List.append_assoc]
  obtain⟨rest,e9,hrs⟩:∃rest:List (List Int),(∀s,b5R [.sh (.int c),.sh (.tup [.int n,w]),.sh (.tup L),.sh (.int a),.sh (.tup X),.sh (.tup Y),.nw (.lst Os),s,.no]= .ok (.lst (rest.map tupI)))/\S1 (rest.map tupI)<=10/\rest.length<=10:=by
   refine⟨rws.filter λ r=>!inD (tupI r) [.tup X,.tup Y],λ s=>tV (ds:=L) (by simp[shE,qN]) (by lia) ?_,Nat.le_trans (zV _ rws) (by rw[hL];exact hS),Nat.le_trans (List.length_filter_le _ _) hl⟩;rw[<-hL];refine pH rws λ r hr=>⟨[.sh (tupI r),.sh (.tup X),.sh (.tup Y)],rfl,?_,by simp[El.g (El.tup (k:=0) (El.ints (ws:=r))),show rY (tupI r)= .ok (tupI r)from(El.tup (k:=0) El.ints).g]⟩
   have q1:cI [.tup X,.tup Y]<=60:=Nat.le_trans (oZ (k:=2) λ d hd=>by
    simp only[List.mem_cons,List.not_mem_nil,or_false]at hd;rcases hd with rfl|rfl
    ·exact(El.tup elX).e
    ·exact(El.tup elY).e) (by decide)
   have q2:ao [.tup X,.tup Y]=true:=lZ λ d hd=>by
    simp only[List.mem_cons,List.not_mem_nil,or_false]at hd;rcases hd with rfl|rfl
    ·exact(El.tup elX).n
    ·exact(El.tup elY).n
   have q3:aQ (tupI r)=true:=(aG9 r).2;have q:inR true (tupI r) (.tup [.tup X,.tup Y])= .ok (.bl (!inD (tupI r) [.tup X,.tup Y])):=by
    unfold inR;dsimp only;rw[if_pos (by rw[q2,q3,decide_eq_true q1];rfl)];rfl
   simp[q]
  have elR:∀d∈rest.map tupI,El 1 d:=λ d hd=>by
   obtain⟨r,_,rfl⟩:=List.mem_map.mp hd;exact .tup El.ints
  generalize hRe:rest.map tupI=Re at*;have hRl:Re.length<=10:=by rw[<-hRe,List.length_map];exact hrs.2
  have gRe:=gI elR;have D1:au (.tup X) (.tup Y)= .ok (.tup (X++Y)):=uz (by lia);have D2:au (.tup [.tup (X++Y)]) (.tup Re)= .ok (.tup ([.tup (X++Y)]++Re)):=uz (by simp;lia);have c10:∀s,b5U [.sh (.int c),.sh (.tup [.int n,w]),.sh (.tup L),.sh (.int a),.sh (.tup X),.sh (.tup Y),.nw (.lst Os),s,.sh (.tup Re)]= .ok (.lst [.tup ([.tup (X++Y)]++Re),.tup L.reverse,.non,.tup X]):=λ s=>by
   simp[b5U,gX,gY,gRe,gLR,D1,D2,-mR,-List.cons_append,-List.singleton_append]
  generalize hV:([.tup (cutD L none (some (a:Int))++[o]++cutD L (some ((a:Int)+1)) none),.tup (cutD L none (some (a:Int))++cutD L (some ((a:Int)+1)) none)]:List D)=V at c7;have hVl:V.length=2:=by rw[<-hV];rfl
  generalize hV2:([.tup (L++[.tup X]),.tup (cutD L none (some (a:Int))++[.tup (cutD X none (some 1)),.tup (cutD X (some 1) none)]++cutD L (some ((a:Int)+1)) none),.lst L]:List D)=V2 at c8;have hV2l:V2.length=3:=by rw[<-hV2];rfl
  generalize hV3:([.tup ([.tup (X++Y)]++Re),.tup L.reverse,.non,.tup X]:List D)=V3 at c10;have hV3l:V3.length=4:=by rw[<-hV3];rfl
  have hF:∀d∈V++V2++[.tup [.tup L]]++V3,Fi d:=by
   have fL:∀d∈L,Fn4 d:=λ d hd=>by
    rw[<-hL]at hd;obtain⟨r,hr,rfl⟩:=List.mem_map.mp hd;exact Fn4.row (by have:=hrow r hr;lia)
   have fC:∀u v,∀d∈cutD L u v,Fn4 d:=λ u v d hd=>fL d (xW hd)
   have fO:∀d∈[o],Fn4 d:=λ d hd=>by rw[List.mem_singleton.mp hd];exact hO.1
   have fX:Fn4 (.tup X):=(fT elX (by lia)).1;have apF:∀{l m:List D},(∀d∈l,Fn4 d)->(∀d∈m,Fn4 d)->∀d∈l++m,Fn4 d:=λ h1 h2 d hd=>(List.mem_append.mp hd).elim (h1 d) (h2 d)
   have sC:=λ u v=>Nat.le_trans (aKq L u v) hS
   have s1:=sC none (some (a:Int));have s2:=sC (some ((a:Int)+1)) none;have l1:=cL none (some (a:Int));have l2:=cL (some ((a:Int)+1)) none;have so:S1 [o]=n6 o:=by simp[S1]
   intro d hd;rw[<-hV,<-hV2,<-hV3]at hd;simp only[List.mem_append,List.mem_cons,List.not_mem_nil,or_false]at hd;rcases hd with (((rfl|rfl)|rfl|rfl|rfl)|rfl)|rfl|rfl|rfl|rfl
   ·exact Fi.tup (apF (apF (fC _ _) fO) (fC _ _)) (by rw[o6,o6,so];have:=hO.2;lia) (by simp only[List.length_append,List.length_singleton];lia)
   ·exact Fi.tup (apF (fC _ _) (fC _ _)) (by rw[o6];lia) (by rw[List.length_append];lia)
   ·exact Fi.tup (apF fL λ d hd=>by rw[List.mem_singleton.mp hd];exact fX) (by rw[o6,aDE];show S1 L+X.length<64;lia) (by simp;lia)
   ·have z:S1 [.tup (cutD X none (some 1)),.tup (cutD X (some 1) none)]=(cutD X none (some 1)).length+(cutD X (some 1) none).length:=by simp[S1,n6]
    have z1:=cX none (some 1);have z2:=cX (some 1) none;refine Fi.tup (apF (apF (fC _ _) λ d hd=>?_) (fC _ _)) (by rw[o6,o6,z];lia) (by simp only[List.length_append,List.length_cons,List.length_nil];lia);simp only[List.mem_cons,List.not_mem_nil,or_false]at hd;rcases hd with rfl|rfl
    ·exact(fT (eC elX _ _) (by lia)).1
    ·exact(fT (eC elX _ _) (by lia)).1
   ·exact Fi.non (by have q:=El.tup el1;exact q.p) rfl
   ·exact Fi.tup (λ d hd=>by rw[List.mem_singleton.mp hd];exact El.fn el1 (by decide) (by lia)) (by simp[S1,n6];lia) (by simp)
   ·refine Fi.tup (apF (λ d hd=>by rw[List.mem_singleton.mp hd];exact(fT (ap elX elY) (by rw[List.length_append];lia)).1) λ d hd=>?_) (by rw[o6,aDE];show(X++Y).length+S1 Re<64;rw[List.length_append];lia) (by simp;lia)
    rw[<-hRe]at hd;obtain⟨r,hr,rfl⟩:=List.mem_map.mp hd;refine Fn4.row ?_
    have:(tupI r)∈Re:=by rw[<-hRe];exact List.mem_map_of_mem hr
    have h3:n6 (tupI r)<=S1 Re:=aGr this;have h4:n6 (tupI r)=r.length:=by simp[tupI,n6]
    lia
   ·exact Fi.tup (λ d hd=>fL d (List.mem_reverse.mp hd)) (by rw[aKp];lia) (by simp;lia)
   ·exact Fi.non rfl rfl
   ·refine Fi.tup (λ d hd=>?_) ?_ (by lia)
    ·have q:=elX d hd
     rw[<-hX]at hd;obtain⟨i,_,rfl⟩:=List.mem_map.mp hd;exact⟨rfl,rfl,Nat.zero_le _,rfl⟩
    ·rw[<-hX,aDo];decide
  have E1:au (.lst V) (.lst V2)= .ok (.lst (V++V2)):=aLg (by rw[hVl,hV2l];decide);have E2:au (.lst (V++V2++[.tup [.tup L]])) (.lst V3)= .ok (.lst (V++V2++[.tup [.tup L]]++V3)):=aLg (by rw[hV3l,List.length_append,List.length_append,hVl,hV2l];simp);have hWl:(V++V2++[D.tup [D.tup L]]++V3).length=10:=by rw[List.length_append,List.length_append,List.length_append,hVl,hV2l,hV3l];rfl
  obtain⟨k,ek,hk,_⟩:=lR (l:=[.int 0,.int 0,.int 0,.int 1,.int 2,.int 3,.int 3,.int 4,.int 5,.int 6,.int 7,.int 8,.int 9]) (i:=(r:Int)) (by lia) (by simpa using hr);obtain⟨j,rfl,j0,j1⟩:∃j:Int,k= .int j/\0<=j/\j<10:=by
   simp only[List.mem_cons,List.not_mem_nil,or_false]at hk;rcases hk with rfl|rfl|rfl|rfl|rfl|rfl|rfl|rfl|rfl|rfl|rfl|rfl|rfl<;>exact⟨_,rfl,by decide,by decide⟩
  obtain⟨d,ed,hd,_⟩:=lR (l:=V++V2++[.tup [.tup L]]++V3) (i:=j) j0 (by rw[hWl];exact j1);refine⟨d,?_,hF d hd⟩;have s3:cU 3 (aM aX (aA (aD 0) (aA (cD (.int 8001)) (aA (opA cO (aA (aD 2) aF)) aF)))) [.sh (.int c),.sh (.tup [.int n,w]),.sh (.tup L),.no,.no,.no,.no,.no,.no]= .nx [.sh (.int c),.sh (.tup [.int n,w]),.sh (.tup L),.sh (.int a),.no,.no,.no,.no,.no]:=by simp[hlL,ea]
  have s4:cU 4 (op2 ixD (aD 2) (aD 3)) [.sh (.int c),.sh (.tup [.int n,w]),.sh (.tup L),.sh (.int a),.no,.no,.no,.no,.no]= .nx [.sh (.int c),.sh (.tup [.int n,w]),.sh (.tup L),.sh (.int a),.sh (.tup X),.no,.no,.no,.no]:=by simp[e1]
  have s5:cU 5 (op2 ixD (aD 2) (op2 oR (op2 au (aD 3) (cD (.int 1))) (opA cO (aA (aD 2) aF)))) [.sh (.int c),.sh (.tup [.int n,w]),.sh (.tup L),.sh (.int a),.sh (.tup X),.no,.no,.no,.no]= .nx [.sh (.int c),.sh (.tup [.int n,w]),.sh (.tup L),.sh (.int a),.sh (.tup X),.sh (.tup Y),.no,.no,.no]:=by simp[hlL,hm,e2]
  have s6:qP 6 b5O [.sh (.int c),.sh (.tup [.int n,w]),.sh (.tup L),.sh (.int a),.sh (.tup X),.sh (.tup Y),.no,.no,.no]= .nx [.sh (.int c),.sh (.tup [.int n,w]),.sh (.tup L),.sh (.int a),.sh (.tup X),.sh (.tup Y),.nw (.lst Os),.no,.no]:=by rw[vD,c6];rfl
  have s7:lE 7 b5S [.sh (.int c),.sh (.tup [.int n,w]),.sh (.tup L),.sh (.int a),.sh (.tup X),.sh (.tup Y),.nw (.lst Os),.no,.no]= .nx [.sh (.int c),.sh (.tup [.int n,w]),.sh (.tup L),.sh (.int a),.sh (.tup X),.sh (.tup Y),.nw (.lst Os),.ow (.lst V),.no]:=by rw[zm,c7];rfl
  have s8:lE 7 (op2 au (j9 7) b5T) [.sh (.int c),.sh (.tup [.int n,w]),.sh (.tup L),.sh (.int a),.sh (.tup X),.sh (.tup Y),.nw (.lst Os),.ow (.lst V),.no]= .nx [.sh (.int c),.sh (.tup [.int n,w]),.sh (.tup L),.sh (.int a),.sh (.tup X),.sh (.tup Y),.nw (.lst Os),.ow (.lst (V++V2)),.no]:=by
   rw[zm,nG,c8];simp[E1,-aBr]
  have s9:yV 7 (bH (aA (aq (aD 2)) aF)) [.sh (.int c),.sh (.tup [.int n,w]),.sh (.tup L),.sh (.int a),.sh (.tup X),.sh (.tup Y),.nw (.lst Os),.ow (.lst (V++V2)),.no]= .nx [.sh (.int c),.sh (.tup [.int n,w]),.sh (.tup L),.sh (.int a),.sh (.tup X),.sh (.tup Y),.nw (.lst Os),.ow (.lst (V++V2++[.tup [.tup L]])),.no]:=by
   have hv:bH (aA (aq (aD 2)) aF) [.sh (.int c),.sh (.tup [.int n,w]),.sh (.tup L),.sh (.int a),.sh (.tup X),.sh (.tup Y),.nw (.lst Os),.ow (.lst (V++V2)),.no]= .ok (.tup [.tup L]):=by simp[gL]
   show((bH (aA (aq (aD 2)) aF) [.sh (.int c),.sh (.tup [.int n,w]),.sh (.tup L),.sh (.int a),.sh (.tup X),.sh (.tup Y),.nw (.lst Os),.ow (.lst (V++V2)),.no]).bo λ d=>if (V++V2).length<sizeLine then .nx [.sh (.int c),.sh (.tup [.int n,w]),.sh (.tup L),.sh (.int a),.sh (.tup X),.sh (.tup Y),.nw (.lst Os),.ow (.lst (V++V2++[d])),.no]else .st)=_
   rw[hv,dF,if_pos (by rw[szl,List.length_append,hVl,hV2l];decide)]
  have s10:cU 8 (opA dO (aA b5R aF)) [.sh (.int c),.sh (.tup [.int n,w]),.sh (.tup L),.sh (.int a),.sh (.tup X),.sh (.tup Y),.nw (.lst Os),.ow (.lst (V++V2++[.tup [.tup L]])),.no]= .nx [.sh (.int c),.sh (.tup [.int n,w]),.sh (.tup L),.sh (.int a),.sh (.tup X),.sh (.tup Y),.nw (.lst Os),.ow (.lst (V++V2++[.tup [.tup L]])),.sh (.tup Re)]:=by
   rw[aHM,jX,dY,e9];simp
  have s11:lE 7 (op2 au (j9 7) b5U) [.sh (.int c),.sh (.tup [.int n,w]),.sh (.tup L),.sh (.int a),.sh (.tup X),.sh (.tup Y),.nw (.lst Os),.ow (.lst (V++V2++[.tup [.tup L]])),.sh (.tup Re)]= .nx [.sh (.int c),.sh (.tup [.int n,w]),.sh (.tup L),.sh (.int a),.sh (.tup X),.sh (.tup Y),.nw (.lst Os),.ow (.lst (V++V2++[.tup [.tup L]]++V3)),.sh (.tup Re)]:=by
   have hv:j9 7 [.sh (.int c),.sh (.tup [.int n,w]),.sh (.tup L),.sh (.int a),.sh (.tup X),.sh (.tup Y),.nw (.lst Os),.ow (.lst (V++V2++[.tup [.tup L]])),.sh (.tup Re)]= .ok (.lst (V++V2++[.tup [.tup L]])):=rfl;rw[zm,nG,c10,hv,bJ,bJ,E2];rfl
  have s12:retS b5Z [.sh (.int c),.sh (.tup [.int n,w]),.sh (.tup L),.sh (.int a),.sh (.tup X),.sh (.tup Y),.nw (.lst Os),.ow (.lst (V++V2++[.tup [.tup L]]++V3)),.sh (.tup Re)]= .rt d:=by
   have hv:j9 7 [.sh (.int c),.sh (.tup [.int n,w]),.sh (.tup L),.sh (.int a),.sh (.tup X),.sh (.tup Y),.nw (.lst Os),.ow (.lst (V++V2++[.tup [.tup L]]++V3)),.sh (.tup Re)]= .ok (.lst (V++V2++[.tup [.tup L]]++V3)):=rfl;rw[gM,b5Z,nG,hv];simp[er,ek,ed,-List.append_assoc]
  rw[aN,b1,bG,aN,s3,bG,aN,s4,bG,aN,s5,bG,aN,s6,bG,aN,s7,bG,aN,s8,bG,aN,s9,bG,aN,s10,bG,aN,s11,bG,s12]
def k5P:En->Ou:=aU (qP 8 (dJ (aA (aM cj (aA (aD 3) (aA (aD 5) aF))) (aA (aM bC (aA (aD 3) (aA (aD 5) aF))) aF))))
     (ifS (orT (tsb (op2 (eqR true) (iB 8) (dJ (aA (aM jR (aA (aD 5) aF)) (aA (aM jT (aA (aD 5) aF)) aF))))) (fB (tst (op1 (fK "tuple") (op2 ixD (iB 8) (cD (.int 0))))))) (retS (cD (.bl false))) Ou.nx)
def k5N:En->Ou:=aU (ifS (tsb (op2 (eqR true) (tK wdN "told" (aM cj (aA (aD 3) (aA (aD 5) aF)))) (cD (.str "parting")))) (retS (cD (.bl false))) Ou.nx)
     (ifS (tsb (op2 (eqR true) (tK wdN "told" (aM bC (aA (aD 3) (aA (aD 5) aF)))) (cD (.str "parting")))) (retS (cD (.bl false))) Ou.nx)
def k5T:En->Ou:=aU (cU 6 (aM dh (aA (aD 3) (aA (aD 5) aF)))) (aU (cU 7 (aM bQ (aA (aD 3) (aA (aD 5) aF))))
    (aU (ifS (orT (fB (tst (op1 (fK "bool") (aD 7)))) (tsb (op2 (eqR true) (aD 7) (aD 6)))) (retS (cD (.bl false))) Ou.nx) (ifS (tst (aD 6)) k5P k5N)))
def k5U:En->Rs (List D):=bW (dJ (aA (aD 4) (aA (aM eO (aA (aD 2) (aA (aD 3) (aA (aD 4) aF)))) (aA (aM eO (aA (op2 au (aD 2) (cD (.int 1))) (aA (aD 3) (aA (aD 4) aF)))) aF))))
def k5C:En->Ou:=ifS (tsb (op2 (eqR true) (tK wdN "told" (aBm [("is_parting",bQ),("plain",cj),("ties_along",bC)] 9 (aA (bH (aA (cD (.int 1)) (aA (bH (aA (bH (aA (cD (.int 0)) (aA (cD (.int 0)) aF))) aF)) aF))) (aA (cD .non) aF)))) (cD (.str "web")))) (retS (cD (.bl false))) Ou.nx
def k5K:En->Ou:=aU (cU 2 (aM dI (aA (aD 0) (aA (aD 1) aF)))) (aU (cU 3 (aM jD (aA (aD 2) (aA (cD (.int 10)) aF)))) (aU (cU 4 (aM eG (aA (aD 2) (aA (cD (.int 5000)) (aA (aD 3) (aA (aM jE (aA (aD 3) aF)) aF)))))) (aU (dj k5U (gnm 5) k5T)
   (dj (bW (dJ (aA (cD (.fn "is_parting")) (aA (cD (.fn "plain")) (aA (cD (.fn "ties_along")) aF))))) (gnm 9) k5C))))
def k5Z:En->Rs D:=qt (op2 (isD false) (aM bQ (aA (bH (aA (cD (.int 0)) (aA (bH aF) aF))) (aA (bH aF) aF))) (cD (.bl true))) (qt (op2 (eqR false) (aM cj (aA (bH (aA (cD (.int 0)) (aA (bH aF) aF))) (aA (bH aF) aF))) (bH aF)) (op2 (eqR false) (aM bC (aA (bH (aA (cD (.int 1)) (aA (bH aF) aF))) (aA (bH (aA (bH (aA (cD (.int 0)) aF)) aF)) aF))) (bH aF)))
def k5R:En->Rs (List D):=eZ nA (aA (opA (mmD λ i j=>if j>i then j else i) (aA (cD (.int 1)) (aA (opA (mmD λ i j=>if j<i then j else i) (aA (opA cO (aA (aD 0) aF)) (aA (cD (.int 8)) aF))) aF))) aF)
theorem aHv:zN=aU (dj k5R (gnm 1) k5K) (retS k5Z):=rfl
abbrev k5(ns:List Int)(k c n:Int)(ps:List (Int×Int))(t:D)(s5 s6 s7 s8 s9:Slot):En:=[.sh (.scr ns),.sh (.int k),.sh (.int c),.sh (owD n ps),.sh t,s5,s6,s7,s8,s9]
theorem aCV{ρ:En}{fe:En->Rs D}{c w:Str}(h:fe (ρ.map shS)= .ex c)(hw:wdN c=some w):tK wdN "told" fe ρ= .ok (.str w):=by
 unfold tK;rw[h];dsimp only;rw[hw]
theorem El.rowsT{rws:List (List Int)}:El 2 (.tup (rws.map tupI)):=.tup λ d hd=>by
 obtain⟨r,_,rfl⟩:=List.mem_map.mp hd;exact .tup El.ints
section
variable{ns:List Int}{k c n:Int}{ps:List (Int×Int)}{t d:D}{s5 s6 s7 s8 s9:Slot}
theorem aKY(h:Ow n ps)(low:∀p∈ps,p.1<p.2)(F:Fi d):∃s6' s7' s8',k5T (k5 ns k c n ps t (.sh d) s6 s7 s8 s9)= .nx (k5 ns k c n ps t (.sh d) s6' s7' s8' s9):=by
 have g1:=rQ h low F;have g2:=ph h low F;cases cp:ju n (dbl ps) d with
 |false=>
  rw[cp]at g1 g2;have hc:=iy h low F;rw[cp,if_neg (by simp)]at hc;have e1:cj [owD n ps,d]= .ex "NoParting":=by
   have st:bF 2 [owD n ps,d]=[.sh (owD n ps),.sh d]:=rfl;simp only[cj,nO,bK,st];rw[aN,aBh,kY];simp[hc]
  have e2:bC [owD n ps,d]= .ex "NoParting":=by
   have st:bF 2 [owD n ps,d]=[.sh (owD n ps),.sh d]:=rfl;simp only[bC,eF,bK,st];rw[aN,aBh,kY];simp[hc]
  have r1:tK wdN "told" (aM cj (aA (aD 3) (aA (aD 5) aF))) (k5 ns k c n ps t (.sh d) (.sh (.bl false)) (.sh (.bl false)) s8 s9)= .ok (.str "parting"):=aCV (c:="NoParting") (by rw[kY];exact e1) rfl;have r2:tK wdN "told" (aM bC (aA (aD 3) (aA (aD 5) aF))) (k5 ns k c n ps t (.sh d) (.sh (.bl false)) (.sh (.bl false)) s8 s9)= .ok (.str "parting"):=aCV (c:="NoParting") (by rw[kY];exact e2) rfl;refine⟨.sh (.bl false),.sh (.bl false),s8,?_⟩;simp[k5T,k5N,g1,g2,r1,r2,aDi]
 |true=>
  rw[cp]at g1 g2;obtain⟨rws,rfl,hn⟩:=aED cp;have hz:=(F.z _ rfl).1;rw[nq]at hz;have p1:=aF9 h low F cp hn;have p2:=xx h low F cp hn;have p3:=aA2 hn (Nat.lt_of_le_of_lt (mD hn) hz);have p4:=aA5 hn hz;have eP:El 2 (lQ rws):=El.rowsT;have eA:El 2 (nT rws):=El.rowsT;have q:eqR true (.lst [lQ rws,nT rws]) (.lst [lQ rws,nT rws])= .ok (.bl false):=aG7 true (by
   have:=oZ (k:=2) (l:=[lQ rws,nT rws]) λ d hd=>by
    simp only[List.mem_cons,List.not_mem_nil,or_false]at hd;rcases hd with rfl|rfl
    ·exact eP.e
    ·exact eA.e
   unfold fP;lia) (by
   unfold aQ;exact lZ λ d hd=>by
    simp only[List.mem_cons,List.not_mem_nil,or_false]at hd;rcases hd with rfl|rfl
    ·exact eP.n
    ·exact eA.n)
  have ti:fK "tuple" (lQ rws)= .ok (.bl true):=yO;refine⟨.sh (.bl true),.sh (.bl true),.nw (.lst [lQ rws,nT rws]),?_⟩;simp[k5T,k5P,g1,g2,p1,p2,p3,p4,q,ti]
theorem aK0{f:Str}(hf:f="is_parting"\/f="plain"\/f="ties_along"):k5C (k5 ns k c n ps t s5 s6 s7 s8 (.sh (.fn f)))= .nx (k5 ns k c n ps t s5 s6 s7 s8 (.sh (.fn f))):=by
 have a1:bQ [.tup [.int 1,.tup [.tup [.int 0,.int 0]]],.non]= .ex "NoWeb":=rfl;have a2:cj [.tup [.int 1,.tup [.tup [.int 0,.int 0]]],.non]= .ex "NoWeb":=rfl;have a3:bC [.tup [.int 1,.tup [.tup [.int 0,.int 0]]],.non]= .ex "NoWeb":=rfl;have r:tK wdN "told" (aBm [("is_parting",bQ),("plain",cj),("ties_along",bC)] 9 (aA (bH (aA (cD (.int 1)) (aA (bH (aA (bH (aA (cD (.int 0)) (aA (cD (.int 0)) aF))) aF)) aF))) (aA (cD .non) aF))) (k5 ns k c n ps t s5 s6 s7 s8 (.sh (.fn f)))= .ok (.str "web"):=by
  refine aCV (c:="NoWeb") ?_ rfl;rcases hf with rfl|rfl|rfl
  ·show aM bQ _ _=_
   simp[a1]
  ·show aM cj _ _=_
   simp[a2]
  ·show aM bC _ _=_
   simp[a3]
 unfold k5C;rw[aAc,zY,nG,r];simp[aDi]
theorem aKZ{s2 s3 s4:Slot}(hk:0<=k):∃s2' s3' s4' s5' s6' s7' s8' s9',k5K [.sh (.scr ns),.sh (.int k),s2,s3,s4,s5,s6,s7,s8,s9]= .nx [.sh (.scr ns),.sh (.int k),s2',s3',s4',s5',s6',s7',s8',s9']:=by
 obtain⟨c,ec⟩:=aI1 (ns:=ns) hk;obtain⟨n,ps,ew,h,low,hn⟩:=aCj (c:=c) (most:=10) (by decide);obtain⟨ll,el,N,hz⟩:=aB2 h;obtain⟨rws,er,P⟩:=yM (c:=c) (a:=5000) (w:=.tup (ps.map pD)) (by decide) (by decide) h.n0 h.n1 N hz;have hfl:rws.flatten.length<=10:=by
  have:=P.pm.length_eq
  rw[List.append_nil,aBy]at this;lia
 obtain⟨d1,e1,f1⟩:=uP (n:=n) (c:=c) (w:=.tup (ps.map pD)) P.ne hfl;obtain⟨d2,e2,f2⟩:=uP (n:=n) (c:=c+1) (w:=.tup (ps.map pD)) P.ne hfl;have f0:Fi (.tup (rws.map tupI)):=Fi.tup (λ d hd=>by
  obtain⟨r,hr,rfl⟩:=List.mem_map.mp hd;exact Fn4.row (by have:=List.Sublist.length_le (List.sublist_flatten_of_mem hr);lia)) (by rw[show S1 (rws.map tupI)=rws.flatten.length from nq rws];lia) (by rw[List.length_map];have:=mD P.ne;lia)
 have ew':jD [.int c,.int 10]= .ok (owD n ps):=ew;have er':eG [.int c,.int 5000,owD n ps,.lst (ll.map .lst)]= .ok (.tup (rws.map tupI)):=er;have e1':eO [.int c,owD n ps,.tup (rws.map tupI)]= .ok d1:=e1;have e2':eO [.int (c+1),owD n ps,.tup (rws.map tupI)]= .ok d2:=e2;obtain⟨ρ',e,s5',s6',s7',s8',rfl⟩:=vN (a:=gnm 5) (u:=k5T) (I:=λ ρ=>∃s5 s6 s7 s8,ρ=k5 ns k c n ps (.tup (rws.map tupI)) s5 s6 s7 s8 s9) [.tup (rws.map tupI),d1,d2] (k5 ns k c n ps (.tup (rws.map tupI)) s5 s6 s7 s8 s9) ⟨_,_,_,_,rfl⟩ (by
  rintro d hd ρ ⟨s5,s6,s7,s8,rfl⟩;have fd:Fi d:=by
   simp only[List.mem_cons,List.not_mem_nil,or_false]at hd;rcases hd with rfl|rfl|rfl
   ·exact f0
   ·exact f1
   ·exact f2
  obtain⟨s6',s7',s8',e⟩:=aKY (ns:=ns) (k:=k) (c:=c) (t:=.tup (rws.map tupI)) (s6:=s6) (s7:=s7) (s8:=s8) (s9:=s9) h low fd;exact⟨_,e,_,_,_,_,rfl⟩)
 obtain⟨ρ',e3,s9',rfl⟩:=vN (a:=gnm 9) (u:=k5C) (I:=λ ρ=>∃s9,ρ=k5 ns k c n ps (.tup (rws.map tupI)) s5' s6' s7' s8' s9) [.fn "is_parting",.fn "plain",.fn "ties_along"] (k5 ns k c n ps (.tup (rws.map tupI)) s5' s6' s7' s8' s9) ⟨_,rfl⟩ (by
  rintro d hd ρ ⟨s9,rfl⟩;obtain⟨f,rfl,hf⟩:∃f:Str,d= .fn f/\(f="is_parting"\/f="plain"\/f="ties_along"):=by
   simp only[List.mem_cons,List.not_mem_nil,or_false]at hd;rcases hd with rfl|rfl|rfl
   ·exact⟨_,rfl,.inl rfl⟩
   ·exact⟨_,rfl,.inr (.inl rfl)⟩
   ·exact⟨_,rfl,.inr (.inr rfl)⟩
  exact⟨_,aK0 hf,_,rfl⟩)
 have u1:k5U (k5 ns k c n ps (.tup (rws.map tupI)) s5 s6 s7 s8 s9)= .ok [.tup (rws.map tupI),d1,d2]:=by simp[k5U,e1',e2']
 have u2:bW (dJ (aA (cD (.fn "is_parting")) (aA (cD (.fn "plain")) (aA (cD (.fn "ties_along")) aF)))) (k5 ns k c n ps (.tup (rws.map tupI)) s5' s6' s7' s8' s9)= .ok [.fn "is_parting",.fn "plain",.fn "ties_along"]:=by simp
 have c2:cU 2 (aM dI (aA (aD 0) (aA (aD 1) aF))) [.sh (.scr ns),.sh (.int k),s2,s3,s4,s5,s6,s7,s8,s9]= .nx [.sh (.scr ns),.sh (.int k),.sh (.int c),s3,s4,s5,s6,s7,s8,s9]:=by simp[ec]
 have c3:cU 3 (aM jD (aA (aD 2) (aA (cD (.int 10)) aF))) [.sh (.scr ns),.sh (.int k),.sh (.int c),s3,s4,s5,s6,s7,s8,s9]= .nx [.sh (.scr ns),.sh (.int k),.sh (.int c),.sh (owD n ps),s4,s5,s6,s7,s8,s9]:=by simp[ew']
 have c4:cU 4 (aM eG (aA (aD 2) (aA (cD (.int 5000)) (aA (aD 3) (aA (aM jE (aA (aD 3) aF)) aF))))) [.sh (.scr ns),.sh (.int k),.sh (.int c),.sh (owD n ps),s4,s5,s6,s7,s8,s9]= .nx (k5 ns k c n ps (.tup (rws.map tupI)) s5 s6 s7 s8 s9):=by simp[el,er']
 refine⟨.sh (.int c),.sh (owD n ps),.sh (.tup (rws.map tupI)),s5',s6',s7',s8',s9',?_⟩;rw[k5K,aN,c2,bG,aN,c3,bG,aN,c4,bG,aN,fj,u1,dF,e,bG,fj,u2,dF,e3]
theorem aGC(ns:List Int)(hn:ns.length<=63):aGt [.scr ns]= .ok (.bl true):=by
 have st:bF 10 [.scr ns]=[.sh (.scr ns),.no,.no,.no,.no,.no,.no,.no,.no,.no]:=rfl;obtain⟨m,hm,hr⟩:∃m:Int,(0<=m/\m<=8)/\k5R [.sh (.scr ns),.no,.no,.no,.no,.no,.no,.no,.no,.no]= .ok (di 0 m):=by
  refine⟨if (if (8:Int)<(ns.length:Int)then 8 else(ns.length:Int))>1 then(if (8:Int)<(ns.length:Int)then 8 else(ns.length:Int))else 1,by split<;>split<;>lia,?_⟩;have e:=pA (j:=if (if (8:Int)<(ns.length:Int)then 8 else(ns.length:Int))>1 then(if (8:Int)<(ns.length:Int)then 8 else(ns.length:Int))else 1) (by split<;>split<;>lia) (by split<;>split<;>lia);simp only[gt_iff_lt]at e;simp[k5R,e]
 obtain⟨ρ',e,s1,s2,s3,s4,s5,s6,s7,s8,s9,rfl⟩:=vN (a:=gnm 1) (u:=k5K) (I:=λ ρ=>∃s1 s2 s3 s4 s5 s6 s7 s8 s9,ρ=[.sh (.scr ns),s1,s2,s3,s4,s5,s6,s7,s8,s9]) (di 0 m) [.sh (.scr ns),.no,.no,.no,.no,.no,.no,.no,.no,.no] ⟨_,_,_,_,_,_,_,_,_,rfl⟩ (by
  rintro d hd ρ ⟨s1,s2,s3,s4,s5,s6,s7,s8,s9,rfl⟩;obtain⟨k,rfl,k0,k1⟩:=aBZ.mp hd;obtain⟨s2',s3',s4',s5',s6',s7',s8',s9',e⟩:=aKZ (ns:=ns) (k:=k) (s2:=s2) (s3:=s3) (s4:=s4) (s5:=s5) (s6:=s6) (s7:=s7) (s8:=s8) (s9:=s9) k0;exact⟨_,e,_,_,_,_,_,_,_,_,_,rfl⟩)
 have z:k5Z [.sh (.scr ns),s1,s2,s3,s4,s5,s6,s7,s8,s9]= .ok (.bl true):=by
  have a1:bQ [.tup [.int 0,.tup []],.tup []]= .ok (.bl true):=rfl;have a2:cj [.tup [.int 0,.tup []],.tup []]= .ok (.tup []):=rfl;have a3:bC [.tup [.int 1,.tup []],.tup [.tup [.int 0]]]= .ok (.tup []):=rfl;have q:eqR false (.tup []) (.tup [])= .ok (.bl true):=rfl;simp[k5Z,a1,a2,a3,q]
 simp only[aGt,aHv,bK,st];rw[aN,fj,hr,dF,e,bG,gM,z];rfl
end
local macro_rules|`(tactic|walk_at "sc")=>`(tactic|exact⟨rfl,rfl,rfl,by decide+kernel,rfl,by decide+kernel,by decide+kernel⟩)
def top(i:Nat):Stmt:=PySem.Challenge.pw_fewways_k05_partings.main.body.getD i (.Pass ⟨0,0,0,0⟩)
abbrev qZ:Stmt:=top 16
abbrev tG:Stmt:=top 17
abbrev q9:Stmt:=top 18
abbrev tE:Stmt:=top 19
abbrev oG:Stmt:=top 20
abbrev gU:Stmt:=top 21
abbrev qb:Stmt:=top 22
abbrev oH:Stmt:=top 23
abbrev vo:Stmt:=top 24
abbrev oJ:Stmt:=top 25
abbrev vm:Stmt:=top 26
abbrev qd:Stmt:=top 27
abbrev mz:Stmt:=top 29
abbrev jt:Stmt:=top 30
abbrev my:Stmt:=top 31
abbrev jW:Stmt:=top 32
abbrev aAC:Stmt:=top 33
abbrev mj:Stmt:=top 34
abbrev lO:Stmt:=top 36
abbrev qX:Stmt:=top 37
abbrev tD:Stmt:=top 38
abbrev qU:Stmt:=top 39
abbrev qW:Stmt:=top 40
abbrev mq:Stmt:=top 41
abbrev iV:Stmt:=top 42
abbrev oA:Stmt:=top 43
abbrev oF:Stmt:=top 44
abbrev oE:Stmt:=top 45
abbrev lN:Stmt:=top 46
abbrev qY:Stmt:=top 47
abbrev pW:Stmt:=top 48
theorem aBJ:aa ["thing"] ["thing"] (aH qZ):=by walk_at "sc"
theorem aCO:aa ["thing"] ["thing"] (aH tG):=by walk_at "sc"
theorem aBK:aa ["many","thing"] ["many","thing"] (aH q9):=by walk_at "sc"
theorem aCN:aa ["many","thing"] ["many","thing"] (aH tE):=by walk_at "sc"
theorem zz:aa ["things","at"] ["things"] (aH oG):=by walk_at "sc"
theorem pM:aa ["many","thing","pair"] ["many","thing"] (aH gU):=by walk_at "sc"
theorem aBL:aa ["many","thing"] ["many","thing"] (aH qb):=by walk_at "sc"
theorem aAA:aa ["many","rows"] ["many","rows"] (aH oH):=by walk_at "sc"
theorem aDz:aa ["thing"] ["thing"] (aH vo):=by walk_at "sc"
theorem aAB:aa ["thing"] ["thing"] (aH oJ):=by walk_at "sc"
theorem aDy:aa ["one","other"] ["one","other"] (aH vm):=by walk_at "sc"
theorem aBM:aa ["web","many","ties","near","low","high"] ["web"] (aH qd):=by walk_at "sc"
theorem yG:aa ["near","thing","place","at"] ["near","thing"] (aH mz):=by walk_at "sc"
theorem uo:aa ["way"] ["way"] (aH jt):=by walk_at "sc"
theorem yF:aa ["web","thing","near","way"] ["web","thing"] (aH my):=by walk_at "sc"
theorem sy:aa ["web","thing"] ["web","thing"] (aH jW):=by walk_at "sc"
theorem aFP:aa ["web","parting"] ["web","parting"] (aH aAC):=by walk_at "sc"
theorem yD:aa ["web","parting"] ["web","parting"] (aH mj):=by walk_at "sc"
theorem vh:aa ["_law_script","_law_k"] ["_law_script","_law_k"] (aH lO):=by walk_at "sc"
theorem aBH:aa ["_law_cell","_law_k","_law_bound","_law_left","_law_j","_law_stir"] ["_law_cell","_law_k","_law_bound"] (aH qX):=by walk_at "sc"
theorem aCM:aa ["_law_cell","_law_most","_law_many","_law_thick","_law_ties","_law_one","_law_other"] ["_law_cell","_law_most"] (aH tD):=by walk_at "sc"
theorem aBF:aa ["_law_web_here","_law_found","_law_one","_law_other"] ["_law_web_here"] (aH qU):=by walk_at "sc"
theorem aBG:aa ["_law_web_here","_law_thing","_law_place","_law_one","_law_other"] ["_law_web_here","_law_thing"] (aH qW):=by walk_at "sc"
theorem yE:aa ["_law_cell","_law_at","_law_web_here","_law_nigh","_law_left","_law_found","_law_way","_law_far","_law_turn","_law_some"] ["_law_cell","_law_at","_law_web_here","_law_nigh"] (aH mq):=by walk_at "sc"
theorem rF:aa ["_law_web_here","_law_thing","_law_places","_law_way"] ["_law_web_here","_law_thing"] (aH iV):=by walk_at "sc"
theorem zu:aa ["_law_parting"] ["_law_parting"] (aH oA):=by walk_at "sc"
theorem zy:aa ["_law_parting","_law_found","_law_way"] ["_law_parting"] (aH oF):=by walk_at "sc"
theorem zx:aa ["_law_error","_law_kinds","_law_words"] ["_law_error"] (aH oE):=by walk_at "sc"
theorem vg:aa ["_law_call","_law_word","_law_error"] ["_law_call"] (aH lN):=by walk_at "sc"
theorem aBI:aa ["_law_cell","_law_web_here","_law_parting","_law_at","_law_way","_law_more","_law_odd","_law_some","_law_rest"] ["_law_cell","_law_web_here","_law_parting"] (aH qY):=by walk_at "sc"
theorem aJY:aa ["_law_script","_law_k","_law_cell","_law_web_here","_law_parting","_law_thing","_law_good","_law_found","_law_told","_law_call"] ["_law_script"] (aH pW):=by walk_at "sc"
set_option genInjectivity false in
set_option genSizeOf false in
structure Adr where
 xG:Addr
 ik:FuncData
 zE:Addr
 jk:FuncData
 xH:Addr
 il:FuncData
 zB:Addr
 ji:FuncData
 uX:Addr
 fV:FuncData
 kO:Addr
 bV:FuncData
 xJ:Addr
 iu:FuncData
 uY:Addr
 gk:FuncData
 aBd:Addr
 mL:FuncData
 uZ:Addr
 gm:FuncData
 aBc:Addr
 mK:FuncData
 xK:Addr
 iw:FuncData
 rn:Addr
 gC:FuncData
 oV:Addr
 dX:FuncData
 jd:Addr
 gB:FuncData
 nY:Addr
 dB:FuncData
 vO:Addr
 nO:FuncData
 jc:Addr
 eF:FuncData
 qG:Addr
 dH:FuncData
 wz:Addr
 fU:FuncData
 zA:Addr
 jh:FuncData
 ww:Addr
 iZ:FuncData
 wy:Addr
 ie:FuncData
 rm:Addr
 gA:FuncData
 mF:Addr
 cV:FuncData
 uU:Addr
 gh:FuncData
 uW:Addr
 gj:FuncData
 uV:Addr
 ue:FuncData
 qF:Addr
 qI:FuncData
 xF:Addr
 ig:FuncData
 aDh:Addr
 zN:FuncData
 pR:Value
 jC:Addr
 nP:Addr
 jA:Addr
 nQ:Addr
 fW:Addr
 iz:Addr
 gf:Addr
 kh:Addr
 gZ:Addr
 jB:Addr
 kZ:Addr
 km:Addr
 nR:Addr
def wdA(t:Adr):Addr->Option Str:=λ C=>(([t.nP,t.jA,t.nQ,t.fW,t.iz,t.gf,t.kh,t.gZ,t.jB,t.kZ,t.km,t.nR]:List Addr).zip (["web","place","way","parting","many","forest","plan","one way","order","text","deed","row"]:List Str)).lookup C
structure Txt(K:PySem.W.Frag)(mg:Str->Option Value)(t:Adr):Prop where
 qp:Dnr K mg "is_whole" qZ ["thing"] t.xG t.ik
 zJ:Dnr K mg "is_many" tG ["thing"] t.zE t.jk
 nM:Dnr K mg "is_place" q9 ["many","thing"] t.xH t.il
 zH:Dnr K mg "is_pair" tE ["many","thing"] t.zB t.ji
 u9:Dnr K mg "is_rising" oG ["things"] t.uX t.fV
 kW:Dnr K mg "are_rising_pairs" gU ["many","thing"] t.kO t.bV
 xR:Dnr K mg "are_ties" qb ["many","thing"] t.xJ t.iu
 uc:Dnr K mg "each_once" oH ["many","rows"] t.uY t.gk
 aBg:Dnr K mg "is_web" vo ["thing"] t.aBd t.mL
 ud:Dnr K mg "check_web" oJ ["thing"] t.uZ t.gm
 aBf:Dnr K mg "tie_of" vm ["one","other"] t.aBc t.mK
 xT:Dnr K mg "all_tied" qd ["web"] t.xK t.iw
 sG:Dnr K mg "goes_along" mz ["near","thing"] t.rn t.gC
 oX:Dnr K mg "lesser_about" jt ["way"] t.oV t.dX
 dw:Dnr K mg "is_parting" my ["web","thing"] t.jd t.gB
 pY:PySem.W.nsIn K mainGlobals "is_parting"=some (some (.ref t.jd))
 jZ:Dnr K mg "check_parting" jW ["web","thing"] t.nY t.dB
 nJ:Dnr K mg "plain" aAC ["web","parting"] t.vO t.nO
 aBX:PySem.W.nsIn K mainGlobals "plain"=some (some (.ref t.vO))
 du:Dnr K mg "ties_along" mj ["web","parting"] t.jc t.eF
 pX:PySem.W.nsIn K mainGlobals "ties_along"=some (some (.ref t.jc))
 qH:Dnr K mg "_law_cell_at" lO ["_law_script","_law_k"] t.qG t.dH
 cZ:Dnr K mg "_law_draw" qX ["_law_cell","_law_k","_law_bound"] t.wz t.fU
 zG:Dnr K mg "_law_web" tD ["_law_cell","_law_most"] t.zA t.jh
 xP:Dnr K mg "_law_near" qU ["_law_web_here"] t.ww t.iZ
 xQ:Dnr K mg "_law_goes" qW ["_law_web_here","_law_thing"] t.wy t.ie
 sE:Dnr K mg "_law_parted" mq ["_law_cell","_law_at","_law_web_here","_law_nigh"] t.rm t.gA
 mG:Dnr K mg "_law_is_parting" iV ["_law_web_here","_law_thing"] t.mF t.cV
 u5:Dnr K mg "_law_plain" oA ["_law_parting"] t.uU t.gh
 u6:Dnr K mg "_law_along" oF ["_law_parting"] t.uW t.gj
 lJ:Dnr K mg "_law_class" oE ["_law_error"] t.uV t.ue
 bz:Dnr K mg "_law_refused" lN ["_law_call"] t.qF t.qI
 qm:Dnr K mg "_law_bent" qY ["_law_cell","_law_web_here","_law_parting"] t.xF t.ig
 aJA:Dnr K mg "law" pW ["_law_script"] t.aDh t.zN
 jK:mg "MOST_PLACES"=some t.pR
 yI:RelV (.int 60) t.pR
 wL:mg "FewError"=some (.ref t.jC)
 l_FewError:bD mg "FewError"=t.jC
 jm:jU K t.jC
 aD7:mg "NoWeb"=some (.ref t.nP)
 aDb:bD mg "NoWeb"=t.nP
 qw:jU K t.nP
 aEN:mg "NoPlace"=some (.ref t.jA)
 aEW:bD mg "NoPlace"=t.jA
 o8:jU K t.jA
 aHo:mg "NoWay"=some (.ref t.nQ)
 aHw:bD mg "NoWay"=t.nQ
 vA:jU K t.nQ
 uN:mg "NoParting"=some (.ref t.fW)
 uQ:bD mg "NoParting"=t.fW
 jN:jU K t.fW
 aEM:mg "TooMany"=some (.ref t.iz)
 aEV:bD mg "TooMany"=t.iz
 o7:jU K t.iz
 aCe:mg "NoForest"=some (.ref t.gf)
 aCl:bD mg "NoForest"=t.gf
 mY:jU K t.gf
 aFx:mg "NoPlan"=some (.ref t.kh)
 aGG:bD mg "NoPlan"=t.kh
 qy:jU K t.kh
 aCd:mg "NoOneWay"=some (.ref t.gZ)
 aCk:bD mg "NoOneWay"=t.gZ
 mX:jU K t.gZ
 aEO:mg "NoOrder"=some (.ref t.jB)
 aEX:bD mg "NoOrder"=t.jB
 o9:jU K t.jB
 aFw:mg "NoText"=some (.ref t.kZ)
 aGF:bD mg "NoText"=t.kZ
 qx:jU K t.kZ
 aFy:mg "NoDeed"=some (.ref t.km)
 aGH:bD mg "NoDeed"=t.km
 qz:jU K t.km
 aHp:mg "NoRow"=some (.ref t.nR)
 aHx:bD mg "NoRow"=t.nR
 vB:jU K t.nR
 aAS:mg "ValueError"=none
 aIx:mg "all"=none
 aC9:mg "bool"=none
 aIw:mg "int"=none
 aR:mg "isinstance"=none
 iT:mg "len"=none
 wJ:mg "list"=none
 aD4:mg "max"=none
 yw:mg "min"=none
 gO:mg "range"=none
 aIv:mg "set"=none
 lq:mg "sorted"=none
 dq:mg "tuple"=none
 aFr:mg "zip"=none
 cb:aCz K t.jC [t.nP,t.jA,t.nQ,t.fW,t.iz,t.gf,t.kh,t.gZ,t.jB,t.kZ,t.km,t.nR]=true
open PySem.Spec PyProof.Rows
section
variable{P:Program}{w:World}{K:PySem.W.Frag}{mg:Str->Option Value}{base:Heap}{t:Adr}
theorem uM(T:Txt K mg t):cg P w K mg base (CX1 P w) 1 t.xG t.ik ["thing"] (spF K (bD mg) 1 lD):=
 bT (k:=0) (f:=ik) T.qp aBJ λ n _ _ _ _ _ _ _=>
  (aL (ak (m9 (iU (aC 0) T.aR T.aIw) (qQ (aJW (iU (aC 0) T.aR T.aC9))))))
theorem aAO(T:Txt K mg t):cg P w K mg base (CX1 P w) 1 t.uX t.fV ["things"] (spF K (bD mg) 1 gq):=
 bT (k:=0) (f:=fV) T.u9 zz λ n _ _ _ _ _ _ _=>
  (aJ (eX (zg (aB aK (aB (gD T.iT (aB (aC 0) aG)) aG)) T.gO) (bx (ks:=[1]))
   (aL (cu (eV (aEy (aY (aC 0) (aFK (aC 1) aK)) (aY (aC 0) (aC 1))))
    (aL (ak dm))
    bO)))
  (aL (ak dm)))
theorem aAP(T:Txt K mg t):cg P w K mg base (CX1 P w) 1 t.uY t.gk ["many","rows"] (spF K (bD mg) 2 gr):=
 bT (k:=0) (f:=gk) T.uc aAA λ n _ _ _ _ _ _ _=>
  (aL (ak (aDR (je T.lq (aB (aIk (N:=["row","place"]) (js:=[none,none]) (ks:=[0]) (ks2:=[1]) (dR (aC 1)) cF lM (dR (aC 0)) cF lM (bI (aC 1))) aG)) (qT T.wJ T.gO (aC 0)))))
theorem aEG(T:Txt K mg t):cg P w K mg base (CX1 P w) 1 t.aBc t.mK ["one","other"] (spF K (bD mg) 2 iQ):=
 bT (k:=0) (f:=mK) T.aBf aDy λ n _ _ _ _ _ _ _=>
  (aL (ak (bN (aB (vG T.yw (aB (aC 0) (aB (aC 1) aG))) (aB (vH T.aD4 (aB (aC 0) (aB (aC 1) aG))) aG)))))
theorem aBW(T:Txt K mg t):cg P w K mg base (CX1 P w) 1 t.xK t.iw ["web"] (spF K (bD mg) 1 jF):=
 bT (k:=0) (f:=iw) T.xT aBM λ n _ _ _ _ _ _ _=>
  (aJ (aJR (aC 0) (qO (n:=2) (dC (bx (ks:=[1,2])) (dC (bx (ks:=[1,2])) m7))))
  (aJ (aIj (N:=["place"]) (js:=[none]) (ks:=[0]) (ou (aB (aC 1) aG) T.gO) cF)
  (aJ (eX (dR (aC 2)) (qO (n:=2) (dC (bx (ks:=[4,5])) (dC (bx (ks:=[4,5])) m7)))
   (aJ (m6 3 (aC 4) (bI (aC 5)))
   (aL (m6 3 (aC 5) (bI (aC 4))))))
  (aL (ak (m8 3))))))
theorem ur(T:Txt K mg t):cg P w K mg base (CX1 P w) 1 t.oV t.dX ["way"] (spF K (bD mg) 1 dg):=
 bT (k:=0) (f:=dX) T.oX uo λ n _ _ _ _ _ _ _=>
  (aL (ak (aBC T.yw (aB (aC 0) (aB (zp (aC 0)) aG)))))
theorem wD(T:Txt K mg t):cg P w K mg base (CX1 P w) 1 t.qG t.dH ["_law_script","_law_k"] (spF K (bD mg) 2 dI):=
 bT (k:=0) (f:=dH) T.qH vh λ n _ _ _ _ _ _ _=>
  (aJ (cu (aEy (aC 1) (gD T.iT (aB (aC 0) aG)))
   (aL (ak (bI (aY (aC 0) (aC 1)))))
   bO)
  (aL (ak aK)))
theorem cR(T:Txt K mg t):cg P w K mg base (CX1 P w) 1 t.wz t.fU ["_law_cell","_law_k","_law_bound"] (spF K (bD mg) 3 aX):=
 bT (k:=0) (f:=fU) T.cZ aBH λ n _ _ _ _ _ _ _=>
  (aJ (cu (aLI (aC 0) (aJV aK aK))
   (aJ (cQ (i:=3) (jq (aC 0)))
   (aJ (eX (ou (aB (aC 1) aG) T.gO) (bx (ks:=[4]))
    (aJ (cu (aDK (aC 3) aK)
     (aL (ak aK))
     bO)
    (aL (cQ (i:=3) (jq (aDQ (aC 3) (aC 2)))))))
   (aL (ak (qR (aC 3) (aC 2))))))
   bO)
  (aJ (cQ (i:=5) (jq (qR (su (bY (bY (qR (aC 0) aK) (su aK (aC 1))) aK) aK) aK)))
  (aJ (cQ (i:=5) (jq (qR (bY (bY (su (aC 5) (aC 5)) (su aK (aC 1))) aK) aK)))
  (aL (ak (qR (aDQ (qR (su (aC 5) aK) aK) aK) (aC 2)))))))
theorem aBT(T:Txt K mg t):cg P w K mg base (CX1 P w) 1 t.ww t.iZ ["_law_web_here"] (spF K (bD mg) 1 jE):=
 bT (k:=0) (f:=iZ) T.xP aBF λ n _ _ _ _ _ _ _=>
  (aJ (aIj (N:=["_law_place"]) (js:=[none]) (ks:=[0]) (ou (aB (aY (aC 0) aK) aG) T.gO) cF)
  (aJ (eX (dR (aY (aC 0) aK)) (qO (n:=2) (dC (bx (ks:=[2,3])) (dC (bx (ks:=[2,3])) m7)))
   (aJ (m6 1 (aC 2) (bI (aC 3)))
   (aL (m6 1 (aC 3) (bI (aC 2))))))
  (aL (ak (m8 1)))))
theorem aBU(T:Txt K mg t):cg P w K mg base (CX1 P w) 1 t.wy t.ie ["_law_web_here","_law_thing"] (spF K (bD mg) 2 lC):=
 bT (k:=0) (f:=ie) T.xQ aBG λ n _ _ _ _ _ _ _=>
  (aJ (cu (SW.st (rC (eV (eU (iU (aC 1) T.aR T.dq))) (nj (aDK (aC 1) (bN aG)))))
   (aL (ak dm))
   bO)
  (aJ (eX (dR (aC 1)) (bx (ks:=[2]))
   (aL (cu (SW.st (rC (eV (eU (iU (aC 2) T.aR T.aIw))) (rC (eU (iU (aC 2) T.aR T.aC9)) (nj (eV (aHH aK (aC 2) (aY (aC 0) aK)))))))
    (aL (ak dm))
    bO)))
  (aJ (cu (nu (aDP T.iT (aB (aFL T.aIv (aB (aC 1) aG)) aG)) (gD T.iT (aB (aC 1) aG)))
   (aL (ak dm))
   bO)
  (aJ (eX (aCJ (aB (aC 1) (aB (cN (aC 1) (dM aK) dN) aG)) T.aFr) (qO (n:=2) (dC (bx (ks:=[3,4])) (dC (bx (ks:=[3,4])) m7)))
   (aL (cu (v7 (bN (aB (vG T.yw (aB (aC 3) (aB (aC 4) aG))) (aB (vH T.aD4 (aB (aC 3) (aB (aC 4) aG))) aG))) (aY (aC 0) aK))
    (aL (ak dm))
    bO)))
  (aL (ak dm))))))
theorem aAL(T:Txt K mg t):cg P w K mg base (CX1 P w) 1 t.uU t.gh ["_law_parting"] (spF K (bD mg) 1 jR):=
 bT (k:=0) (f:=gh) T.u5 zu λ n _ _ _ _ _ _ _=>
  (aL (ak (jr T.dq (aB (je T.lq (aB (vf (N:=["_law_way"]) (js:=[none]) (ks:=[0]) (dR (aC 0)) cF lM (aBC T.yw (aB (aC 0) (aB (zp (aC 0)) aG)))) aG)) aG))))
theorem aAN(T:Txt K mg t):cg P w K mg base (CX1 P w) 1 t.uW t.gj ["_law_parting"] (spF K (bD mg) 1 jT):=
 bT (k:=0) (f:=gj) T.u6 zy λ n _ _ _ _ _ _ _=>
  (aJ (mZ (i:=1) (v5 (vd aG)))
  (aJ (eX (dR (aC 0)) (bx (ks:=[2]))
   (aL (aDu 1 (vf (N:=["_law_one","_law_other"]) (js:=[none,none]) (ks:=[0,1]) (aCJ (aB (aC 2) (aB (cN (aC 2) (dM aK) dN) aG)) T.aFr) (qO (n:=2) (dC cF (dC cF m7))) lM (bN (aB (vG T.yw (aB (aC 0) (aB (aC 1) aG))) (aB (vH T.aD4 (aB (aC 0) (aB (aC 1) aG))) aG)))))))
  (aL (ak (jr T.dq (aB (je T.lq (aB (aFJ 1) aG)) aG))))))
theorem aAM(T:Txt K mg t):FnH P w K mg base 1 t.uV t.ue ["_law_error"] (spW (wdA t)):=
 aGf (c1:=.ref t.jC) (c2:=.ty "ValueError") (k1:=[.ref t.nP,.ref t.jA,.ref t.nQ]) (k2:=[.ref t.fW,.ref t.iz,.ref t.gf]) (k3:=[.ref t.kh,.ref t.gZ,.ref t.jB]) (k4:=[.ref t.kZ,.ref t.km,.ref t.nR]) (l1:=["web","place","way","parting","many","forest","plan","one way"]) (l2:=["order","text","deed","row"]) T.lJ.F zx rfl rfl rfl rfl (λ cdv A outer s H=>⟨(iM rfl rfl rfl T.aR (fJ (v:=.ref t.jC) rfl T.wL rfl)),(iM rfl rfl rfl T.aR (aDX (v:=.ty "ValueError") (u:=.type "ValueError") rfl T.aAS rfl rfl)),(az (iM rfl rfl rfl T.aR (fJ (v:=.ref t.nP) rfl T.aD7 rfl)) (az (iM rfl rfl rfl T.aR (fJ (v:=.ref t.jA) rfl T.aEN rfl)) (az (iM rfl rfl rfl T.aR (fJ (v:=.ref t.nQ) rfl T.aHo rfl)) dU))),(az (iM rfl rfl rfl T.aR (fJ (v:=.ref t.fW) rfl T.uN rfl)) (az (iM rfl rfl rfl T.aR (fJ (v:=.ref t.iz) rfl T.aEM rfl)) (az (iM rfl rfl rfl T.aR (fJ (v:=.ref t.gf) rfl T.aCe rfl)) dU))),(az (iM rfl rfl rfl T.aR (fJ (v:=.ref t.kh) rfl T.aFx rfl)) (az (iM rfl rfl rfl T.aR (fJ (v:=.ref t.gZ) rfl T.aCd rfl)) (az (iM rfl rfl rfl T.aR (fJ (v:=.ref t.jB) rfl T.aEO rfl)) dU))),(az (iM rfl rfl rfl T.aR (fJ (v:=.ref t.kZ) rfl T.aFw rfl)) (az (iM rfl rfl rfl T.aR (fJ (v:=.ref t.km) rfl T.aFy rfl)) (az (iM rfl rfl rfl T.aR (fJ (v:=.ref t.nR) rfl T.aHp rfl)) dU))),(az gF (az gF (az gF (az gF (az gF (az gF (az gF (az gF dU)))))))),(az gF (az gF (az gF (az gF dU))))⟩) rfl rfl (by decide) λ C w h=>(aIg T.cb h).1
theorem aC8(T:Txt K mg t):cg P w K mg base (CX1 P w) 2 t.zE t.jk ["thing"] (spF K (bD mg) 1 pL):=
 bT (k:=1) (f:=jk) T.zJ aCO λ n _ _ _ _ _ _ _=>
  (aL (ak (m9 (bB (uM T) T.qp (aB (aC 0) aG)) (qQ (aHO aK (aC 0) (vI T.jK T.yI (λ _ _=>.int _)))))))
theorem oM(T:Txt K mg t):cg P w K mg base (CX1 P w) 2 t.xH t.il ["many","thing"] (spF K (bD mg) 2 cM):=
 bT (k:=1) (f:=il) T.nM aBK λ n _ _ _ _ _ _ _=>
  (aL (ak (m9 (bB (uM T) T.qp (aB (aC 1) aG)) (qQ (aHN aK (aC 1) (aC 0))))))
theorem aC6(T:Txt K mg t):cg P w K mg base (CX1 P w) 2 t.zA t.jh ["_law_cell","_law_most"] (spF K (bD mg) 2 jD):=
 bT (k:=1) (f:=jh) T.zG aCM λ n _ _ _ _ _ _ _=>
  (aJ (cQ (i:=2) (jq (bB (cR T) T.cZ (aB (aC 0) (aB aK (aB (bY (aC 1) aK) aG))))))
  (aJ (cQ (i:=3) (jq (bY aK (bB (cR T) T.cZ (aB (aC 0) (aB aK (aB aK aG)))))))
  (aJ (mZ (i:=4) (v5 (vd aG)))
  (aJ (eX (ou (aB (aC 2) aG) T.gO) (bx (ks:=[5]))
   (aL (eX (zg (aB (bY (aC 5) aK) (aB (aC 2) aG)) T.gO) (bx (ks:=[6]))
    (aL (cu (aEy (bB (cR T) T.cZ (aB (aC 0) (aB (bY (bY aK (su aK (aC 5))) (aC 6)) (aB aK aG)))) (aC 3))
     (aL (sX 4 (bN (aB (bI (aC 5)) (aB (bI (aC 6)) aG)))))
     bO)))))
  (aL (ak (bN (aB (bI (aC 2)) (aB (jr T.dq (aB (m8 4) aG)) aG)))))))))
theorem yJ(T:Txt K mg t):cg P w K mg base (CX1 P w) 2 t.rm t.gA ["_law_cell","_law_at","_law_web_here","_law_nigh"] (spF K (bD mg) 4 eG):=
 bT (k:=1) (f:=gA) T.sE yE λ n _ _ _ _ _ _ _=>
  (aJ (rE (i:=4) (jq (qT T.wJ T.gO (aY (aC 2) aK))))
  (aJ (mZ (i:=5) (v5 (vd aG)))
  (aJ (aFB (nu (iJ 4) (jV aG))
   (aJ (cQ (i:=6) (jq (bN (aB (aY (iJ 4) (bB (cR T) T.cZ (aB (aC 0) (aB (bY (aC 1) (gD T.iT (aB (iJ 4) aG))) (aB (gD T.iT (aB (iJ 4) aG)) aG))))) aG))))
   (aJ (cQ (i:=7) (jq (bB (cR T) T.cZ (aB (aC 0) (aB (bY (bY (aC 1) aK) (gD T.iT (aB (iJ 4) aG))) (aB (bY (aY (aC 2) aK) aK) aG))))))
   (aJ (eX (ou (aB (aC 7) aG) T.gO) (bx (ks:=[8]))
    (aJ (rE (i:=9) (aLG (N:=["_law_place","_law_left","_law_way"]) (js:=[none,some 4,some 6]) (ks:=[0]) (dR (aY (aC 3) (aY (aC 6) (aFM aK)))) cF (aCK (SW.st (aJQ (aLH (aC 0) (aC 1)) (aHG (v7 (aC 0) (aC 2)))))) (bI (aC 0))))
    (aL (cu (nu (iJ 9) (jV aG))
     (aL (cQ (i:=6) (jq (bY (aC 6) (bN (aB (aY (iJ 9) (bB (cR T) T.cZ (aB (aC 0) (aB (bY (bY (aC 1) aK) (aC 8)) (aB (gD T.iT (aB (iJ 9) aG)) aG))))) aG))))))
     bO))))
   (aJ (rE (i:=4) (jq (vf (N:=["_law_place","_law_way"]) (js:=[none,some 6]) (ks:=[0]) (dR (aC 4)) cF (aCK (v7 (aC 0) (aC 1))) (bI (aC 0)))))
   (aL (sX 5 (bI (aC 6)))))))))
  (aL (ak (jr T.dq (aB (m8 5) aG)))))))
theorem rM(T:Txt K mg t):cg P w K mg base (CX1 P w) 2 t.mF t.cV ["_law_web_here","_law_thing"] (spF K (bD mg) 2 dh):=
 bT (k:=1) (f:=cV) T.mG rF λ n _ _ _ _ _ _ _=>
  (aJ (cu (SW.st (rC (eV (eU (iU (aC 1) T.aR T.dq))) (nj (eV (eU (aFO T.aIx (aB (vf (N:=["_law_way","_law_web_here"]) (js:=[none,some 0]) (ks:=[0]) (dR (aC 1)) cF lM (bB (aBU T) T.xQ (aB (aC 1) (aB (aC 0) aG)))) aG)))))))
   (aL (ak dm))
   bO)
  (aJ (mZ (i:=2) (v5 (vd aG)))
  (aJ (eX (dR (aC 1)) (bx (ks:=[3]))
   (aL (aCH 2 (bI (aC 3)))))
  (aL (ak (aDR (je T.lq (aB (aFJ 2) aG)) (qT T.wJ T.gO (aY (aC 0) aK))))))))
theorem uL(T:Txt K mg t):cg P w K mg base (CX1 P w) 2 t.xF t.ig ["_law_cell","_law_web_here","_law_parting"] (spF K (bD mg) 3 eO):=
 bT (k:=1) (f:=ig) T.qm aBI λ n _ _ _ _ _ _ _=>
  (aJ (cu (aDK (aC 2) (bN aG))
   (aL (ak (aY (jV (aB (bN (aB (bN aG) aG)) (aB (bN (aB (bN (aB aK aG)) aG)) (aB (jV aG) (aB zq (aB aK (aB sr aG))))))) (bB (cR T) T.cZ (aB (aC 0) (aB aK (aB aK aG)))))))
   bO)
  (aJ (cQ (i:=3) (jq (bB (cR T) T.cZ (aB (aC 0) (aB aK (aB (gD T.iT (aB (aC 2) aG)) aG))))))
  (aJ (cQ (i:=4) (jq (aY (aC 2) (aC 3))))
  (aJ (cQ (i:=5) (jq (aY (aC 2) (qR (bY (aC 3) aK) (gD T.iT (aB (aC 2) aG))))))
  (aJ (rE (i:=6) (jq (jV (aB (bI (zp (aC 4))) (aB (bI (cN (aC 4) (dM aK) dN)) (aB (bI (cN (aC 4) dN (dM (aFM aK)))) (aB (bY (bI (aC 4)) (bI (cN (aC 4) dN (dM aK)))) (aB (bN (aB (bI (aY (aC 1) aK)) aG)) (aB (aDO T.wJ (aB (bI (aC 4)) aG)) (aB zq (aB (bY (bI (cN (aC 5) dN (dM aK))) (bI (cN (aC 4) (dM aK) dN))) (aB (bN (aB dm aG)) (aB (bY (bI (aC 4)) (bN (aB aK aG))) aG)))))))))))))
  (aJ (mZ (i:=7) (v5 (vd (aB (bY (bY (bI (cN (aC 2) dN (dM (aC 3)))) (bN (aB (aY (iJ 6) (bB (cR T) T.cZ (aB (aC 0) (aB aK (aB aK aG))))) aG))) (bI (cN (aC 2) (dM (bY (aC 3) aK)) dN))) (aB (bY (bI (cN (aC 2) dN (dM (aC 3)))) (bI (cN (aC 2) (dM (bY (aC 3) aK)) dN))) aG)))))
  (aJ (mZ (i:=7) (v5 (aFH (m8 7) (jV (aB (bY (bI (aC 2)) (bN (aB (bI (aC 4)) aG))) (aB (bY (bY (bI (cN (aC 2) dN (dM (aC 3)))) (bN (aB (bI (cN (aC 4) dN (dM aK))) (aB (bI (cN (aC 4) (dM aK) dN)) aG)))) (bI (cN (aC 2) (dM (bY (aC 3) aK)) dN))) (aB (aDO T.wJ (aB (bI (aC 2)) aG)) aG)))))))
  (aJ (sX 7 (bN (aB (bI (aC 2)) aG)))
  (aJ (cQ (i:=8) (jq (jr T.dq (aB (vf (N:=["_law_each","_law_way","_law_more"]) (js:=[none,some 4,some 5]) (ks:=[0]) (dR (aC 2)) cF (aCK (v7 (aC 0) (bN (aB (aC 1) (aB (aC 2) aG))))) (bI (aC 0))) aG))))
  (aJ (mZ (i:=7) (v5 (aFH (m8 7) (jV (aB (bY (bN (aB (bY (bI (aC 4)) (bI (aC 5))) aG)) (bI (aC 8))) (aB (bI (zp (aC 2))) (aB zq (aB (bI (aC 4)) aG))))))))
  (aL (ak (aY (m8 7) (aY (jV (aB aK (aB aK (aB aK (aB aK (aB aK (aB aK (aB aK (aB aK (aB aK (aB aK (aB aK (aB aK (aB aK aG)))))))))))))) (bB (cR T) T.cZ (aB (aC 0) (aB aK (aB aK aG))))))))))))))))))
theorem aC7(T:Txt K mg t):cg P w K mg base (CX1 P w) 3 t.zB t.ji ["many","thing"] (spF K (bD mg) 2 mV):=
 bT (k:=2) (f:=ji) T.zH aCN λ n _ _ _ _ _ _ _=>
  (aJ (cu (SW.st (rC (eV (eU (iU (aC 1) T.aR T.dq))) (nj (nu (gD T.iT (aB (aC 1) aG)) aK))))
   (aL (ak dm))
   bO)
  (aL (ak (m9 (bB (oM T) T.nM (aB (aC 0) (aB (aY (aC 1) aK) aG))) (m9 (bB (oM T) T.nM (aB (aC 0) (aB (aY (aC 1) aK) aG))) (qQ (aLL (aY (aC 1) aK) (aY (aC 1) aK))))))))
theorem yK(T:Txt K mg t):cg P w K mg base (CX1 P w) 3 t.rn t.gC ["near","thing"] (spF K (bD mg) 2 cC):=
 bT (k:=2) (f:=gC) T.sG yG λ n _ _ _ _ _ _ _=>
  (aJ (cu (SW.st (rC (eV (eU (iU (aC 1) T.aR T.dq))) (nj (aDK (gD T.iT (aB (aC 1) aG)) aK))))
   (aL (ak dm))
   bO)
  (aJ (eX (dR (aC 1)) (bx (ks:=[2]))
   (aL (cu (eV (eU (bB (oM T) T.nM (aB (gD T.iT (aB (aC 0) aG)) (aB (aC 2) aG)))))
    (aL (ak dm))
    bO)))
  (aJ (cu (nu (aDP T.iT (aB (aFL T.aIv (aB (aC 1) aG)) aG)) (gD T.iT (aB (aC 1) aG)))
   (aL (ak dm))
   bO)
  (aJ (eX (zg (aB aK (aB (gD T.iT (aB (aC 1) aG)) aG)) T.gO) (bx (ks:=[3]))
   (aL (cu (v7 (aY (aC 1) (aC 3)) (aY (aC 0) (aY (aC 1) (aFK (aC 3) aK))))
    (aL (ak dm))
    bO)))
  (aL (ak dm))))))
theorem pO(T:Txt K mg t):cg P w K mg base (CX1 P w) 4 t.kO t.bV ["many","thing"] (spF K (bD mg) 2 bh):=
 bT (k:=3) (f:=bV) T.kW pM λ n _ _ _ _ _ _ _=>
  (aJ (cu (eV (eU (iU (aC 1) T.aR T.dq)))
   (aL (ak dm))
   bO)
  (aJ (eX (dR (aC 1)) (bx (ks:=[2]))
   (aL (cu (eV (eU (bB (aC7 T) T.zH (aB (aC 0) (aB (aC 2) aG)))))
    (aL (ak dm))
    bO)))
  (aL (ak (bB (aAO T) T.u9 (aB (aC 1) aG))))))
theorem aBV(T:Txt K mg t):cg P w K mg base (CX1 P w) 5 t.xJ t.iu ["many","thing"] (spF K (bD mg) 2 nU):=
 bT (k:=4) (f:=iu) T.xR aBL λ n _ _ _ _ _ _ _=>
  (aL (ak (m9 (bB (pO T) T.kW (aB (aC 0) (aB (aC 1) aG))) (qQ (aFO T.aIx (aB (vf (N:=["low","high"]) (js:=[none,none]) (ks:=[0,1]) (dR (aC 1)) (qO (n:=2) (dC cF (dC cF m7))) lM (aLM (aC 0) (aC 1))) aG))))))
theorem aEH(T:Txt K mg t):cg P w K mg base (CX1 P w) 6 t.aBd t.mL ["thing"] (spF K (bD mg) 1 sV):=
 bT (k:=5) (f:=mL) T.aBg aDz λ n _ _ _ _ _ _ _=>
  (aJ (cu (SW.st (rC (eV (eU (iU (aC 0) T.aR T.dq))) (nj (nu (gD T.iT (aB (aC 0) aG)) aK))))
   (aL (ak dm))
   bO)
  (aL (ak (m9 (bB (aC8 T) T.zJ (aB (aY (aC 0) aK) aG)) (qQ (bB (aBV T) T.xR (aB (aY (aC 0) aK) (aB (aY (aC 0) aK) aG))))))))
theorem aAQ(T:Txt K mg t):cg P w K mg base (CX1 P w) 7 t.uZ t.gm ["thing"] (spF K (bD mg) 1 gw):=
 bT (k:=6) (f:=gm) T.ud aAB λ n _ _ _ _ _ _ _=>
  (aL (cu (eV (eU (bB (aEH T) T.aBg (aB (aC 0) aG))))
   (aL (aAw rfl T.aD7 T.aDb T.qw (aB sr aG)))
   bO))
theorem jJ(T:Txt K mg t):cg P w K mg base (CX1 P w) 8 t.jd t.gB ["web","thing"] (spF K (bD mg) 2 bQ):=
 bT (k:=7) (f:=gB) T.dw yF λ n _ _ _ _ _ _ _=>
  (aJ (z9 (bB (aAQ T) T.ud (aB (aC 0) aG)))
  (aJ (cu (eV (eU (iU (aC 1) T.aR T.dq)))
   (aL (ak dm))
   bO)
  (aJ (cQ (i:=2) (jq (bB (aBW T) T.xT (aB (aC 0) aG))))
  (aJ (eX (dR (aC 1)) (bx (ks:=[3]))
   (aL (cu (eV (eU (bB (yK T) T.sG (aB (aC 2) (aB (aC 3) aG)))))
    (aL (ak dm))
    bO)))
  (aL (ak (bB (aAP T) T.uc (aB (aY (aC 0) aK) (aB (aC 1) aG)))))))))
theorem lY(T:Txt K mg t):cg P w K mg base (CX1 P w) 9 t.nY t.dB ["web","thing"] (spF K (bD mg) 2 bZ):=
 bT (k:=8) (f:=dB) T.jZ sy λ n _ _ _ _ _ _ _=>
  (aL (cu (eV (eU (bB (jJ T) T.dw (aB (aC 0) (aB (aC 1) aG)))))
   (aL (aAw rfl T.uN T.uQ T.jN (aB sr aG)))
   bO))
theorem rK(T:Txt K mg t):cg P w K mg base (CX1 P w) 10 t.vO t.nO ["web","parting"] (spF K (bD mg) 2 cj):=
 bT (k:=9) (f:=nO) T.nJ aFP λ n _ _ _ _ _ _ _=>
  (aJ (z9 (bB (lY T) T.jZ (aB (aC 0) (aB (aC 1) aG))))
  (aL (ak (jr T.dq (aB (je T.lq (aB (vf (N:=["way"]) (js:=[none]) (ks:=[0]) (dR (aC 1)) cF lM (bB (ur T) T.oX (aB (aC 0) aG))) aG)) aG)))))
theorem jH(T:Txt K mg t):cg P w K mg base (CX1 P w) 10 t.jc t.eF ["web","parting"] (spF K (bD mg) 2 bC):=
 bT (k:=9) (f:=eF) T.du yD λ n _ _ _ _ _ _ _=>
  (aJ (z9 (bB (lY T) T.jZ (aB (aC 0) (aB (aC 1) aG))))
  (aL (ak (jr T.dq (aB (je T.lq (aB (aIk (N:=["way","one","other"]) (js:=[none,none,none]) (ks:=[0]) (ks2:=[1,2]) (dR (aC 1)) cF lM (aCJ (aB (aC 0) (aB (cN (aC 0) (dM aK) dN) aG)) T.aFr) (qO (n:=2) (dC cF (dC cF m7))) lM (bB (aEG T) T.aBf (aB (aC 1) (aB (aC 2) aG)))) aG)) aG)))))
theorem jy(T:Txt K mg t):cg P w K mg base (CX1 P w) 12 t.qF t.qI ["_law_call"] (spR P w K mg base 11 "told" (wdA t)):=
 aCT T.bz.F vg rfl rfl rfl rfl rfl rfl T.wL T.jm (aAM T) T.lJ.m T.lJ.F.kp T.lJ.b (by decide) λ C w h=>(aIg T.cb h).2
theorem aEm(T:Txt K mg t):∀c w,wdN c=some w->wdA t (bD mg c)=some w:=aKs (ns:=["NoWeb","NoPlace","NoWay","NoParting","TooMany","NoForest","NoPlan","NoOneWay","NoOrder","NoText","NoDeed","NoRow"]) T.cb (by simp only[List.map,T.aDb,T.aEW,T.aHw,T.uQ,T.aEV,T.aCl,T.aGG,T.aCk,T.aEX,T.aGF,T.aGH,T.aHx])
theorem aLe(T:Txt K mg t){c Pt:Addr}{s:Shared}{H:Hp}(hr:fY 12 (callerA.deeper (envOfC "law" (aH pW) s.heap.objs.size t.aDh (.ref c))))(Lx:um (cxW P w K mg base ["_law_script","_law_k","_law_cell","_law_web_here","_law_parting","_law_thing","_law_good","_law_found","_law_told","_law_call"] "law" (aH pW) t.aDh (.ref c) callerA s H Pt) Pt)(n:List.Nodup (["_law_script","_law_k","_law_cell","_law_web_here","_law_parting","_law_thing","_law_good","_law_found","_law_told","_law_call"]:List Str)):
  SSs (ctW P w K mg base ["_law_script","_law_k","_law_cell","_law_web_here","_law_parting","_law_thing","_law_good","_law_found","_law_told","_law_call"] "law" (aH pW) t.aDh (.ref c) callerA s H Pt 12 hr) (eE pW) zN:=
  (aJ (eX (ou (aB (vH T.aD4 (aB aK (aB (vG T.yw (aB (gD T.iT (aB (aC 0) aG)) (aB aK aG))) aG))) aG) T.gO) (bx (ks:=[1]))
   (aJ (cQ (i:=2) (jq (bB (wD T) T.qH (aB (aC 0) (aB (aC 1) aG)))))
   (aJ (cQ (i:=3) (jq (bB (aC6 T) T.zG (aB (aC 2) (aB aK aG)))))
   (aJ (cQ (i:=4) (jq (bB (yJ T) T.sE (aB (aC 2) (aB aK (aB (aC 3) (aB (bB (aBT T) T.xP (aB (aC 3) aG)) aG)))))))
   (aJ (eX (dR (jV (aB (aC 4) (aB (bB (uL T) T.qm (aB (aC 2) (aB (aC 3) (aB (aC 4) aG)))) (aB (bB (uL T) T.qm (aB (bY (aC 2) aK) (aB (aC 3) (aB (aC 4) aG)))) aG))))) (bx (ks:=[5]))
    (aJ (cQ (i:=6) (jq (bB (rM T) T.mG (aB (aC 3) (aB (aC 5) aG)))))
    (aJ (cQ (i:=7) (jq (bB (jJ T) T.dw (aB (aC 3) (aB (aC 5) aG)))))
    (aJ (cu (SW.st (rC (eV (eU (iU (aC 7) T.aR T.aC9))) (nj (nu (aC 7) (aC 6)))))
     (aL (ak dm))
     bO)
    (aL (cu (eU (aC 6))
     (aJ (rE (i:=8) (jq (jV (aB (bB (rK T) T.nJ (aB (aC 3) (aB (aC 5) aG))) (aB (bB (jH T) T.du (aB (aC 3) (aB (aC 5) aG))) aG)))))
     (aL (cu (SW.st (rC (nu (iJ 8) (jV (aB (bB (aAL T) T.u5 (aB (aC 5) aG)) (aB (bB (aAN T) T.u6 (aB (aC 5) aG)) aG)))) (nj (eV (eU (iU (aY (iJ 8) aK) T.aR T.dq))))))
      (aL (ak dm))
      bO)))
     (aJ (cu (nu (aCL (k:=12) (k0:=11) (kb:=10) (wn:=wdN) (wd:=wdA t) (λ _=>jy T) (Nat.le_of_ble_eq_true rfl) T.bz.m T.bz.F.kp T.bz.b (λ _=>⟨⟨_,Lx⟩,rfl,rfl,rfl⟩) ⟨rfl,rfl,rfl,by decide+kernel,by decide+kernel⟩ rfl (aEm T) (by decide) (λ _ _ _ _ _ _ _ _ _ _=>(bB (rK T) T.nJ (aB (aC 3) (aB (aC 5) aG)))) (hfree:=λ _=>wY (sc:=aH pW) (by decide+kernel))) sr)
      (aL (ak dm))
      bO)
     (aL (cu (nu (aCL (k:=12) (k0:=11) (kb:=10) (wn:=wdN) (wd:=wdA t) (λ _=>jy T) (Nat.le_of_ble_eq_true rfl) T.bz.m T.bz.F.kp T.bz.b (λ _=>⟨⟨_,Lx⟩,rfl,rfl,rfl⟩) ⟨rfl,rfl,rfl,by decide+kernel,by decide+kernel⟩ rfl (aEm T) (by decide) (λ _ _ _ _ _ _ _ _ _ _=>(bB (jH T) T.du (aB (aC 3) (aB (aC 5) aG)))) (hfree:=λ _=>wY (sc:=aH pW) (by decide+kernel))) sr)
      (aL (ak dm))
      bO)))))))))
   (aL (eX (dR (jV (aB (vI (v:=.ref t.jd) T.dw.m rfl (λ _ _=>.fn T.pY)) (aB (vI (v:=.ref t.vO) T.nJ.m rfl (λ _ _=>.fn T.aBX)) (aB (vI (v:=.ref t.jc) T.du.m rfl (λ _ _=>.fn T.pX)) aG))))) (bx (ks:=[9]))
    (aL (cu (nu (aCL (k:=12) (k0:=11) (kb:=10) (wn:=wdN) (wd:=wdA t) (λ _=>jy T) (Nat.le_of_ble_eq_true rfl) T.bz.m T.bz.F.kp T.bz.b (λ _=>⟨⟨_,Lx⟩,rfl,rfl,rfl⟩) ⟨rfl,rfl,rfl,by decide+kernel,by decide+kernel⟩ rfl (aEm T) (by decide) (λ _ _ _ _ _ _ _ _ _ _=>(aFN (i:=9) (vY (jJ T) (Nat.le_of_ble_eq_true rfl) T.pY T.dw.F.kp T.dw.b (vY (rK T) (Nat.le_of_ble_eq_true rfl) T.aBX T.nJ.F.kp T.nJ.b (vY (jH T) (Nat.le_of_ble_eq_true rfl) T.pX T.du.F.kp T.du.b aHE))) (aB (bN (aB aK (aB (bN (aB (bN (aB aK (aB aK aG))) aG)) aG))) (aB zq aG)) (wV (wV (λ _ _ h=>aD9 h))))) (hfree:=λ _=>wY (sc:=aH pW) (by decide+kernel))) sr)
     (aL (ak dm))
     bO)))))))))
  (aL (ak (m9 (aLN (bB (jJ T) T.dw (aB (bN (aB aK (aB (bN aG) aG))) (aB (bN aG) aG))) dm) (m9 (aDR (bB (rK T) T.nJ (aB (bN (aB aK (aB (bN aG) aG))) (aB (bN aG) aG))) (bN aG)) (qQ (aDR (bB (jH T) T.du (aB (bN (aB aK (aB (bN aG) aG))) (aB (bN (aB (bN (aB aK aG)) aG)) aG))) (bN aG))))))))
end
theorem aJI{K:PySem.W.Frag}{h:Heap}{mg:Str->Option Value}{tk_MOST_PLACES:Tok}{q_FewError:Addr}{q_NoWeb:Addr}{q_NoPlace:Addr}{q_NoWay:Addr}{q_NoParting:Addr}{q_TooMany:Addr}{q_NoForest:Addr}{q_NoPlan:Addr}{q_NoOneWay:Addr}{q_NoOrder:Addr}{q_NoText:Addr}{q_NoDeed:Addr}{q_NoRow:Addr}(X:K.In h)(G:h.Ns mainGlobals mg)
  (h0:∃f d,Enr K "is_whole" qZ f d)
  (h1:∃f d,Enr K "is_many" tG f d)
  (h2:∃f d,Enr K "is_place" q9 f d)
  (h3:∃f d,Enr K "is_pair" tE f d)
  (h4:∃f d,Enr K "is_rising" oG f d)
  (h5:∃f d,Enr K "are_rising_pairs" gU f d)
  (h6:∃f d,Enr K "are_ties" qb f d)
  (h7:∃f d,Enr K "each_once" oH f d)
  (h8:∃f d,Enr K "is_web" vo f d)
  (h9:∃f d,Enr K "check_web" oJ f d)
  (h10:∃f d,Enr K "tie_of" vm f d)
  (h11:∃f d,Enr K "all_tied" qd f d)
  (h12:∃f d,Enr K "goes_along" mz f d)
  (h13:∃f d,Enr K "lesser_about" jt f d)
  (h14:∃f d,Enr K "is_parting" my f d)
  (h15:∃f d,Enr K "check_parting" jW f d)
  (h16:∃f d,Enr K "plain" aAC f d)
  (h17:∃f d,Enr K "ties_along" mj f d)
  (h18:∃f d,Enr K "_law_cell_at" lO f d)
  (h19:∃f d,Enr K "_law_draw" qX f d)
  (h20:∃f d,Enr K "_law_web" tD f d)
  (h21:∃f d,Enr K "_law_near" qU f d)
  (h22:∃f d,Enr K "_law_goes" qW f d)
  (h23:∃f d,Enr K "_law_parted" mq f d)
  (h24:∃f d,Enr K "_law_is_parting" iV f d)
  (h25:∃f d,Enr K "_law_plain" oA f d)
  (h26:∃f d,Enr K "_law_along" oF f d)
  (h27:∃f d,Enr K "_law_class" oE f d)
  (h28:∃f d,Enr K "_law_refused" lN f d)
  (h29:∃f d,Enr K "_law_bent" qY f d)
  (h30:∃f d,Enr K "law" pW f d)
  (jK:PySem.W.nsIn K mainGlobals "MOST_PLACES"=some (some (.int 60 tk_MOST_PLACES)))
  (y_FewError:PySem.W.nsIn K mainGlobals "FewError"=some (some (.ref q_FewError)))
  (jm:PySem.W.excIn K q_FewError [.type "ValueError",.type "Exception",.type "BaseException",.type "object"] "ValueError.__new__"=true)
  (y_NoWeb:PySem.W.nsIn K mainGlobals "NoWeb"=some (some (.ref q_NoWeb)))
  (qw:PySem.W.excIn K q_NoWeb [.type "ValueError",.type "Exception",.type "BaseException",.type "object"] "ValueError.__new__"=true)
  (y_NoPlace:PySem.W.nsIn K mainGlobals "NoPlace"=some (some (.ref q_NoPlace)))
  (o8:PySem.W.excIn K q_NoPlace [.type "ValueError",.type "Exception",.type "BaseException",.type "object"] "ValueError.__new__"=true)
  (y_NoWay:PySem.W.nsIn K mainGlobals "NoWay"=some (some (.ref q_NoWay)))
  (vA:PySem.W.excIn K q_NoWay [.type "ValueError",.type "Exception",.type "BaseException",.type "object"] "ValueError.__new__"=true)
  (y_NoParting:PySem.W.nsIn K mainGlobals "NoParting"=some (some (.ref q_NoParting)))
  (jN:PySem.W.excIn K q_NoParting [.type "ValueError",.type "Exception",.type "BaseException",.type "object"] "ValueError.__new__"=true)
  (y_TooMany:PySem.W.nsIn K mainGlobals "TooMany"=some (some (.ref q_TooMany)))
  (o7:PySem.W.excIn K q_TooMany [.type "ValueError",.type "Exception",.type "BaseException",.type "object"] "ValueError.__new__"=true)
  (y_NoForest:PySem.W.nsIn K mainGlobals "NoForest"=some (some (.ref q_NoForest)))
  (mY:PySem.W.excIn K q_NoForest [.type "ValueError",.type "Exception",.type "BaseException",.type "object"] "ValueError.__new__"=true)
  (y_NoPlan:PySem.W.nsIn K mainGlobals "NoPlan"=some (some (.ref q_NoPlan)))
  (qy:PySem.W.excIn K q_NoPlan [.type "ValueError",.type "Exception",.type "BaseException",.type "object"] "ValueError.__new__"=true)
  (y_NoOneWay:PySem.W.nsIn K mainGlobals "NoOneWay"=some (some (.ref q_NoOneWay)))
  (mX:PySem.W.excIn K q_NoOneWay [.type "ValueError",.type "Exception",.type "BaseException",.type "object"] "ValueError.__new__"=true)
  (y_NoOrder:PySem.W.nsIn K mainGlobals "NoOrder"=some (some (.ref q_NoOrder)))
  (o9:PySem.W.excIn K q_NoOrder [.type "ValueError",.type "Exception",.type "BaseException",.type "object"] "ValueError.__new__"=true)
  (y_NoText:PySem.W.nsIn K mainGlobals "NoText"=some (some (.ref q_NoText)))
  (qx:PySem.W.excIn K q_NoText [.type "ValueError",.type "Exception",.type "BaseException",.type "object"] "ValueError.__new__"=true)
  (y_NoDeed:PySem.W.nsIn K mainGlobals "NoDeed"=some (some (.ref q_NoDeed)))
  (qz:PySem.W.excIn K q_NoDeed [.type "ValueError",.type "Exception",.type "BaseException",.type "object"] "ValueError.__new__"=true)
  (y_NoRow:PySem.W.nsIn K mainGlobals "NoRow"=some (some (.ref q_NoRow)))
  (vB:PySem.W.excIn K q_NoRow [.type "ValueError",.type "Exception",.type "BaseException",.type "object"] "ValueError.__new__"=true)
  (cb:L2.aCz K q_FewError [q_NoWeb,q_NoPlace,q_NoWay,q_NoParting,q_TooMany,q_NoForest,q_NoPlan,q_NoOneWay,q_NoOrder,q_NoText,q_NoDeed,q_NoRow]=true)
  (z_ValueError:PySem.W.nsIn K mainGlobals "ValueError"=some none)
  (z_all:PySem.W.nsIn K mainGlobals "all"=some none)
  (z_bool:PySem.W.nsIn K mainGlobals "bool"=some none)
  (z_int:PySem.W.nsIn K mainGlobals "int"=some none)
  (z_isinstance:PySem.W.nsIn K mainGlobals "isinstance"=some none)
  (z_len:PySem.W.nsIn K mainGlobals "len"=some none)
  (z_list:PySem.W.nsIn K mainGlobals "list"=some none)
  (z_max:PySem.W.nsIn K mainGlobals "max"=some none)
  (z_min:PySem.W.nsIn K mainGlobals "min"=some none)
  (z_range:PySem.W.nsIn K mainGlobals "range"=some none)
  (z_set:PySem.W.nsIn K mainGlobals "set"=some none)
  (z_sorted:PySem.W.nsIn K mainGlobals "sorted"=some none)
  (z_tuple:PySem.W.nsIn K mainGlobals "tuple"=some none)
  (z_zip:PySem.W.nsIn K mainGlobals "zip"=some none):
  ∃t,Txt K mg t:=by
 obtain⟨f0,d0,F0,a0⟩:=h0;have B0:=F0.binds (ps:=["thing"]) λ _ _ _ _ _ _ us hl=>by obtain⟨_,rfl⟩:=tR hl;rfl
 obtain⟨f1,d1,F1,a1⟩:=h1;have B1:=F1.binds (ps:=["thing"]) λ _ _ _ _ _ _ us hl=>by obtain⟨_,rfl⟩:=tR hl;rfl
 obtain⟨f2,d2,F2,a2⟩:=h2;have B2:=F2.binds (ps:=["many","thing"]) λ _ _ _ _ _ _ us hl=>by obtain⟨_,_,rfl⟩:=qj hl;rfl
 obtain⟨f3,d3,F3,a3⟩:=h3;have B3:=F3.binds (ps:=["many","thing"]) λ _ _ _ _ _ _ us hl=>by obtain⟨_,_,rfl⟩:=qj hl;rfl
 obtain⟨f4,d4,F4,a4⟩:=h4;have B4:=F4.binds (ps:=["things"]) λ _ _ _ _ _ _ us hl=>by obtain⟨_,rfl⟩:=tR hl;rfl
 obtain⟨f5,d5,F5,a5⟩:=h5;have B5:=F5.binds (ps:=["many","thing"]) λ _ _ _ _ _ _ us hl=>by obtain⟨_,_,rfl⟩:=qj hl;rfl
 obtain⟨f6,d6,F6,a6⟩:=h6;have B6:=F6.binds (ps:=["many","thing"]) λ _ _ _ _ _ _ us hl=>by obtain⟨_,_,rfl⟩:=qj hl;rfl
 obtain⟨f7,d7,F7,a7⟩:=h7;have B7:=F7.binds (ps:=["many","rows"]) λ _ _ _ _ _ _ us hl=>by obtain⟨_,_,rfl⟩:=qj hl;rfl
 obtain⟨f8,d8,F8,a8⟩:=h8;have B8:=F8.binds (ps:=["thing"]) λ _ _ _ _ _ _ us hl=>by obtain⟨_,rfl⟩:=tR hl;rfl
 obtain⟨f9,d9,F9,a9⟩:=h9;have B9:=F9.binds (ps:=["thing"]) λ _ _ _ _ _ _ us hl=>by obtain⟨_,rfl⟩:=tR hl;rfl
 obtain⟨f10,d10,F10,a10⟩:=h10;have B10:=F10.binds (ps:=["one","other"]) λ _ _ _ _ _ _ us hl=>by obtain⟨_,_,rfl⟩:=qj hl;rfl
 obtain⟨f11,d11,F11,a11⟩:=h11;have B11:=F11.binds (ps:=["web"]) λ _ _ _ _ _ _ us hl=>by obtain⟨_,rfl⟩:=tR hl;rfl
 obtain⟨f12,d12,F12,a12⟩:=h12;have B12:=F12.binds (ps:=["near","thing"]) λ _ _ _ _ _ _ us hl=>by obtain⟨_,_,rfl⟩:=qj hl;rfl
 obtain⟨f13,d13,F13,a13⟩:=h13;have B13:=F13.binds (ps:=["way"]) λ _ _ _ _ _ _ us hl=>by obtain⟨_,rfl⟩:=tR hl;rfl
 obtain⟨f14,d14,F14,a14⟩:=h14;have B14:=F14.binds (ps:=["web","thing"]) λ _ _ _ _ _ _ us hl=>by obtain⟨_,_,rfl⟩:=qj hl;rfl
 obtain⟨f15,d15,F15,a15⟩:=h15;have B15:=F15.binds (ps:=["web","thing"]) λ _ _ _ _ _ _ us hl=>by obtain⟨_,_,rfl⟩:=qj hl;rfl
 obtain⟨f16,d16,F16,a16⟩:=h16;have B16:=F16.binds (ps:=["web","parting"]) λ _ _ _ _ _ _ us hl=>by obtain⟨_,_,rfl⟩:=qj hl;rfl
 obtain⟨f17,d17,F17,a17⟩:=h17;have B17:=F17.binds (ps:=["web","parting"]) λ _ _ _ _ _ _ us hl=>by obtain⟨_,_,rfl⟩:=qj hl;rfl
 obtain⟨f18,d18,F18,a18⟩:=h18;have B18:=F18.binds (ps:=["_law_script","_law_k"]) λ _ _ _ _ _ _ us hl=>by obtain⟨_,_,rfl⟩:=qj hl;rfl
 obtain⟨f19,d19,F19,a19⟩:=h19;have B19:=F19.binds (ps:=["_law_cell","_law_k","_law_bound"]) λ _ _ _ _ _ _ us hl=>by obtain⟨_,_,_,rfl⟩:=aL4 hl;rfl
 obtain⟨f20,d20,F20,a20⟩:=h20;have B20:=F20.binds (ps:=["_law_cell","_law_most"]) λ _ _ _ _ _ _ us hl=>by obtain⟨_,_,rfl⟩:=qj hl;rfl
 obtain⟨f21,d21,F21,a21⟩:=h21;have B21:=F21.binds (ps:=["_law_web_here"]) λ _ _ _ _ _ _ us hl=>by obtain⟨_,rfl⟩:=tR hl;rfl
 obtain⟨f22,d22,F22,a22⟩:=h22;have B22:=F22.binds (ps:=["_law_web_here","_law_thing"]) λ _ _ _ _ _ _ us hl=>by obtain⟨_,_,rfl⟩:=qj hl;rfl
 obtain⟨f23,d23,F23,a23⟩:=h23;have B23:=F23.binds (ps:=["_law_cell","_law_at","_law_web_here","_law_nigh"]) λ _ _ _ _ _ _ us hl=>by obtain⟨_,_,_,_,rfl⟩:=aLz hl;rfl
 obtain⟨f24,d24,F24,a24⟩:=h24;have B24:=F24.binds (ps:=["_law_web_here","_law_thing"]) λ _ _ _ _ _ _ us hl=>by obtain⟨_,_,rfl⟩:=qj hl;rfl
 obtain⟨f25,d25,F25,a25⟩:=h25;have B25:=F25.binds (ps:=["_law_parting"]) λ _ _ _ _ _ _ us hl=>by obtain⟨_,rfl⟩:=tR hl;rfl
 obtain⟨f26,d26,F26,a26⟩:=h26;have B26:=F26.binds (ps:=["_law_parting"]) λ _ _ _ _ _ _ us hl=>by obtain⟨_,rfl⟩:=tR hl;rfl
 obtain⟨f27,d27,F27,a27⟩:=h27;have B27:=F27.binds (ps:=["_law_error"]) λ _ _ _ _ _ _ us hl=>by obtain⟨_,rfl⟩:=tR hl;rfl
 obtain⟨f28,d28,F28,a28⟩:=h28;have B28:=F28.binds (ps:=["_law_call"]) λ _ _ _ _ _ _ us hl=>by obtain⟨_,rfl⟩:=tR hl;rfl
 obtain⟨f29,d29,F29,a29⟩:=h29;have B29:=F29.binds (ps:=["_law_cell","_law_web_here","_law_parting"]) λ _ _ _ _ _ _ us hl=>by obtain⟨_,_,_,rfl⟩:=aL4 hl;rfl
 obtain⟨f30,d30,F30,a30⟩:=h30;have B30:=F30.binds (ps:=["_law_script"]) λ _ _ _ _ _ _ us hl=>by obtain⟨_,rfl⟩:=tR hl;rfl
 exact⟨⟨f0,_,f1,_,f2,_,f3,_,f4,_,f5,_,f6,_,f7,_,f8,_,f9,_,f10,_,f11,_,f12,_,f13,_,f14,_,f15,_,f16,_,f17,_,f18,_,f19,_,f20,_,f21,_,f22,_,f23,_,f24,_,f25,_,f26,_,f27,_,f28,_,f29,_,f30,_,_,q_FewError,q_NoWeb,q_NoPlace,q_NoWay,q_NoParting,q_TooMany,q_NoForest,q_NoPlan,q_NoOneWay,q_NoOrder,q_NoText,q_NoDeed,q_NoRow⟩,⟨⟨F0,PySem.W.mg_of X G a0,B0⟩,⟨F1,PySem.W.mg_of X G a1,B1⟩,⟨F2,PySem.W.mg_of X G a2,B2⟩,⟨F3,PySem.W.mg_of X G a3,B3⟩,⟨F4,PySem.W.mg_of X G a4,B4⟩,⟨F5,PySem.W.mg_of X G a5,B5⟩,⟨F6,PySem.W.mg_of X G a6,B6⟩,⟨F7,PySem.W.mg_of X G a7,B7⟩,⟨F8,PySem.W.mg_of X G a8,B8⟩,⟨F9,PySem.W.mg_of X G a9,B9⟩,⟨F10,PySem.W.mg_of X G a10,B10⟩,⟨F11,PySem.W.mg_of X G a11,B11⟩,⟨F12,PySem.W.mg_of X G a12,B12⟩,⟨F13,PySem.W.mg_of X G a13,B13⟩,⟨F14,PySem.W.mg_of X G a14,B14⟩,a14,⟨F15,PySem.W.mg_of X G a15,B15⟩,⟨F16,PySem.W.mg_of X G a16,B16⟩,a16,⟨F17,PySem.W.mg_of X G a17,B17⟩,a17,⟨F18,PySem.W.mg_of X G a18,B18⟩,⟨F19,PySem.W.mg_of X G a19,B19⟩,⟨F20,PySem.W.mg_of X G a20,B20⟩,⟨F21,PySem.W.mg_of X G a21,B21⟩,⟨F22,PySem.W.mg_of X G a22,B22⟩,⟨F23,PySem.W.mg_of X G a23,B23⟩,⟨F24,PySem.W.mg_of X G a24,B24⟩,⟨F25,PySem.W.mg_of X G a25,B25⟩,⟨F26,PySem.W.mg_of X G a26,B26⟩,⟨F27,PySem.W.mg_of X G a27,B27⟩,⟨F28,PySem.W.mg_of X G a28,B28⟩,⟨F29,PySem.W.mg_of X G a29,B29⟩,⟨F30,PySem.W.mg_of X G a30,B30⟩,PySem.W.mg_of X G jK,⟨_,rfl⟩,PySem.W.mg_of X G y_FewError,(by unfold bD;rw[PySem.W.mg_of X G y_FewError]),jm,PySem.W.mg_of X G y_NoWeb,(by unfold bD;rw[PySem.W.mg_of X G y_NoWeb]),qw,PySem.W.mg_of X G y_NoPlace,(by unfold bD;rw[PySem.W.mg_of X G y_NoPlace]),o8,PySem.W.mg_of X G y_NoWay,(by unfold bD;rw[PySem.W.mg_of X G y_NoWay]),vA,PySem.W.mg_of X G y_NoParting,(by unfold bD;rw[PySem.W.mg_of X G y_NoParting]),jN,PySem.W.mg_of X G y_TooMany,(by unfold bD;rw[PySem.W.mg_of X G y_TooMany]),o7,PySem.W.mg_of X G y_NoForest,(by unfold bD;rw[PySem.W.mg_of X G y_NoForest]),mY,PySem.W.mg_of X G y_NoPlan,(by unfold bD;rw[PySem.W.mg_of X G y_NoPlan]),qy,PySem.W.mg_of X G y_NoOneWay,(by unfold bD;rw[PySem.W.mg_of X G y_NoOneWay]),mX,PySem.W.mg_of X G y_NoOrder,(by unfold bD;rw[PySem.W.mg_of X G y_NoOrder]),o9,PySem.W.mg_of X G y_NoText,(by unfold bD;rw[PySem.W.mg_of X G y_NoText]),qx,PySem.W.mg_of X G y_NoDeed,(by unfold bD;rw[PySem.W.mg_of X G y_NoDeed]),qz,PySem.W.mg_of X G y_NoRow,(by unfold bD;rw[PySem.W.mg_of X G y_NoRow]),vB,PySem.W.mg_none_of X G z_ValueError,PySem.W.mg_none_of X G z_all,PySem.W.mg_none_of X G z_bool,PySem.W.mg_none_of X G z_int,PySem.W.mg_none_of X G z_isinstance,PySem.W.mg_none_of X G z_len,PySem.W.mg_none_of X G z_list,PySem.W.mg_none_of X G z_max,PySem.W.mg_none_of X G z_min,PySem.W.mg_none_of X G z_range,PySem.W.mg_none_of X G z_set,PySem.W.mg_none_of X G z_sorted,PySem.W.mg_none_of X G z_tuple,PySem.W.mg_none_of X G z_zip,cb⟩⟩
theorem aKl{l:PySem.W.OpenLaw}{w:World}{K:PySem.W.Frag}{h:Heap}{mg:Str->Option Value}{fa Pt:Addr}(X:K.In h)(G:h.Ns mainGlobals mg)(hfa:mg "law"=some (.ref fa))(hB:aA6 K "law" Pt=true)(ht:∃t,Txt K mg t):L2.aDq l.prog w K mg fa Pt 12 63:=by
 obtain⟨t,T⟩:=ht;have e:=hfa.symm.trans T.aJA.m;cases e;exact aHu (f:=zN) (F:=aGt) X G hB T.aJA aJY (λ _ _ _ _ _ _ _ _=>.of_eq rfl) (λ base c s H hr Lx nd=>aLe T hr Lx nd) rfl aGC
theorem walk{l:PySem.W.OpenLaw}{q:Program}{loose:List Str}{XP:(Str->Option Value)->Heap->Prop}{YP:World->Heap->Prop}{d:DefRec}{K:Params->PySem.W.Frag}{Pt:Addr}(hn:l.most=some 63)(hdf:d.params.defaults=[])
  (hY:∀(w:World) (h:Heap),YP w h->(K w.params).In h/\h.get? Pt=some (PySem.W.tabObj #[]))
  (F:∀(w:World) (mg:Str->Option Value) (fa:Addr) (h:Heap),(K w.params).In h->h.Ns mainGlobals mg->mg d.name=some (.ref fa)->L2.aDq l.prog w (K w.params) mg fa Pt 12 63):
  PySem.W.WalkO q loose XP YP l.row.toRowW d [] (λ f vs=>PySem.call f vs):=
 L2.aEo hn (by decide) hdf ⟨rfl,by decide,by decide⟩ hY F
end VL.My
open PySem PySem.W PyProof.Rows
set_option maxRecDepth 100000 in
set_option maxHeartbeats 0 in
theorem PySem.Challenge.cw_fewways_k05_partings_holds : PySem.Challenge.rw_fewways_k05_partings.Holds := by
 w_on; o_law; k_head; (case hw=>w_witness2)
 k_fill
 refine VL.My.walk (l:=PySem.Challenge.rw_fewways_k05_partings) rfl rfl (fun w h Y=>⟨PySem.W.km_in_of Y,PySem.W.km_tabs_of Y _ List.mem_cons_self⟩) ?F
 case F =>
  intro w mg fa h KX G hmg
  refine VL.My.aKl KX G hmg ?B ?T
  (case B=>kernel_rfl)
  case T =>
   refine' VL.My.aJI KX G (VL.enr ?a0 ?l0 ?c0 ?k0) (VL.enr ?a1 ?l1 ?c1 ?k1) (VL.enr ?a2 ?l2 ?c2 ?k2) (VL.enr ?a3 ?l3 ?c3 ?k3) (VL.enr ?a4 ?l4 ?c4 ?k4) (VL.enr ?a5 ?l5 ?c5 ?k5) (VL.enr ?a6 ?l6 ?c6 ?k6) (VL.enr ?a7 ?l7 ?c7 ?k7) (VL.enr ?a8 ?l8 ?c8 ?k8) (VL.enr ?a9 ?l9 ?c9 ?k9) (VL.enr ?a10 ?l10 ?c10 ?k10) (VL.enr ?a11 ?l11 ?c11 ?k11) (VL.enr ?a12 ?l12 ?c12 ?k12) (VL.enr ?a13 ?l13 ?c13 ?k13) (VL.enr ?a14 ?l14 ?c14 ?k14) (VL.enr ?a15 ?l15 ?c15 ?k15) (VL.enr ?a16 ?l16 ?c16 ?k16) (VL.enr ?a17 ?l17 ?c17 ?k17) (VL.enr ?a18 ?l18 ?c18 ?k18) (VL.enr ?a19 ?l19 ?c19 ?k19) (VL.enr ?a20 ?l20 ?c20 ?k20) (VL.enr ?a21 ?l21 ?c21 ?k21) (VL.enr ?a22 ?l22 ?c22 ?k22) (VL.enr ?a23 ?l23 ?c23 ?k23) (VL.enr ?a24 ?l24 ?c24 ?k24) (VL.enr ?a25 ?l25 ?c25 ?k25) (VL.enr ?a26 ?l26 ?c26 ?k26) (VL.enr ?a27 ?l27 ?c27 ?k27) (VL.enr ?a28 ?l28 ?c28 ?k28) (VL.enr ?a29 ?l29 ?c29 ?k29) (VL.enr ?a30 ?l30 ?c30 ?k30) ?jK ?y_FewError ?jm ?y_NoWeb ?qw ?y_NoPlace ?o8 ?y_NoWay ?vA ?y_NoParting ?jN ?y_TooMany ?o7 ?y_NoForest ?mY ?y_NoPlan ?qy ?y_NoOneWay ?mX ?y_NoOrder ?o9 ?y_NoText ?qx ?y_NoDeed ?qz ?y_NoRow ?vB ?cb ?z_ValueError ?z_all ?z_bool ?z_int ?z_isinstance ?z_len ?z_list ?z_max ?z_min ?z_range ?z_set ?z_sorted ?z_tuple ?z_zip
   (case y_FewError=>k_is); (case jm=>k_exc)
   (case y_NoWeb=>k_is); (case qw=>k_exc)
   (case y_NoPlace=>k_is); (case o8=>k_exc)
   (case y_NoWay=>k_is); (case vA=>k_exc)
   (case y_NoParting=>k_is); (case jN=>k_exc)
   (case y_TooMany=>k_is); (case o7=>k_exc)
   (case y_NoForest=>k_is); (case mY=>k_exc)
   (case y_NoPlan=>k_is); (case qy=>k_exc)
   (case y_NoOneWay=>k_is); (case mX=>k_exc)
   (case y_NoOrder=>k_is); (case o9=>k_exc)
   (case y_NoText=>k_is); (case qx=>k_exc)
   (case y_NoDeed=>k_is); (case qz=>k_exc)
   (case y_NoRow=>k_is); (case vB=>k_exc)
   (case cb=>kernel_rfl)
   any_goals k_is
