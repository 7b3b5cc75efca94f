import PyProof.Rows.All
import Wide.All
import OpenK.AllK
import Wide.FinOn
import Lean
import PyProof.EqAt
import PyProof.EqKinds
import PyProof.TupleCall
import KE.LcSums
import PySem.Challenge.RW_fewways_k03_parts_and_what_is_left
noncomputable section
namespace PySem.W.Fast
theorem tw16502273017248451906:True:=⟨⟩
theorem tw14076253610607907746:True:=⟨⟩
theorem tw926092811152266722:True:=⟨⟩
theorem tw7607528417559105602:True:=⟨⟩
theorem tw326629421280946818:True:=⟨⟩
theorem tw11323472646703543810:True:=⟨⟩
theorem tw905094803498064994:True:=⟨⟩
theorem tw12801506676023470466:True:=⟨⟩
theorem tw9327491469417014658:True:=⟨⟩
theorem tw4519106247996765602:True:=⟨⟩
theorem tw3393930728950305634:True:=⟨⟩
theorem tw15344958855439087475:True:=⟨⟩
theorem tw6082510756010059955:True:=⟨⟩
theorem tw3895205429073511603:True:=⟨⟩
theorem tw13942851433542655763:True:=⟨⟩
theorem tw6899957399766567283:True:=⟨⟩
theorem tw16272961153127640755:True:=⟨⟩
theorem tw2327430558992976115:True:=⟨⟩
theorem tw10163024292145198227:True:=⟨⟩
theorem tw15857886511735197824:True:=⟨⟩
theorem tw10946341038698820576:True:=⟨⟩
theorem tw13299668385138088512:True:=⟨⟩
theorem tw704082450701733472:True:=⟨⟩
theorem tw1729506405074523328:True:=⟨⟩
theorem tw13731041288783760864:True:=⟨⟩
theorem tw14435448674153198080:True:=⟨⟩
theorem tw6669985048999177472:True:=⟨⟩
theorem tw836570840496401841:True:=⟨⟩
theorem tw2259301255547911889:True:=⟨⟩
theorem tw6694058212746951249:True:=⟨⟩
theorem tw5723722499167135601:True:=⟨⟩
theorem tw9893778864079202769:True:=⟨⟩
theorem tw13339447521874184945:True:=⟨⟩
theorem tw11402465374825964305:True:=⟨⟩
theorem tw5183840116163031697:True:=⟨⟩
theorem tw2245900705015604753:True:=⟨⟩
theorem tw137586661259808561:True:=⟨⟩
theorem tw15551481583655446321:True:=⟨⟩
theorem tw7178368720282022257:True:=⟨⟩
theorem tw15638991960339628401:True:=⟨⟩
theorem tw2624251154588590534:True:=⟨⟩
theorem tw13488144869349610534:True:=⟨⟩
theorem tw7040998111435262854:True:=⟨⟩
theorem tw9843062079951448742:True:=⟨⟩
theorem tw8327377039592086022:True:=⟨⟩
theorem tw4240639799588611622:True:=⟨⟩
theorem tw15048603880317679142:True:=⟨⟩
theorem tw17053095317643550406:True:=⟨⟩
theorem tw9312892384219789286:True:=⟨⟩
theorem tw17517132130773633863:True:=⟨⟩
theorem tw10289284194481514343:True:=⟨⟩
theorem tw7130388949225306247:True:=⟨⟩
theorem tw12769810822819050663:True:=⟨⟩
theorem tw1296522058619974119:True:=⟨⟩
theorem tw17944611304933091079:True:=⟨⟩
theorem tw16454920013223148903:True:=⟨⟩
theorem tw10162749568709038599:True:=⟨⟩
theorem tw15851395347845461671:True:=⟨⟩
theorem tw18378242050990932836:True:=⟨⟩
theorem tw729664860416119236:True:=⟨⟩
theorem tw1907304744258559172:True:=⟨⟩
theorem tw6853670280606693444:True:=⟨⟩
theorem tw9112698469334598884:True:=⟨⟩
theorem tw11568437845650264292:True:=⟨⟩
theorem tw12396867790436016644:True:=⟨⟩
theorem tw7701254232654797348:True:=⟨⟩
theorem tw2965326116489947556:True:=⟨⟩
theorem tw7962412791524989348:True:=⟨⟩
theorem tw9764205286662992293:True:=⟨⟩
theorem tw9633850709019427525:True:=⟨⟩
theorem tw15779438535963220133:True:=⟨⟩
theorem tw15363531323366815205:True:=⟨⟩
theorem tw18018929216216636773:True:=⟨⟩
theorem tw3946284311791750949:True:=⟨⟩
theorem tw3350194766504485957:True:=⟨⟩
theorem tw13414600574048150917:True:=⟨⟩
theorem tw1356312569954143173:True:=⟨⟩
theorem tw9248308257007222757:True:=⟨⟩
theorem tw8870380464586510426:True:=⟨⟩
theorem tw6629302802935409050:True:=⟨⟩
theorem tw2990349096120668122:True:=⟨⟩
theorem tw10554447179650671898:True:=⟨⟩
theorem tw6540838436417386362:True:=⟨⟩
theorem tw290628436928297562:True:=⟨⟩
theorem tw18006147359793703546:True:=⟨⟩
theorem tw16879701319196876282:True:=⟨⟩
theorem tw1462352883304295802:True:=⟨⟩
theorem tw17765016225285586170:True:=⟨⟩
theorem tw1038221394974703418:True:=⟨⟩
theorem tw6893693007002200075:True:=⟨⟩
theorem tw777117429493905291:True:=⟨⟩
theorem tw7619909943627303083:True:=⟨⟩
theorem tw9013962758606807691:True:=⟨⟩
theorem tw1733494559449966795:True:=⟨⟩
theorem tw9425730497612944875:True:=⟨⟩
theorem tw16055718640616987723:True:=⟨⟩
theorem tw8013690044077102315:True:=⟨⟩
theorem tw17563030096455157003:True:=⟨⟩
theorem tw13809078627615496280:True:=⟨⟩
theorem tw7120496588833995896:True:=⟨⟩
theorem tw10798828474179558392:True:=⟨⟩
theorem tw11579126073259003448:True:=⟨⟩
theorem tw1333861375182217080:True:=⟨⟩
theorem tw12229964844509361592:True:=⟨⟩
theorem tw13119076252416343480:True:=⟨⟩
theorem tw4626149762771709976:True:=⟨⟩
theorem tw18084853323618139736:True:=⟨⟩
theorem tw7023824473208622712:True:=⟨⟩
theorem tw11667480300735748728:True:=⟨⟩
theorem tw4941337314665362040:True:=⟨⟩
theorem tw3589518434848198552:True:=⟨⟩
theorem tw594690565626347896:True:=⟨⟩
theorem tw504079115255159448:True:=⟨⟩
theorem tw3660777964214680521:True:=⟨⟩
theorem tw4201308970078059497:True:=⟨⟩
theorem tw6613862547848140329:True:=⟨⟩
theorem tw6543026431526073033:True:=⟨⟩
theorem tw17767481587080773929:True:=⟨⟩
theorem tw14032587775478546921:True:=⟨⟩
theorem tw1134710118638805033:True:=⟨⟩
theorem tw3979801375278233961:True:=⟨⟩
theorem tw3889055474854326793:True:=⟨⟩
theorem tw14504813263130804446:True:=⟨⟩
theorem tw5522595319950490430:True:=⟨⟩
theorem tw6559101307295725982:True:=⟨⟩
theorem tw17447549437170136478:True:=⟨⟩
theorem tw981737605853219838:True:=⟨⟩
theorem tw14599248861622254590:True:=⟨⟩
theorem tw1305151372440253310:True:=⟨⟩
theorem tw17121186482571838910:True:=⟨⟩
theorem tw10132900602033124382:True:=⟨⟩
theorem tw5528873946288910366:True:=⟨⟩
theorem tw18297303568915760734:True:=⟨⟩
theorem tw17575217257433039454:True:=⟨⟩
theorem tw8733550052453459582:True:=⟨⟩
theorem tw15182462029874415518:True:=⟨⟩
theorem tw908649383502509567:True:=⟨⟩
theorem tw9591291696711430943:True:=⟨⟩
theorem tw9925845357701791551:True:=⟨⟩
theorem tw17779054666479899615:True:=⟨⟩
theorem tw6879238795507031359:True:=⟨⟩
theorem tw1084531643356340575:True:=⟨⟩
theorem tw7949699183427068860:True:=⟨⟩
theorem tw5068070348001829980:True:=⟨⟩
theorem tw11741706743205426588:True:=⟨⟩
theorem tw6467878032189400924:True:=⟨⟩
theorem tw14290243655109921628:True:=⟨⟩
theorem tw1339659847151003964:True:=⟨⟩
theorem tw6014714482525775036:True:=⟨⟩
theorem tw4073632091089503580:True:=⟨⟩
theorem tw15428387170638192284:True:=⟨⟩
theorem tw2449089702134214429:True:=⟨⟩
theorem tw11888824713024597821:True:=⟨⟩
theorem tw9868466950654006365:True:=⟨⟩
theorem tw16723263080510626173:True:=⟨⟩
theorem tw7465099115703409629:True:=⟨⟩
theorem tw8779875625913013693:True:=⟨⟩
theorem tw6914196758677789:True:=⟨⟩
theorem tw12646274217138058109:True:=⟨⟩
theorem tw17516032640935080125:True:=⟨⟩
theorem tw13578723834226543965:True:=⟨⟩
theorem tw9477860938540402301:True:=⟨⟩
theorem tw1900920324922430077:True:=⟨⟩
theorem tw14533890818785445789:True:=⟨⟩
theorem tw4008578055683202834:True:=⟨⟩
theorem tw6576832105557897586:True:=⟨⟩
theorem tw10541766054241674194:True:=⟨⟩
theorem tw5987932232881484306:True:=⟨⟩
theorem tw12992332636727881554:True:=⟨⟩
theorem tw13244144665720066162:True:=⟨⟩
theorem tw8089727650970830226:True:=⟨⟩
theorem tw9973248160378078930:True:=⟨⟩
theorem tw1620273348345612274:True:=⟨⟩
theorem tw3395262046453605650:True:=⟨⟩
theorem tw109997950847713874:True:=⟨⟩
theorem tw12110603736039625170:True:=⟨⟩
theorem tw6430382254555455218:True:=⟨⟩
theorem tw4393186612871358194:True:=⟨⟩
theorem tw4590120896556204050:True:=⟨⟩
theorem tw17687574270877785426:True:=⟨⟩
theorem tw5436669588111936402:True:=⟨⟩
theorem tw13792236835095302034:True:=⟨⟩
theorem tw14279678310855410578:True:=⟨⟩
theorem tw6504921293751897266:True:=⟨⟩
theorem tw5912063849629949138:True:=⟨⟩
theorem tw13833863746752760931:True:=⟨⟩
theorem tw9072836829411107203:True:=⟨⟩
theorem tw14751407620691783811:True:=⟨⟩
theorem tw9516508482420562659:True:=⟨⟩
theorem tw9336044117091625603:True:=⟨⟩
theorem tw12338597335656360579:True:=⟨⟩
theorem tw12700658777007171811:True:=⟨⟩
theorem tw8187419784286639888:True:=⟨⟩
theorem tw1725906544348459056:True:=⟨⟩
theorem tw11163506446257903696:True:=⟨⟩
theorem tw399963552081693968:True:=⟨⟩
theorem tw13384889747173528464:True:=⟨⟩
theorem tw9007561841424324257:True:=⟨⟩
theorem tw16082676335524021793:True:=⟨⟩
theorem tw9439456944664832865:True:=⟨⟩
theorem tw8488487702796498625:True:=⟨⟩
theorem tw5131632661315790561:True:=⟨⟩
theorem tw2845533084978083393:True:=⟨⟩
theorem tw3524786402016599649:True:=⟨⟩
theorem tw11158834395708581025:True:=⟨⟩
theorem tw10302336325007429089:True:=⟨⟩
theorem tw16492230361374095393:True:=⟨⟩
theorem tw7002020166525142337:True:=⟨⟩
theorem tw6740231424651858721:True:=⟨⟩
theorem tw14552164583968002166:True:=⟨⟩
theorem tw5111645913966316694:True:=⟨⟩
theorem tw11410818450828581014:True:=⟨⟩
theorem tw14793168819890694326:True:=⟨⟩
theorem tw3128091074452205046:True:=⟨⟩
theorem tw4121857890613545014:True:=⟨⟩
theorem tw4211523884905177430:True:=⟨⟩
theorem tw17052117617040473015:True:=⟨⟩
theorem tw13022917521516591895:True:=⟨⟩
theorem tw12565948948709873303:True:=⟨⟩
theorem tw15936433055215426519:True:=⟨⟩
theorem tw18287819923099098359:True:=⟨⟩
theorem tw5219570661420569143:True:=⟨⟩
theorem tw11815252622437661527:True:=⟨⟩
theorem tw9530078403274972567:True:=⟨⟩
theorem tw11618005255605064119:True:=⟨⟩
theorem tw17726263708297763255:True:=⟨⟩
theorem tw10266831231847784151:True:=⟨⟩
theorem tw16356901554767808503:True:=⟨⟩
theorem tw4926607860303675863:True:=⟨⟩
theorem tw8113730239269304375:True:=⟨⟩
theorem tw5798333808699320663:True:=⟨⟩
theorem tw11954521994935720724:True:=⟨⟩
theorem tw916671126493690932:True:=⟨⟩
theorem tw17861136785839169460:True:=⟨⟩
theorem tw15689790315448351700:True:=⟨⟩
theorem tw3552644779540452308:True:=⟨⟩
theorem tw13480574047246739700:True:=⟨⟩
theorem tw14020836668897011956:True:=⟨⟩
theorem tw12603595888783723028:True:=⟨⟩
theorem tw2156786168152670036:True:=⟨⟩
theorem tw9414216651307383188:True:=⟨⟩
theorem tw14091937271577343860:True:=⟨⟩
theorem tw5533046896525372564:True:=⟨⟩
theorem tw4227694127809442228:True:=⟨⟩
theorem tw12090146184341813716:True:=⟨⟩
theorem tw13443724253252808724:True:=⟨⟩
theorem tw9249048910007996277:True:=⟨⟩
theorem tw15117977241726245749:True:=⟨⟩
theorem tw728954733886150101:True:=⟨⟩
theorem tw2089406807734282869:True:=⟨⟩
theorem tw16306638228854572661:True:=⟨⟩
theorem tw13393730311413666901:True:=⟨⟩
theorem tw17052445094284428693:True:=⟨⟩
theorem tw10842815914424740405:True:=⟨⟩
theorem tw16901124917047323765:True:=⟨⟩
theorem tw17002117313642751093:True:=⟨⟩
theorem tw3308421516716116693:True:=⟨⟩
theorem tw10194781710943255541:True:=⟨⟩
theorem tw13089466196104431626:True:=⟨⟩
theorem tw1507967143705112042:True:=⟨⟩
theorem tw9946534456255735562:True:=⟨⟩
theorem tw5451412461146872170:True:=⟨⟩
theorem tw8906199303082546858:True:=⟨⟩
theorem tw13525890797634222762:True:=⟨⟩
theorem tw6409888459970374154:True:=⟨⟩
theorem tw15109028326795247434:True:=⟨⟩
theorem tw12910043133696397706:True:=⟨⟩
theorem tw6144929704236038122:True:=⟨⟩
theorem tw3608791212661958634:True:=⟨⟩
theorem tw1392938728732756842:True:=⟨⟩
theorem tw18263938247458080938:True:=⟨⟩
theorem tw9191753250263160443:True:=⟨⟩
theorem tw6595415502167019899:True:=⟨⟩
theorem tw2341697020808578747:True:=⟨⟩
theorem tw12643230308515095803:True:=⟨⟩
theorem tw8938545016991359835:True:=⟨⟩
theorem tw14944871984419371867:True:=⟨⟩
theorem tw8901794485680268411:True:=⟨⟩
theorem tw472763725814835611:True:=⟨⟩
theorem tw18240490835260829691:True:=⟨⟩
theorem tw8822785717817966875:True:=⟨⟩
theorem tw7138443692488614203:True:=⟨⟩
theorem tw9877922651781868123:True:=⟨⟩
theorem tw5608478546302981864:True:=⟨⟩
theorem tw4580580961805606504:True:=⟨⟩
theorem tw11780617495703219272:True:=⟨⟩
theorem tw2641017270591008264:True:=⟨⟩
theorem tw1324164806996188008:True:=⟨⟩
theorem tw18013996827627598696:True:=⟨⟩
theorem tw3284677862286678041:True:=⟨⟩
theorem tw4864917392960852057:True:=⟨⟩
theorem tw4584804695727814297:True:=⟨⟩
theorem tw14725337179333908121:True:=⟨⟩
theorem tw6441622001558360025:True:=⟨⟩
theorem tw10471643799097469369:True:=⟨⟩
theorem tw9195128656553196857:True:=⟨⟩
theorem tw440648324170780985:True:=⟨⟩
theorem tw5270112889139633913:True:=⟨⟩
theorem tw4450472498138037134:True:=⟨⟩
theorem tw15260051043744544398:True:=⟨⟩
theorem tw12175269259360087694:True:=⟨⟩
theorem tw6944047414758773390:True:=⟨⟩
theorem tw9064155427773285006:True:=⟨⟩
theorem tw9880522624149524270:True:=⟨⟩
theorem tw12668789892205411438:True:=⟨⟩
theorem tw16151671065007892590:True:=⟨⟩
theorem tw11611153980349388782:True:=⟨⟩
theorem tw11173258528526988302:True:=⟨⟩
theorem tw2173010763011772718:True:=⟨⟩
theorem tw6033617115962784943:True:=⟨⟩
theorem tw3389636624163620303:True:=⟨⟩
theorem tw9658521491063227119:True:=⟨⟩
theorem tw5704871763656404719:True:=⟨⟩
theorem tw18196012392228593263:True:=⟨⟩
theorem tw8474386960766091343:True:=⟨⟩
theorem tw15801393059864305615:True:=⟨⟩
theorem tw800653425599636623:True:=⟨⟩
theorem tw361719837566575919:True:=⟨⟩
theorem tw3175590086482264684:True:=⟨⟩
theorem tw2585053706810068140:True:=⟨⟩
theorem tw7957086968201129164:True:=⟨⟩
theorem tw1993380943831183116:True:=⟨⟩
theorem tw6348132378963901196:True:=⟨⟩
theorem tw865188144207545420:True:=⟨⟩
theorem tw884989814956292172:True:=⟨⟩
theorem tw12559956760680388236:True:=⟨⟩
theorem tw6972325270326176396:True:=⟨⟩
theorem tw15199926293093740044:True:=⟨⟩
theorem tw13056301937896234796:True:=⟨⟩
theorem tw15687167680447566636:True:=⟨⟩
theorem tw7256020182841703532:True:=⟨⟩
theorem tw4103194268051849324:True:=⟨⟩
theorem tw1780106579772511212:True:=⟨⟩
theorem tw9018546079510034284:True:=⟨⟩
theorem tw10375178553281397612:True:=⟨⟩
theorem tw17930835207647267244:True:=⟨⟩
theorem tw13841241983100561836:True:=⟨⟩
theorem tw10280941798185634828:True:=⟨⟩
theorem tw17107290301871213868:True:=⟨⟩
theorem tw14374897695245979085:True:=⟨⟩
theorem tw7623141897195815373:True:=⟨⟩
theorem tw17650830127927030829:True:=⟨⟩
theorem tw7669005265803573869:True:=⟨⟩
theorem tw88756333880950701:True:=⟨⟩
theorem tw2799758252457030445:True:=⟨⟩
theorem tw11958780536896318541:True:=⟨⟩
theorem tw2644237824481409389:True:=⟨⟩
theorem tw10690620208193752749:True:=⟨⟩
theorem tw18413419988622544429:True:=⟨⟩
theorem tw16765628837219311149:True:=⟨⟩
theorem tw17091990706146201709:True:=⟨⟩
theorem tw1400305438325829325:True:=⟨⟩
theorem tw15464390545276945709:True:=⟨⟩
theorem tw24458961020345933:True:=⟨⟩
theorem tw13199904130062705284:True:=⟨⟩
theorem tw2072176835830153343:True:=⟨⟩
end PySem.W.Fast
set_option bootstrap.genMatcherCode false
set_option compiler.extract_closed false
set_option Elab.async false
set_option linter.all false
set_option maxRecDepth 100000
namespace L2
open PySem PySem.Spec PyProof.Rows
abbrev Key:=Sum Int Str
def wg:Key->Value->Bool
 | .inl k,v=>Value.isInt k v
 | .inr x,v=>Value.isStrOf x v
def aLf(w:World):Key->Int
 | .inl k=>hashInt k
 | .inr x=>hashStr w x
theorem cL:∀{k:Key} {v:Value},wg k v=true->(∃i t,k=Sum.inl i/\v=Value.int i t)\/(∃x t,k=Sum.inr x/\v=Value.str x t)
 | .inl i,v,h=>by
  obtain⟨t,e⟩:=Value.isInt_shape (k:=i) (v:=v) h;exact .inl ⟨i,t,rfl,e⟩
 | .inr x,v,h=>by
  obtain⟨t,e⟩:=Value.isStrOf_shape (x:=x) (v:=v) h;exact .inr ⟨x,t,rfl,e⟩
theorem aDf(i:Int)(t:Tok):wg (.inl i) (.int i t)=true:=by simp[wg,Value.isInt]
theorem aDe(x:Str)(t:Tok):wg (.inr x) (.str x t)=true:=by simp[wg,Value.isStrOf]
theorem aJo(a b:Int):decide ((Sum.inl a:Key)=Sum.inl b)=(a==b):=by
 by_cases e:a=b
 ·subst e;simp
 ·have h:¬(Sum.inl a:Key)=Sum.inl b:=λ q=>e (Sum.inl.inj q)
  rw[decide_eq_false h];exact(beq_eq_false_iff_ne.mpr e).symm
theorem aJl(a b:Str):decide ((Sum.inr a:Key)=Sum.inr b)=decide (a=b):=by
 by_cases e:a=b
 ·subst e;simp
 ·have h:¬(Sum.inr a:Key)=Sum.inr b:=λ q=>e (Sum.inr.inj q)
  rw[decide_eq_false h,decide_eq_false e]
theorem aJn(a:Int)(b:Str):decide ((Sum.inl a:Key)=Sum.inr b)=false:=decide_eq_false (λ q=>nomatch q)
theorem aJm(a:Str)(b:Int):decide ((Sum.inr a:Key)=Sum.inl b)=false:=decide_eq_false (λ q=>nomatch q)
def dJ(prog:Program)(w:World):PySem.KeyKind prog w Key where
 is:=wg
 hash:=aLf w
 inj:=λ v a b ha hb=>by
  rcases cL ha with ⟨i,t,rfl,rfl⟩|⟨x,t,rfl,rfl⟩
  ·rcases cL hb with ⟨j,u,rfl,e⟩|⟨y,u,rfl,e⟩
   ·injection e with e1 _;rw[e1]
   ·exact nomatch e
  ·rcases cL hb with ⟨j,u,rfl,e⟩|⟨y,u,rfl,e⟩
   ·exact nomatch e
   ·injection e with e1 _;rw[e1]
 byValue:=λ k v h=>by
  rcases cL h with ⟨i,t,rfl,rfl⟩|⟨x,t,rfl,rfl⟩<;>rfl
 pyHash:=λ hv h=>by
  rcases cL hv with ⟨i,t,rfl,rfl⟩|⟨x,t,rfl,rfl⟩
  ·exact wpAny_pyHash_int h
  ·exact wpAny_pyHash_str h
 eqBool:=λ hu hv h=>by
  rcases cL hu with ⟨i,t,rfl,rfl⟩|⟨x,t,rfl,rfl⟩
  ·rcases cL hv with ⟨j,u,rfl,rfl⟩|⟨y,u,rfl,rfl⟩
   ·rw[aJo]at h;exact wpAny_eqBool_int h
   ·rw[aJn]at h;exact SeqAt.EqAt.int_str i t y u _ _ _ _ h
  ·rcases cL hv with ⟨j,u,rfl,rfl⟩|⟨y,u,rfl,rfl⟩
   ·rw[aJm]at h;exact SeqAt.EqAt.str_int x t j u _ _ _ _ h
   ·rw[aJl]at h;exact wpAny_eqBool_str h
 «strs»:=λ k x t v h=>by
  rcases cL h with ⟨i,u,rfl,e⟩|⟨y,u,rfl,e⟩
  ·exact nomatch e
  ·injection e with e1 _
   subst e1;cases v<;>rfl
theorem aAM(prog:Program)(w:World)(i:Int)(t:Tok):(dJ prog w).is (.inl i) (.int i t)=true:=aDf i t
theorem aAL(prog:Program)(w:World)(x:Str)(t:Tok):(dJ prog w).is (.inr x) (.str x t)=true:=aDe x t
inductive V where
 |non|bl (b:Bool)|int (i:Int)|str (x:Str)|byt (b:Array UInt8)|flt (b:UInt64)|ref (a:Addr)|ty (n:String)
 deriving DecidableEq
def RelV:V->Value->Prop
 | .non,u=>u=Value.none
 | .bl b,u=>u=Value.bool b
 | .int i,u=>∃t,u=Value.int i t
 | .str x,u=>∃t,u=Value.str x t
 | .byt b,u=>∃t,u=Value.bytes b t
 | .flt b,u=>∃t,u=Value.float b t
 | .ref a,u=>u=Value.ref a
 | .ty n,u=>u=Value.type n
abbrev Vals:List V->List Value->Prop:=Paired RelV
theorem Vals.length{xs:List V}{us:List Value}(r:Vals xs us):xs.length=us.length:=Paired.length r
theorem Vals.get:∀{xs:List V} {us:List Value} {i:Nat} {x:V},Vals xs us->xs[i]? =some x->∃u,us[i]? =some u/\RelV x u
 |_,_,_,_,.nil,e=>by simp at e
 |_,_,0,_,.cons r _,e=>by simp at e;subst e;exact⟨_,rfl,r⟩
 |_,_,i+1,x,.cons _ t,e=>by
  obtain⟨u,h1,h2⟩:=Vals.get (i:=i) (x:=x) t (by simpa using e);exact⟨u,by simpa using h1,h2⟩
theorem Vals.set{x:V}{u:Value}(r:RelV x u):∀{xs:List V} {us:List Value} (i:Nat),Vals xs us->Vals (xs.set i x) (us.set i u)
 |_,_,_,.nil=>.nil
 |_,_,0,.cons _ t=>.cons r t
 |_,_,i+1,.cons q t=>.cons q (Vals.set r i t)
theorem Vals.append:∀{xs ys:List V} {us ws:List Value},Vals xs us->Vals ys ws->Vals (xs++ys) (us++ws)
 |_,_,_,_,.nil,s=>s
 |_,_,_,_,.cons r t,s=>.cons r (Vals.append t s)
def qH:Option V->Option Value->Prop
 |some v,some u=>RelV v u
 |none,none=>True
 |_,_=>False
def KV{κ:Type}:List (κ×V)->List (κ×Value)->Prop:=Paired λ(p:κ×V) (q:κ×Value)=>p.1=q.1/\RelV p.2 q.2
def kV:Key->V
 | .inl i=>.int i
 | .inr x=>.str x
inductive HO where
 |lst (xs:List V)
 |tup (xs:List V)
 |dK (kvs:List (Key×V))|dT (kvs:List (List Key×V))
 |set (S:Int->Bool) (n:Nat)
 |ins (C dx:Addr) (fs:List (Str×V))
 |own (x:Addr)
 |xd (fs:List (Str×V))
 |met (f x:Addr)
 |rng (lo hi:Int)
 |frz (o:Obj) (u:HO)
 |tbl (ps:Array Value)
 |ext (φ:Heap->Prop)
abbrev Hp:=Addr->Option HO
def upd(H:Hp)(a:Addr)(o:HO):Hp:=λ b=>if b=a then some o else H b
theorem au{H:Hp}{a:Addr}{o:HO}:upd H a o a=some o:=by unfold upd;rw[if_pos rfl]
theorem aV{H:Hp}{a b:Addr}{o:HO}(h:b≠a):upd H a o b=H b:=by unfold upd;rw[if_neg h]
theorem bD{H:Hp}{a b:Addr}{o:HO}(h:H a=some o)(h':H b=none):a≠b:=by
 intro e;subst e;rw[h]at h';cases h'
section
variable(P:Program)(w:World)
def bw(H:Hp)(h:Heap)(a:Addr):HO->Prop
 | .lst xs=>xs.length<=sizeLine/\∃(its:List Value) (n:Nat),Vals xs its/\h.get? a=some {cls:=.type "list",data:=.seq its.toArray n}
 | .tup xs=>xs.length<=sizeLine/\∃its:List Value,Vals xs its/\IsTup h a its.toArray
 | .dK kvs=>kvs.length<=sizeLine/\(a==sysModules)=false/\∃vs,KV kvs vs/\h.DictOf (dJ P w) a vs
 | .dT kvs=>kvs.length<=sizeLine/\(a==sysModules)=false/\∃xs:List (List Key×Addr×Value),
   Paired (λ(p:List Key×V) (q:List Key×Addr×Value)=>p.1=q.1/\H q.2.1=some (.tup (p.1.map kV))/\RelV p.2 q.2.2) kvs xs/\
   ∃o es ep,h.get? a=some o/\o.ExactDict/\o.data= .dict es ep/\es.toList=xs.map (entryOfKey (tupleKind (dJ P w)))/\(xs.map (·.1)).Nodup
 | .set S n=>h.SetOf (intKind P w) a S n
 | .ins C dx fs=>H dx=some (.own a)/\fs.length<=1000/\dx≠a/\h.get? a=some (PySem.W.instObj C dx)/\
   ∃mA,h.Ns1 dx mA/\(∀f,qH (fs.lookup f) (mA f))/\PySem.Within mA (fs.map (·.1))
 | .own _=>∃o,h.get? a=some o
 | .xd fs=>∃mA,h.Ns1 a mA/\∀f,qH (fs.lookup f) (mA f)
 | .rng lo hi=>∃t u v,h.get? a=some {cls:=.type "range",data:=.fields #[.int lo t,.int hi u,.int 1 v]}
 | .frz o u=>h.get? a=some o/\bw H h a u
 | .tbl ps=>h.get? a=some {cls:=.none,data:=.fields ps}
 | .met f x=>h.get? a=some (PySem.W.methodObj (.ref f) (.ref x))
 | .ext φ=>φ h/\(∃o,h.get? a=some o)/\∀h1 h2:Heap,φ h1->(∀o,h1.get? a=some o->h2.get? a=some o)->φ h2
def HOk(H:Hp)(h:Heap):Prop:=∀a o,H a=some o->bw P w H h a o
end
section
variable{P:Program}{w:World}{H H':Hp}{h h':Heap}{a:Addr}{o:HO}
theorem bw.lt(x:bw P w H h a o):a<h.objs.size:=by
 cases o with
 |lst xs=>obtain⟨_,_,_,_,e⟩:=x;exact Heap.lt_size e
 |tup xs=>obtain⟨_,_,_,p⟩:=x;exact p.lt
 |dK kvs=>obtain⟨_,_,_,_,o,_,_,e,_⟩:=x;exact Heap.lt_size e
 |dT kvs=>obtain⟨_,_,_,_,o,_,_,e,_⟩:=x;exact Heap.lt_size e
 |set S n=>obtain⟨o,_,_,_,e,_⟩:=x;exact Heap.lt_size e
 |ins C dx fs=>obtain⟨_,_,_,e,_⟩:=x;exact Heap.lt_size e
 |own y=>obtain⟨_,e⟩:=x;exact Heap.lt_size e
 |xd fs=>obtain⟨_,⟨_,_,_,e,_⟩,_⟩:=x;exact Heap.lt_size e
 |rng lo hi=>obtain⟨_,_,_,e⟩:=x;exact Heap.lt_size e
 |frz ob u=>obtain⟨e,_⟩:=x;exact Heap.lt_size e
 |tbl ps=>exact Heap.lt_size (show h.get? a=some _ from x)
 |met f y=>exact Heap.lt_size (show h.get? a=some _ from x)
 |ext φ=>obtain⟨_,⟨_,e⟩,_⟩:=x;exact Heap.lt_size e
theorem Paired.mapP{α β:Type}{F G:α->β->Prop}:∀{l₁:List α} {l₂:List β},Paired F l₁ l₂->(∀a b,F a b->G a b)->Paired G l₁ l₂
 |_,_,.nil,_=>.nil
 |_,_,.cons r t,f=>.cons (f _ _ r) (Paired.mapP t f)
theorem bw.stay(x:bw P w H h a o)(k:∀b u,(b=a\/H b=some (.own a))->h.get? b=some u->h'.get? b=some u)
  (ho:∀b,H b=some (.own a)->H' b=some (.own a))(ht:∀b xs,H b=some (.tup xs)->H' b=some (.tup xs)):bw P w H' h' a o:=by
 induction o with
 |lst xs=>obtain⟨z,its,n,r,e⟩:=x;exact⟨z,its,n,r,k _ _ (.inl rfl) e⟩
 |tup xs=>obtain⟨z,its,r,ob,e,c⟩:=x;exact⟨z,its,r,ob,k _ _ (.inl rfl) e,c⟩
 |dK kvs=>obtain⟨z,y,vs,r,ob,es,ep,e,c⟩:=x;exact⟨z,y,vs,r,ob,es,ep,k _ _ (.inl rfl) e,c⟩
 |dT kvs=>
  obtain⟨z,y,xs,r,ob,es,ep,e,c⟩:=x;exact⟨z,y,xs,Paired.mapP r λ p q z=>⟨z.1,ht _ _ z.2.1,z.2.2⟩,ob,es,ep,k _ _ (.inl rfl) e,c⟩
 |set S n=>obtain⟨ob,es,ep,t,e,c⟩:=x;exact⟨ob,es,ep,t,k _ _ (.inl rfl) e,c⟩
 |ins C dx fs=>
  obtain⟨d,z,ne,e,mA,⟨od,es,ep,e2,c⟩,r⟩:=x;exact⟨ho _ d,z,ne,k _ _ (.inl rfl) e,mA,⟨od,es,ep,k _ _ (.inr d) e2,c⟩,r⟩
 |own y=>obtain⟨ob,e⟩:=x;exact⟨ob,k _ _ (.inl rfl) e⟩
 |xd fs=>obtain⟨mA,⟨od,es,ep,e,c⟩,r⟩:=x;exact⟨mA,⟨od,es,ep,k _ _ (.inl rfl) e,c⟩,r⟩
 |rng lo hi=>obtain⟨t,u,v,e⟩:=x;exact⟨t,u,v,k _ _ (.inl rfl) e⟩
 |frz ob u ih=>obtain⟨e,q⟩:=x;exact⟨k _ _ (.inl rfl) e,ih q⟩
 |tbl ps=>
  have e:h.get? a=some {cls:=.none,data:=.fields ps}:=x;show h'.get? a=some {cls:=.none,data:=.fields ps};exact k a _ (.inl rfl) e
 |met f y=>
  have e:h.get? a=some (PySem.W.methodObj (.ref f) (.ref y)):=x;show h'.get? a=some (PySem.W.methodObj (.ref f) (.ref y));exact k a _ (.inl rfl) e
 |ext φ=>obtain⟨p,⟨o,e⟩,st⟩:=x;exact⟨st _ _ p λ o q=>k _ _ (.inl rfl) q,⟨o,k _ _ (.inl rfl) e⟩,st⟩
theorem HOk.lt(x:HOk P w H h)(e:H a=some o):a<h.objs.size:=(x a o e).lt
theorem HOk.fresh(x:HOk P w H h)(e:h.objs.size<=a):H a=none:=by
 cases q:H a with
 |none=>rfl
 |some u=>exact absurd (Nat.lt_of_lt_of_le (x.lt q) e) (Nat.lt_irrefl _)
theorem HOk.kept(x:HOk P w H h)(k:∀b u,h.get? b=some u->h'.get? b=some u):HOk P w H h':=λ a o e=>
 (x a o e).stay (λ b u _ q=>k b u q) (λ _ q=>q) λ _ _ q=>q
theorem HOk.laid(x:HOk P w H h)(k:∀b u,h.get? b=some u->h'.get? b=some u)(hp:h.objs.size<=a)(new:bw P w (upd H a o) h' a o):HOk P w (upd H a o) h':=λ b u e=>by
 have hn:=x.fresh hp;by_cases hb:b=a
 ·subst hb;rw[au]at e;cases e;exact new
 ·rw[aV hb]at e
  exact(x b u e).stay (λ c v _ q=>k c v q) (λ c q=>by rw[aV (bD q hn)];exact q) λ c xs q=>by rw[aV (bD q hn)];exact q
end
def Rd(H:Hp)(a:Addr)(u:HO):Prop:=H a=some u\/∃o,H a=some (.frz o u)
theorem Rd.ok{P:Program}{w:World}{H:Hp}{h:Heap}{a:Addr}{u:HO}(r:Rd H a u)(x:HOk P w H h):bw P w H h a u:=by
 rcases r with r|⟨o,r⟩
 ·exact x a u r
 ·obtain⟨_,q⟩:=x a _ r
  exact q
def Mut:Option HO->Prop
 |some (.lst _)=>True
 |some (.dK _)=>True
 |some (.dT _)=>True
 |some (.set _ _)=>True
 |some (.ins _ _ _)=>True
 |some (.ext _)=>True
 |_=>False
section
variable{P:Program}{w:World}{H:Hp}{h h':Heap}{x e:Addr}{o':HO}
theorem HOk.write(ok:HOk P w H h)(mu:Mut (H x))(he:e=x\/H e=some (.own x))(k:∀b u,b≠e->h.get? b=some u->h'.get? b=some u)(heo:∃u,h'.get? e=some u)
  (new:bw P w (upd H x o') h' x o'):HOk P w (upd H x o') h':=λ b u q=>by
 have nown:∀c y,H c=some (.own y)->c≠x:=λ c y r z=>by subst z;rw[r]at mu;exact mu
 have ntup:∀c xs,H c=some (.tup xs)->c≠x:=λ c xs r z=>by subst z;rw[r]at mu;exact mu
 by_cases hb:b=x
 ·subst hb;rw[au]at q;cases q;exact new
 ·rw[aV hb]at q
  by_cases hbe:b=e
  ·have q':H b=some (.own x):=by
    rcases he with z|z
    ·exact absurd (hbe.trans z) hb
    ·rw[hbe];exact z
   rw[q]at q';cases q';obtain⟨v,hv⟩:=heo;exact⟨v,by rw[hbe];exact hv⟩
  ·refine(ok b u q).stay (λ c v hc r=>k c v ?_ r) (λ c r=>by rw[aV (nown c b r)];exact r) λ c xs r=>by rw[aV (ntup c xs r)];exact r
   rcases hc with rfl|hc
   ·exact hbe
   ·rintro rfl
    rcases he with z|z
    ·exact nown c b hc z
    ·rw[hc]at z;cases z;exact hb rfl
end
structure Un(fs ex:List Addr)(H H':Hp)(h h':Heap):Prop where
 keep:∀b o,h.get? b=some o->H b=none->b∉fs->b∉ex->h'.get? b=some o
 slot:∀b o,h.get? b=some o->H b=none->b∈fs->b∉ex->∃sl,h'.get? b=some {o with slots:=sl}
 free:∀b o,h.get? b=some o->H b=none->b∉ex->H' b=none
 there:∀b o,h.get? b=some o->b∉ex->∃o',h'.get? b=some o'
 tups:∀b xs,H b=some (.tup xs)->H' b=some (.tup xs)
 frzs:∀b o u,H b=some (.frz o u)->H' b=some (.frz o u)
 tbls:∀b ps,H b=some (.tbl ps)->∃more,H' b=some (.tbl (ps++more))
section
variable{fs fs' ex ex':List Addr}{H H1 H2:Hp}{h h1 h2 h':Heap}{a x e:Addr}{o:HO}
theorem Un.any(u:Un fs ex H H1 h h1){b:Addr}{ob:Obj}(q:h.get? b=some ob)(n:H b=none)(hx:b∉ex):∃sl,h1.get? b=some {ob with slots:=sl}:=by
 by_cases hb:b∈fs
 ·exact u.slot b ob q n hb hx
 ·exact⟨ob.slots,u.keep b ob q n hb hx⟩
theorem Un.kept(k:∀b u,h.get? b=some u->h'.get? b=some u):Un fs ex H H h h':=
 ⟨λ b ob q _ _ _=>k b ob q,λ b ob q _ _ _=>⟨ob.slots,k b ob q⟩,λ _ _ _ n _=>n,λ b ob q _=>⟨ob,k b ob q⟩,λ _ _ q=>q,λ _ _ _ q=>q,λ _ ps q=>⟨#[],by rw[q];simp⟩⟩
theorem Un.refl:Un fs ex H H h h:=Un.kept λ _ _ q=>q
theorem Un.laid(k:∀b u,h.get? b=some u->h'.get? b=some u)(hp:h.objs.size<=a)(hn:H a=none):Un fs ex H (upd H a o) h h' where
 keep:=λ b u q _ _ _=>k b u q
 slot:=λ b u q _ _ _=>⟨u.slots,k b u q⟩
 free:=λ b u q n _=>by rw[aV (Nat.ne_of_lt (Nat.lt_of_lt_of_le (Heap.lt_size q) hp))];exact n
 there:=λ b u q _=>⟨u,k b u q⟩
 tups:=λ b xs q=>by rw[aV (bD q hn)];exact q
 frzs:=λ b u xs q=>by rw[aV (bD q hn)];exact q
 tbls:=λ b ps q=>⟨#[],by rw[aV (bD q hn),q];simp⟩
theorem Un.write(mu:Mut (H x))(he:e=x\/H e=some (.own x))(k:∀b u,b≠e->h.get? b=some u->h'.get? b=some u)(heo:∃u,h'.get? e=some u):Un fs ex H (upd H x o) h h':=by
 have hx:∀b,H b=none->b≠x:=λ b n z=>by subst z;rw[n]at mu;exact mu
 have hb:∀b,H b=none->b≠e:=λ b n z=>by
  subst z;rcases he with r|r
  ·exact hx b n r
  ·rw[n]at r;cases r
 have hm:∀b u,H b=some u->¬Mut (some u)->b≠x:=λ b u q nm z=>by subst z;rw[q]at mu;exact nm mu
 refine⟨λ b u q n _ _=>k b u (hb b n) q,λ b u q n _ _=>⟨u.slots,k b u (hb b n) q⟩,λ b u q n _=>by rw[aV (hx b n)];exact n,λ b u q _=>?_,
  λ b xs q=>by rw[aV (hm b _ q λ z=>z)];exact q,λ b u xs q=>by rw[aV (hm b _ q λ z=>z)];exact q,λ b ps q=>⟨#[],by rw[aV (hm b _ q λ z=>z),q];simp⟩⟩
 by_cases hbe:b=e
 ·subst hbe;exact heo
 ·exact⟨u,k b u hbe q⟩
theorem Un.mono(u:Un fs ex H H1 h h1)(hs:∀b∈fs,b∈fs')(hx:∀b∈ex,b∈ex'):Un fs' ex' H H1 h h1:=
 ⟨λ b ob q n hb he=>u.keep b ob q n (λ z=>hb (hs b z)) λ z=>he (hx b z),λ _ _ q n _ he=>u.any q n λ z=>he (hx _ z),λ b ob q n he=>u.free b ob q n λ z=>he (hx b z),λ b ob q he=>u.there b ob q λ z=>he (hx b z),u.tups,u.frzs,u.tbls⟩
end
def trk(h:Heap)(H:Hp):List Addr:=(List.range h.objs.size).filter λ a=>(H a).isSome
def aFj(h:Heap)(H:Hp):Heap:=PySem.W.hideAll h (trk h H)
theorem aDj(h:Heap)(H:Hp):(aFj h H).objs.size=h.objs.size:=PySem.W.hideAll_size _ _
theorem aFi{h:Heap}{H:Hp}{b:Addr}{o:Obj}(e:h.get? b=some o)(n:H b=none):(aFj h H).get? b=some o:=
 PySem.W.hideAll_get _ e λ hm=>by
  have q:(H b).isSome=true:=(List.mem_filter.mp hm).2;rw[n]at q;simp at q
theorem aHH{h:Heap}{H:Hp}{b:Addr}{o:Obj}(e:(aFj h H).get? b=some o):h.get? b=some o/\H b=none:=by
 have e':h.get? b=some o:=PySem.W.of_hideAll (trk h H) e;refine⟨e',?_⟩;cases q:H b with
 |none=>rfl
 |some x=>
  have hm:b∈trk h H:=List.mem_filter.mpr ⟨List.mem_range.mpr (Heap.lt_size e'),by simp[q]⟩;have z:(aFj h H).get? b=none:=PySem.W.hideAll_none (trk h H) hm;rw[z]at e;cases e
def aHu(g h:Heap)(L:Addr):List (Addr×Obj):=(List.range h.objs.size).filterMap λ a=>if a=L\/(g.get? a).isSome=true then none else(h.get? a).map λ o=>(a,o)
def rest(g h:Heap)(L d:Addr):List (Addr×Obj):=(aHu g h L).filter λ p=>decide (p.1≠d)
structure Mod(K:PySem.W.Frag)(mg:Str->Option Value)(base:Heap):Prop where
 kin:K.In base
 glob:base.Ns mainGlobals mg
 blt:∃mb,base.Ns builtinsNs mb/\∀x:Str,x≠"__name__"->mb x=bootBuiltins x
 nolimit:base.NoLimit
structure Cx where
 prog:Program
 w:World
 K:PySem.W.Frag
 mg:Str->Option Value
 base:Heap
 A:Around
 N:List Str
 s₀:Shared
 H₀:Hp
 env:Env
 outer:List Env
 stack:List Env
 ex:List Addr
 fn:Str->Bool
 calm:Bool
 pn:List (Addr×Obj)
 xe:Value->Shared->Prop
 ta:List (Addr×Obj):=[]
 tq:Str:=""
def frs(l:List Env):List Addr:=l.filterMap (·.frame)
abbrev Cx.fs(X:Cx):List Addr:=frs X.outer
def Vis(sc:Scope)(x:Str):Prop:=sc.names.lookup x=some .local\/sc.names.lookup x=some .cell\/sc.names.lookup x=some .free
def Loc(sc:Scope)(x:Str):Prop:=sc.names.lookup x=some .local\/sc.names.lookup x=some .cell
def Look(env:Env)(h:Heap)(m:Str->Option Value)(x:Str)(u:Value):Prop:=
 (env.kindOf x=some .local/\m x=some u)\/((env.kindOf x=some .cell\/env.kindOf x=some .free)/\∃c,env.cells.lookup x=some c/\h.IsCell c (some u))
structure Cx.Ok(X:Cx):Prop where
 mod:Mod X.K X.mg X.base
 kind:X.env.scope.kind= .function
 glob:X.env.globals=mainGlobals
 blt:X.env.builtins=builtinsNs
 above:X.s₀.heap.objs.size<=X.env.locals
 inj:∀x y c,X.env.cells.lookup x=some c->X.env.cells.lookup y=some c->x=y
 has:∀x,(X.env.kindOf x=some .cell\/X.env.kindOf x=some .free)->∃c,X.env.cells.lookup x=some c
 cab:∀x c,X.fn x=true->X.env.cells.lookup x=some c->X.s₀.heap.objs.size<=c
 hd:X.calm=true->X.A.handled=none
 frames:X.A.frames=some X.stack
 stk:X.stack=X.outer\/(X.stack=X.env::X.outer/\X.env.frame=some X.env.locals)
 exf:∀b∈X.ex,b≠X.env.locals/\∀x c,X.env.cells.lookup x=some c->c≠b
 bs:∀b o,X.base.get? b=some o->X.s₀.heap.get? b=some o/\X.H₀ b=none
 bsz:X.base.objs.size<=X.s₀.heap.objs.size
 noex:∀b o,X.base.get? b=some o->b∉X.ex
 exfs:∀b∈X.ex,b∉X.fs
 funs:X.s₀.heap.FunFrames X.base X.outer
 frf:∀b∈X.fs,X.H₀ b=none
def aI6(q:Str)(oc:Obj):Prop:=∃vs t,oc.data= .fields vs/\vs[1]? =some (.str q t)
def TabOk(q:Str)(H:Hp)(ps:Array Value):Prop:=TriplesOk ps.toList/\∀pos cv,codeAmong pos ps.toList=some cv->∃c' oc,cv= .ref c'/\H c'=some (.frz oc (.own c'))/\aI6 q oc
theorem TabOk.mono(t:TabOk q H ps)(f:∀b o u,H b=some (.frz o u)->H' b=some (.frz o u)):TabOk q H' ps:=⟨t.1,λ pos cv hc=>let⟨c',oc,z,a,b⟩:=t.2 pos cv hc;⟨c',oc,z,f _ _ _ a,b⟩⟩
structure Inv(X:Cx)(pins:List (Addr×Obj))(σ:List (Option V))(H:Hp)(s:Shared):Prop where
 ok:X.Ok
 os:s.os=X.s₀.os
 bare:AllBare s.gens
 base:Un X.fs X.ex X.H₀ H X.s₀.heap s.heap
 loc:∃m,s.heap.Ns X.env.locals m/\∀(i:Nat) (x:Str) (v:V),X.N[i]? =some x->σ[i]? =some (some v)->Vis X.env.scope x->∃u,RelV v u/\Look X.env s.heap m x u
 cell:∀x c,X.env.cells.lookup x=some c->∃v,s.heap.IsCell c v
 free:H X.env.locals=none
 freeC:∀x c,X.env.cells.lookup x=some c->H c=none
 pin:∀p∈X.pn++pins,s.heap.get? p.1=some p.2/\H p.1=none/\p.1≠X.env.locals/\p.1∉X.fs/\∀v,p.2.data≠.cell v
 hok:HOk X.prog X.w H s.heap
 len:σ.length=X.N.length
 tab:∀p∈X.ta,H p.1=none/\p.1≠X.env.locals/\p.1∉X.fs/\(∀q∈X.pn++pins,q.1≠p.1)/\∃ps,s.heap.get? p.1=some {cls:=.none,data:=.fields ps}/\TabOk X.tq H ps
section
variable{X:Cx}{pins:List (Addr×Obj)}{σ:List (Option V)}{H H':Hp}{s:Shared}{h':Heap}
theorem Cx.Ok.nofr(ok:X.Ok){b:Addr}{o:Obj}(e:X.base.get? b=some o):b∉X.fs:=λ hb=>by
 have:=(ok.funs.mem hb).1
 rw[e]at this;cases this
theorem Inv.bs(I:Inv X pins σ H s):∀b o,X.base.get? b=some o->s.heap.get? b=some o/\H b=none:=λ b o e=>
 ⟨I.base.keep b o (I.ok.bs b o e).1 (I.ok.bs b o e).2 (I.ok.nofr e) (I.ok.noex b o e),I.base.free b o (I.ok.bs b o e).1 (I.ok.bs b o e).2 (I.ok.noex b o e)⟩
theorem Inv.bk(I:Inv X pins σ H s):∀b o,X.base.get? b=some o->s.heap.get? b=some o:=λ b o e=>(I.bs b o e).1
theorem Inv.mod(I:Inv X pins σ H s):Mod X.K X.mg X.base:=I.ok.mod
theorem Inv.kIn(I:Inv X pins σ H s):X.K.In s.heap:=I.ok.mod.kin.keeps I.bk
theorem Inv.fr(I:Inv X pins σ H s):∃m,Fr X.base X.env.locals s.heap m:=
 let⟨m,hn,_⟩:=I.loc
 ⟨m,hn,I.bk,Nat.le_trans I.ok.bsz I.ok.above⟩
theorem Inv.lt(I:Inv X pins σ H s):X.env.locals<s.heap.objs.size:=let⟨_,hn,_⟩:=I.loc;hn.lt
theorem Inv.sz(I:Inv X pins σ H s):X.s₀.heap.objs.size<=s.heap.objs.size:=Nat.le_trans I.ok.above (Nat.le_of_lt I.lt)
theorem Inv.nofs(I:Inv X pins σ H s){a:Addr}(h:s.heap.objs.size<=a):a∉X.fs:=λ hb=>by
 obtain⟨_,o,ho,_⟩:=I.ok.funs.mem hb;exact absurd (Nat.lt_of_lt_of_le (Heap.lt_size ho) (Nat.le_trans I.sz h)) (Nat.lt_irrefl _)
theorem Inv.cne(I:Inv X pins σ H s):∀x c,X.env.cells.lookup x=some c->c≠X.env.locals:=λ x c e z=>by
 obtain⟨v,o,ho,hd⟩:=I.cell x c e;obtain⟨m,⟨o',es,ep,ho',hd',_⟩,_⟩:=I.loc;rw[z,ho']at ho;cases ho;rw[hd']at hd;cases hd
theorem Inv.funs(I:Inv X pins σ H s):s.heap.FunFrames X.base X.outer:=by
 have all:∀(l:List Env),(∀b∈frs l,b∈X.fs)->X.s₀.heap.FunFrames X.base l->s.heap.FunFrames X.base l:=by
  intro l;induction l with
  |nil=>intro _ _;trivial
  |cons env r ih=>
   intro hs hl;obtain⟨hk,⟨L,o,hf,hn,ho,hd⟩,hr⟩:=hl;have hL:L∈X.fs:=hs L (by unfold frs;rw[List.filterMap_cons,hf];exact List.mem_cons_self);obtain⟨sl,e⟩:=I.base.slot L o ho (I.ok.frf L hL) hL λ z=>I.ok.exfs L z hL
   exact⟨hk,⟨L,_,hf,hn,e,hd⟩,ih (λ b hb=>hs b (by unfold frs;rw[List.filterMap_cons,hf];exact List.mem_cons_of_mem _ hb)) hr⟩
 exact all X.outer (λ _ hb=>hb) I.ok.funs
theorem Inv.stack(I:Inv X pins σ H s):s.heap.FunFrames X.base X.stack:=by
 rcases I.ok.stk with e|⟨e,hf⟩
 ·rw[e];exact I.funs
 ·rw[e]
  obtain⟨m,hn,_⟩:=I.loc;refine .cons (by rw[I.ok.kind];decide) hf hn ?_ I.funs;exact Heap.get?_none_of_le (Nat.le_trans I.ok.bsz I.ok.above)
theorem Inv.stkSub(I:Inv X pins σ H s):∀b∈frs X.stack,b∈X.env.locals::X.fs:=λ b hb=>by
 rcases I.ok.stk with e|⟨e,hf⟩
 ·rw[e]at hb;exact List.mem_cons_of_mem _ hb
 ·rw[e]at hb
  unfold frs at hb;rw[List.filterMap_cons,hf]at hb;exact hb
theorem Inv.stkFree(I:Inv X pins σ H s):∀b∈frs X.stack,H b=none:=λ b hb=>by
 rcases List.mem_cons.mp (I.stkSub b hb)with e|hb
 ·rw[e];exact I.free
 ·obtain⟨_,o,ho,_⟩:=I.ok.funs.mem hb
  exact I.base.free b o ho (I.ok.frf b hb) λ z=>I.ok.exfs b z hb
theorem Inv.step{g':Array GenState}{t':Nat}{d':Drawn}{ch:List Addr}(I:Inv X pins σ H s)
  (hch:∀b∈ch,(b∈X.ex\/X.s₀.heap.objs.size<=b)/\b≠X.env.locals/\(∀x c,X.env.cells.lookup x=some c->c≠b)/\∀p∈X.ta++(X.pn++pins),p.1≠b)
  (keep:∀b o,b≠X.env.locals->b∉X.fs->b∉ch->s.heap.get? b=some o->H b=none->h'.get? b=some o)
  (slot:∀b o,b≠X.env.locals->b∈X.fs->b∉ch->s.heap.get? b=some o->H b=none->∃sl,h'.get? b=some {o with slots:=sl})(free:∀b o,b∉ch->s.heap.get? b=some o->H b=none->H' b=none)
  (there:∀b o,b∉ch->s.heap.get? b=some o->∃o',h'.get? b=some o')
  (tups:∀b xs,H b=some (.tup xs)->H' b=some (.tup xs))(frzs:∀b o u,H b=some (.frz o u)->H' b=some (.frz o u))(tbls:∀b ps,H b=some (.tbl ps)->∃more,H' b=some (.tbl (ps++more)))
  (ns:∀m,s.heap.Ns X.env.locals m->h'.Ns X.env.locals m)(hok:HOk X.prog X.w H' h')(hg:AllBare g'):
  Inv X pins σ H' {s with heap:=h',gens:=g',drawn:=d',toks:=t'}:=by
 have neL:∀b o,X.s₀.heap.get? b=some o->b≠X.env.locals:=λ b o e=>Nat.ne_of_lt (Nat.lt_of_lt_of_le (Heap.lt_size e) I.ok.above)
 have neC:∀b o,X.s₀.heap.get? b=some o->b∉X.ex->b∉ch:=λ b o e hx hb=>by
  rcases(hch b hb).1 with z|z
  ·exact hx z
  ·exact absurd (Nat.lt_of_lt_of_le (Heap.lt_size e) z) (Nat.lt_irrefl _)
 have cellK:∀x c,X.env.cells.lookup x=some c->∀v,s.heap.IsCell c v->h'.IsCell c v:=λ x c e v ⟨o,ho,hd⟩=>by
  have nch:c∉ch:=λ z=>(hch c z).2.2.1 x c e rfl
  by_cases hc:c∈X.fs
  ·obtain⟨sl,q⟩:=slot c o (I.cne x c e) hc nch ho (I.freeC x c e)
   exact⟨_,q,hd⟩
  ·exact⟨o,keep c o (I.cne x c e) hc nch ho (I.freeC x c e),hd⟩
 refine⟨I.ok,I.os,hg,⟨λ b o e n hb hx=>?_,λ b o e n hb hx=>?_,λ b o e n hx=>?_,λ b o e hx=>?_,λ b xs e=>tups b xs (I.base.tups b xs e),λ b o xs e=>frzs b o xs (I.base.frzs b o xs e),λ b ps e=>?_⟩,?_,λ x c e=>?_,?_,λ x c e=>?_,λ p hp=>?_,hok,I.len,λ p hp=>?_⟩
 ·exact keep b o (neL b o e) hb (neC b o e hx) (I.base.keep b o e n hb hx) (I.base.free b o e n hx)
 ·obtain⟨sl,e1⟩:=I.base.slot b o e n hb hx
  obtain⟨sl',e2⟩:=slot b _ (neL b o e) hb (neC b o e hx) e1 (I.base.free b o e n hx);exact⟨sl',e2⟩
 ·obtain⟨o',e1⟩:=I.base.there b o e hx
  exact free b o' (neC b o e hx) e1 (I.base.free b o e n hx)
 ·obtain⟨o',e1⟩:=I.base.there b o e hx
  exact there b o' (neC b o e hx) e1
 ·obtain⟨m1,e1⟩:=I.base.tbls b ps e
  obtain⟨m2,e2⟩:=tbls b _ e1;exact⟨m1++m2,by rw[e2,Array.append_assoc]⟩
 ·obtain⟨m,hn,hl⟩:=I.loc
  refine⟨m,ns m hn,λ i x v e1 e2 e3=>?_⟩;obtain⟨u,r,l⟩:=hl i x v e1 e2 e3;refine⟨u,r,?_⟩;rcases l with l|⟨k,c,e,z⟩
  ·exact .inl l
  ·exact .inr ⟨k,c,e,cellK x c e _ z⟩
 ·obtain⟨v,z⟩:=I.cell x c e
  exact⟨v,cellK x c e v z⟩
 ·obtain⟨m,⟨o,_,_,ho,_⟩,_⟩:=I.loc
  exact free _ o (λ z=>(hch _ z).2.1 rfl) ho I.free
 ·obtain⟨v,o,ho,hd⟩:=I.cell x c e
  exact free c o (λ z=>(hch c z).2.2.1 x c e rfl) ho (I.freeC x c e)
 ·obtain⟨e,n,ne,nf,d⟩:=I.pin p hp
  have nch:p.1∉ch:=λ z=>(hch p.1 z).2.2.2 p (List.mem_append_right _ hp) rfl
  exact⟨keep p.1 p.2 ne nf nch e n,free p.1 p.2 nch e n,ne,nf,d⟩
 ·obtain⟨n,ne,nf,np,ps,e,t⟩:=I.tab p hp
  have nch:p.1∉ch:=λ z=>(hch p.1 z).2.2.2 p (List.mem_append_left _ hp) rfl
  exact⟨free p.1 _ nch e n,ne,nf,np,ps,keep p.1 _ ne nf nch e n,t.mono frzs⟩
theorem Inv.pinL(I:Inv X pins σ H s)(hp:p∈X.ta++(X.pn++pins)):p.1<s.heap.objs.size:=by
 rcases List.mem_append.mp hp with z|z
 ·obtain⟨_,_,_,_,_,e,_⟩:=I.tab p z
  exact Heap.lt_size e
 ·exact Heap.lt_size (I.pin p z).1
theorem Inv.un{t':Nat}(I:Inv X pins σ H s)(u:Un X.fs [] H H' s.heap h')(hok:HOk X.prog X.w H' h'):Inv X pins σ H' {s with heap:=h',toks:=t'}:=by
 obtain⟨m,⟨o,es,ep,ho,r⟩,_⟩:=id I.loc;obtain⟨sl,hL⟩:=u.any ho I.free (by simp);exact I.step (g':=s.gens) (d':=s.drawn) (ch:=[]) (λ _ z=>nomatch z) (λ b o _ hb _ e n=>u.keep b o e n hb (by simp)) (λ b o _ hb _ e n=>u.slot b o e n hb (by simp)) (λ b o _ e n=>u.free b o e n (by simp)) (λ b o _ e=>u.there b o e (by simp)) u.tups u.frzs u.tbls (λ m' hm=>by
  obtain⟨o',es',ep',ho',r'⟩:=hm;rw[ho]at ho';cases ho';exact⟨_,es',ep',hL,r'⟩) hok I.bare
theorem Inv.call{g':Array GenState}{t':Nat}{d':Drawn}{ch:List Addr}(I:Inv X pins σ H s)(u:Un (frs X.stack) ch H H' s.heap h')(hok:HOk X.prog X.w H' h')(hg:AllBare g')
  (hch:∀b∈ch,(b∈X.ex\/X.s₀.heap.objs.size<=b)/\b≠X.env.locals/\(∀x c,X.env.cells.lookup x=some c->c≠b)/\∀p∈X.ta++(X.pn++pins),p.1≠b):
  Inv X pins σ H' {s with heap:=h',gens:=g',drawn:=d',toks:=t'}:=by
 obtain⟨m,⟨o,es,ep,ho,r⟩,_⟩:=id I.loc;obtain⟨sl,hL⟩:=u.any ho I.free λ z=>(hch _ z).2.1 rfl
 exact I.step (ch:=ch) hch (λ b o hL hb hc e n=>u.keep b o e n (λ z=>(List.mem_cons.mp (I.stkSub b z)).elim hL hb) hc) (λ b o _ _ hc e n=>u.any e n hc) (λ b o hc e n=>u.free b o e n hc) (λ b o hc e=>u.there b o e hc) u.tups u.frzs u.tbls (λ m' hm=>by
  obtain⟨o',es',ep',ho',r'⟩:=hm;rw[ho]at ho';cases ho';exact⟨_,es',ep',hL,r'⟩) hok hg
theorem Inv.turned{t':Nat}{it:Addr}(I:Inv X pins σ H s)(k:∀b o,b≠it->s.heap.get? b=some o->h'.get? b=some o)(hn:H it=none)(hL:it≠X.env.locals)
  (h1:it∈X.ex\/X.s₀.heap.objs.size<=it)(h2:∀x c,X.env.cells.lookup x=some c->c≠it)(h3:∀p∈X.ta++(X.pn++pins),p.1≠it):Inv X pins σ H {s with heap:=h',toks:=t'}:=by
 have nit:∀b u,H b=some u->b≠it:=λ b u e z=>by rw[z,hn]at e;cases e
 refine I.step (g':=s.gens) (d':=s.drawn) (ch:=[it]) (λ b hb=>?_) (λ b o _ _ hc e _=>k b o (λ z=>hc (by simp[z])) e) (λ b o _ _ hc e _=>⟨o.slots,k b o (λ z=>hc (by simp[z])) e⟩) (λ _ _ _ _ n=>n)
  (λ b o hc e=>⟨o,k b o (λ z=>hc (by simp[z])) e⟩) (λ _ _ e=>e) (λ _ _ _ e=>e) (λ b ps e=>⟨#[],by rw[e];simp⟩) (λ m hm=>?_) (λ b u e=>?_) I.bare
 ·have e:b=it:=by simpa using hb
  subst e;exact⟨h1,hL,h2,h3⟩
 ·obtain⟨o,es,ep,ho,r⟩:=hm
  exact⟨o,es,ep,k _ o (Ne.symm hL) ho,r⟩
 ·refine(I.hok b u e).stay (λ c v hc q=>k c v ?_ q) (λ _ q=>q) λ _ _ q=>q
  rcases hc with z|z
  ·rw[z];exact nit b u e
  ·exact nit c _ z
theorem Inv.tok(I:Inv X pins σ H s)(t:Nat):Inv X pins σ H {s with toks:=t}:=I.un (h':=s.heap) (t':=t) Un.refl I.hok
theorem Inv.kept{t':Nat}(I:Inv X pins σ H s)(k:∀b u,s.heap.get? b=some u->h'.get? b=some u):Inv X pins σ H {s with heap:=h',toks:=t'}:=I.un (Un.kept k) (I.hok.kept k)
theorem Inv.laid{a:Addr}{o:HO}{t':Nat}(I:Inv X pins σ H s)(k:∀b u,s.heap.get? b=some u->h'.get? b=some u)(hp:s.heap.objs.size<=a)(new:bw X.prog X.w (upd H a o) h' a o):
  Inv X pins σ (upd H a o) {s with heap:=h',toks:=t'}:=I.un (Un.laid k hp (I.hok.fresh hp)) (I.hok.laid k hp new)
theorem Inv.write{x e:Addr}{o:HO}{t':Nat}(I:Inv X pins σ H s)(mu:Mut (H x))(he:e=x\/H e=some (.own x))(k:∀b u,b≠e->s.heap.get? b=some u->h'.get? b=some u)(heo:∃u,h'.get? e=some u)
  (new:bw X.prog X.w (upd H x o) h' x o):Inv X pins σ (upd H x o) {s with heap:=h',toks:=t'}:=I.un (Un.write mu he k heo) (I.hok.write mu he k heo new)
theorem Inv.weak{σ':List (Option V)}(I:Inv X pins σ H s)(hl:σ'.length=σ.length)(w:∀(i:Nat) v,σ'[i]? =some (some v)->σ[i]? =some (some v)):Inv X pins σ' H s:=
 ⟨I.ok,I.os,I.bare,I.base,let⟨m,hn,hl'⟩:=I.loc;⟨m,hn,λ i x v e1 e2 e3=>hl' i x v e1 (w i v e2) e3⟩,I.cell,I.free,I.freeC,I.pin,I.hok,hl.trans I.len,I.tab⟩
theorem Inv.pins_of{pins':List (Addr×Obj)}(I:Inv X pins σ H s)(h:∀p∈pins',s.heap.get? p.1=some p.2/\H p.1=none/\p.1≠X.env.locals/\p.1∉X.fs/\∀v,p.2.data≠.cell v)(h2:∀q∈pins',∀p∈X.ta,q.1≠p.1):Inv X pins' σ H s:=
 ⟨I.ok,I.os,I.bare,I.base,I.loc,I.cell,I.free,I.freeC,λ p hp=>(List.mem_append.mp hp).elim (λ z=>I.pin p (List.mem_append_left _ z)) (h p),I.hok,I.len,λ p hp=>let⟨a,b,c,d,e⟩:=I.tab p hp;⟨a,b,c,λ q hq=>(List.mem_append.mp hq).elim (λ z=>d q (List.mem_append_left _ z)) (λ z=>h2 q z p hp),e⟩⟩
theorem u6{N:List Str}(hN:N.Nodup){i j:Nat}{x:Str}(a:N[i]? =some x)(b:N[j]? =some x):i=j:=by
 obtain⟨h1,e1⟩:=List.getElem?_eq_some_iff.mp a;obtain⟨h2,e2⟩:=List.getElem?_eq_some_iff.mp b;exact(List.getElem_inj hN).mp (e1.trans e2.symm)
theorem wL{M:Model}{A:Around}{E:Value->Shared->Prop}{i:Nat}{x:Str}{v:V}{u:Value}{Q:Unit->Shared->Prop}(I:Inv X pins σ H s)(hN:X.N.Nodup)(hi:X.N[i]? =some x)(hx:Loc X.env.scope x)(r:RelV v u)
  (h:∀s',Inv X pins (σ.set i (some v)) H s'->(∃a,Heap.SameBut a s.heap s'.heap/\(a=X.env.locals\/X.env.cells.lookup x=some a))->Q () s')(hf:X.fn x=true\/X.env.scope.names.lookup x=some .local:=by first|exact .inl rfl|exact .inr rfl|assumption):wpAny M A (storeName X.env x u) Q E s:=by
 obtain⟨m,hn,hl⟩:=id I.loc;have hcls:(X.env.scope.kind== .class||(X.env.scope.kind== .module&&X.env.locals !=X.env.globals))=false:=by rw[I.ok.kind];rfl
 have hiσ:i<σ.length:=by rw[I.len];exact(List.getElem?_eq_some_iff.mp hi).1
 have cne:=I.cne;have tracked:∀{a:Addr} {h':Heap},(∃o,s.heap.get? a=some o/\H a=none)->Heap.SameBut a s.heap h'->HOk X.prog X.w H h':=λ{a h'} ha hs b ob e=>by
  obtain⟨_,_,hfree⟩:=ha;refine(I.hok b ob e).stay (λ c w' hc q=>(hs.2 c ?_).trans q) (λ _ q=>q) λ _ _ q=>q
  rintro rfl;rcases hc with rfl|hc
  ·rw[hfree]at e;cases e
  ·rw[hfree]at hc;cases hc
 rcases hx with hk|hk
 ·refine wpAny_storeName_local hk hn (λ h' hn' hs=>?_) hcls
  obtain⟨oL,_,_,hoL,_⟩:=id hn;refine h _ ⟨I.ok,I.os,I.bare,⟨λ b o e n hb hx=>?_,λ b o e n hb hx=>?_,I.base.free,λ b o e hx=>?_,I.base.tups,I.base.frzs,I.base.tbls⟩,⟨_,hn',λ j y v' e1 e2 e3=>?_⟩,λ y c e=>?_,I.free,I.freeC,λ p hp=>?_,tracked ⟨oL,hoL,I.free⟩ hs,by simpa using I.len,λ p hp=>?_⟩ ⟨_,hs,.inl rfl⟩
  ·exact(hs.2 b (Nat.ne_of_lt (Nat.lt_of_lt_of_le (Heap.lt_size e) I.ok.above))).trans (I.base.keep b o e n hb hx)
  ·obtain⟨sl,e1⟩:=I.base.slot b o e n hb hx
   exact⟨sl,(hs.2 b (Nat.ne_of_lt (Nat.lt_of_lt_of_le (Heap.lt_size e) I.ok.above))).trans e1⟩
  ·obtain⟨o',e1⟩:=I.base.there b o e hx
   exact⟨o',(hs.2 b (Nat.ne_of_lt (Nat.lt_of_lt_of_le (Heap.lt_size e) I.ok.above))).trans e1⟩
  ·by_cases hj:j=i
   ·subst hj
    rw[hi]at e1;cases e1;rw[List.getElem?_set_self hiσ]at e2;cases e2;exact⟨u,r,.inl ⟨hk,by simp⟩⟩
   ·rw[List.getElem?_set_ne (Ne.symm hj)]at e2
    obtain⟨u',r',q⟩:=hl j y v' e1 e2 e3;refine⟨u',r',?_⟩;rcases q with ⟨k,e⟩|⟨k,c,e,z⟩
    ·refine .inl ⟨k,?_⟩
     have:y≠x:=λ e=>hj (u6 hN e1 (e▸hi))
     simp[this,e]
    ·exact .inr ⟨k,c,e,z.sameBut hs (cne y c e)⟩
  ·obtain⟨w',z⟩:=I.cell y c e
   exact⟨w',z.sameBut hs (cne y c e)⟩
  ·obtain⟨e,n,ne,nf,d⟩:=I.pin p hp
   exact⟨(hs.2 p.1 ne).trans e,n,ne,nf,d⟩
  ·obtain⟨n,ne,nf,np,ps,e,t⟩:=I.tab p hp
   exact⟨n,ne,nf,np,ps,(hs.2 p.1 ne).trans e,t⟩
 ·have hfn:X.fn x=true:=by
   rcases hf with z|z
   ·exact z
   ·rw[z]at hk;cases hk
  obtain⟨c,hc⟩:=I.ok.has x (.inl hk);obtain⟨w',z⟩:=I.cell x c hc;refine wpAny_storeName_cell I.ok.kind hk hc z (λ h' hc' hs=>?_);obtain⟨oc,hoc,hocd⟩:=id z;refine h {s with heap:=h'} ⟨I.ok,I.os,I.bare,⟨λ b o e n hb hx=>?_,λ b o e n hb hx=>?_,I.base.free,λ b o e hx=>?_,I.base.tups,I.base.frzs,I.base.tbls⟩,⟨m,hn.sameBut hs (Ne.symm (cne x c hc)),λ j y v' e1 e2 e3=>?_⟩,λ y c' e=>?_,I.free,I.freeC,λ p hp=>?_,tracked ⟨oc,hoc,I.freeC x c hc⟩ hs,by simpa using I.len,λ p hp=>?_⟩ ⟨c,hs,.inr hc⟩
  ·exact(hs.2 b (Nat.ne_of_lt (Nat.lt_of_lt_of_le (Heap.lt_size e) (I.ok.cab x c hfn hc)))).trans (I.base.keep b o e n hb hx)
  ·obtain⟨sl,e1⟩:=I.base.slot b o e n hb hx
   exact⟨sl,(hs.2 b (Nat.ne_of_lt (Nat.lt_of_lt_of_le (Heap.lt_size e) (I.ok.cab x c hfn hc)))).trans e1⟩
  ·obtain⟨o',e1⟩:=I.base.there b o e hx
   exact⟨o',(hs.2 b (Nat.ne_of_lt (Nat.lt_of_lt_of_le (Heap.lt_size e) (I.ok.cab x c hfn hc)))).trans e1⟩
  ·by_cases hj:j=i
   ·subst hj
    rw[hi]at e1;cases e1;rw[List.getElem?_set_self hiσ]at e2;cases e2;exact⟨u,r,.inr ⟨.inl hk,c,hc,hc'⟩⟩
   ·rw[List.getElem?_set_ne (Ne.symm hj)]at e2
    obtain⟨u',r',q⟩:=hl j y v' e1 e2 e3;refine⟨u',r',?_⟩;rcases q with q|⟨k,c',e,z'⟩
    ·exact .inl q
    ·refine .inr ⟨k,c',e,z'.sameBut hs ?_⟩
     rintro rfl;exact hj (u6 hN e1 (I.ok.inj _ _ _ e hc▸hi))
  ·by_cases hcc:c'=c
   ·subst hcc;exact⟨_,hc'⟩
   ·obtain⟨w2,z2⟩:=I.cell y c' e
    exact⟨w2,z2.sameBut hs hcc⟩
  ·obtain⟨e,n,ne,nf,d⟩:=I.pin p hp
   refine⟨(hs.2 p.1 ?_).trans e,n,ne,nf,d⟩;intro q;rw[q,hoc]at e;have q':oc=p.2:=Option.some.inj e;exact d w' (by rw[<-q'];exact hocd)
  ·obtain⟨n,ne,nf,np,ps,e,t⟩:=I.tab p hp
   refine⟨n,ne,nf,np,ps,(hs.2 p.1 ?_).trans e,t⟩;intro q;rw[q,hoc]at e;rw[Option.some.inj e]at hocd;cases hocd
theorem pB{M:Model}{A:Around}{E:Value->Shared->Prop}{i:Nat}{x:Str}{v:V}{u:Value}{Q:Unit->Shared->Prop}(I:Inv X pins σ H s)(hN:X.N.Nodup)(hi:X.N[i]? =some x)(hx:Loc X.env.scope x)(r:RelV v u)
  (h:∀s',Inv X pins (σ.set i (some v)) H s'->Q () s')(hf:X.fn x=true\/X.env.scope.names.lookup x=some .local:=by first|exact .inl rfl|exact .inr rfl|assumption):wpAny M A (storeName X.env x u) Q E s:=
 wL I hN hi hx r (λ s' I' _=>h s' I') hf
theorem Inv.call'{s':Shared}{ch:List Addr}(I:Inv X pins σ H s)(ho:s'.os=s.os)(u:Un (frs X.stack) ch H H' s.heap s'.heap)(hok:HOk X.prog X.w H' s'.heap)(hg:AllBare s'.gens)
  (hch:∀b∈ch,(b∈X.ex\/X.s₀.heap.objs.size<=b)/\b≠X.env.locals/\(∀x c,X.env.cells.lookup x=some c->c≠b)/\∀p∈X.ta++(X.pn++pins),p.1≠b):Inv X pins σ H' s':=by
 obtain⟨h',g',d',t',o'⟩:=s';have e:o'=s.os:=ho;subst e;exact I.call (g':=g') (t':=t') (d':=d') u hok hg hch
end
abbrev XK:=Value->Option Addr->Hp->Prop
abbrev St:=List (Option V)
abbrev VK:=V->Hp->Prop
abbrev TE:=St->Hp->VK->Prop
abbrev TT:=St->Hp->(Bool->Hp->Prop)->Prop
abbrev TA:=St->Hp->(List V->Hp->Prop)->Prop
structure Ends where
 nx:St->Hp->Prop
 rt:VK
 bk:St->Hp->Prop:=λ _ _=>False
 ct:St->Hp->Prop:=λ _ _=>False
abbrev TS:=Ends->St->Hp->Prop
def EP(X:Cx)(pins:List (Addr×Obj))(σ:St)(Q:VK)(u:Value)(s':Shared):Prop:=∃v H',Inv X pins σ H' s'/\RelV v u/\Q v H'
def TP(X:Cx)(pins:List (Addr×Obj))(σ:St)(Q:Bool->Hp->Prop)(b:Bool)(s':Shared):Prop:=∃H',Inv X pins σ H' s'/\Q b H'
def AP(X:Cx)(pins:List (Addr×Obj))(σ:St)(Q:List V->Hp->Prop)(us:List Value)(s':Shared):Prop:=∃vs H',Inv X pins σ H' s'/\Vals vs us/\Q vs H'
def SP(X:Cx)(pins:List (Addr×Obj))(D:Ends)(f:Flow)(s':Shared):Prop:=
 match f with
 | .next=>∃σ' H',Inv X pins σ' H' s'/\D.nx σ' H'
 | .brk=>∃σ' H',Inv X pins σ' H' s'/\D.bk σ' H'
 | .cont=>∃σ' H',Inv X pins σ' H' s'/\D.ct σ' H'
 | .ret u=>∃v σ' H',Inv X pins σ' H' s'/\RelV v u/\D.rt v H'
def PE(X:Cx)(e:Expr)(t:TE):Prop:=
 ∀(pins:List (Addr×Obj)) (s:Shared) (σ:St) (H:Hp) (Q:VK),Inv X pins σ H s->t σ H Q->wpAny (model X.prog X.w) X.A (eval e X.env) (EP X pins σ Q) X.xe s
def PT(X:Cx)(e:Expr)(t:TT):Prop:=
 ∀(pins:List (Addr×Obj)) (s:Shared) (σ:St) (H:Hp) (Q:Bool->Hp->Prop),Inv X pins σ H s->t σ H Q->wpAny (model X.prog X.w) X.A (isTrue e X.env (eval e X.env)) (TP X pins σ Q) X.xe s
def PW(X:Cx)(e:Expr)(t:TT):Prop:=
 ∀(whole:Sem Value) (pins:List (Addr×Obj)) (s:Shared) (σ:St) (H:Hp) (Q:Bool->Hp->Prop),Inv X pins σ H s->t σ H Q->wpAny (model X.prog X.w) X.A (isTrue e X.env whole) (TP X pins σ Q) X.xe s
theorem PW.pt{X:Cx}{e:Expr}{t:TT}(h:PW X e t):PT X e t:=h _
def PA(X:Cx)(es:List Expr)(t:TA):Prop:=
 ∀(pos:Pos) (pins:List (Addr×Obj)) (s:Shared) (σ:St) (H:Hp) (Q:List V->Hp->Prop),Inv X pins σ H s->t σ H Q->wpAny (model X.prog X.w) X.A (spliced (backTo pos (starEach es X.env))) (AP X pins σ Q) X.xe s
def PS(X:Cx)(st:Stmt)(t:TS):Prop:=
 ∀(pins:List (Addr×Obj)) (s:Shared) (σ:St) (H:Hp) (D:Ends),Inv X pins σ H s->t D σ H->wpAny (model X.prog X.w) X.A (exec st X.env) (SP X pins D) X.xe s
def PSs(X:Cx)(st:List Stmt)(t:TS):Prop:=
 ∀(pins:List (Addr×Obj)) (s:Shared) (σ:St) (H:Hp) (D:Ends),Inv X pins σ H s->t D σ H->wpAny (model X.prog X.w) X.A (execs st X.env) (SP X pins D) X.xe s
theorem thn{α:Type}{t:Sem α}{Q Q':α->Shared->Prop}{M:Model}{A:Around}{E:Value->Shared->Prop}{s:Shared}(h:wpAny M A t Q E s)(hQ:∀a s,Q a s->Q' a s):wpAny M A t Q' E s:=wpAny_mono h hQ λ _ _ x=>x
section
variable{X:Cx}
theorem bin{a b:Expr}{ta tb:TE}(ha:PE X a ta)(hb:PE X b tb){pins:List (Addr×Obj)}{s:Shared}{σ:St}{H:Hp}{R:V->V->Hp->Prop}(I:Inv X pins σ H s)(h:ta σ H λ x H1=>tb σ H1 λ y H2=>R x y H2)
  {α:Type}{Q:α->Shared->Prop}{f:Value->Value->Sem α}
  (hf:∀v u s2 x y H2,Inv X pins σ H2 s2->RelV x v->RelV y u->R x y H2->wpAny (model X.prog X.w) X.A (f v u) Q X.xe s2):
  wpAny (model X.prog X.w) X.A (eval a X.env) (λ v s₁=>wpAny (model X.prog X.w) X.A (eval b X.env) (λ u s₂=>wpAny (model X.prog X.w) X.A (f v u) Q X.xe s₂) X.xe s₁) X.xe s:=by
 refine thn (ha pins s σ H _ I h) λ v s1 ⟨x,H1,I1,r1,q1⟩=>?_
 refine thn (hb pins s1 σ H1 _ I1 q1) λ u s2 ⟨y,H2,I2,r2,q2⟩=>?_
 exact hf v u s2 x y H2 I2 r1 r2 q2
def nF(i:Nat):TE:=λ σ H Q=>∃v,σ[i]? =some (some v)/\Q v H
def tC(v:V):TE:=λ _ H Q=>Q v H
theorem fY{i:Nat}{x:Str}{pos:Pos}(hN:X.N[i]? =some x)(hv:Vis X.env.scope x)(hd:(x==("__debug__":Str))=false:=by decide)(hcd:(x==("__classdict__":Str))=false:=by decide):PE X (.Name x pos) (nF i):=by
 intro pins s σ H Q I h;obtain⟨v,e,h⟩:=h;obtain⟨m,hn,hl⟩:=I.loc;obtain⟨u,r,l⟩:=hl i x v hN e hv;have fin:EP X pins σ Q u s:=⟨v,H,I,r,h⟩;rcases l with ⟨hk,hm⟩|⟨hk,c,hc,hcell⟩
 ·exact wpAny_Name (wpAny_loadName_local I.ok.kind hk hn hm fin) hd
 ·rcases hk with hk|hk
  ·exact wpAny_Name (wpAny_loadName_cell I.ok.kind hk hc hcell fin) hd
  ·exact wpAny_Name (wpAny_loadName_free I.ok.kind hk hc hcell fin hcd) hd
theorem aEu{i j pos}:PE X (.Constant (.int i) j pos) (tC (.int i)):=λ _ _ _ H _ I h=>wpAny_Constant_int ⟨.int i,H,I.tok _,⟨_,rfl⟩,h⟩
theorem aEy{b j pos}:PE X (.Constant (.bool b) j pos) (tC (.bl b)):=λ _ _ _ H _ I h=>Constant_bool ⟨.bl b,H,I,rfl,h⟩
theorem aJP{j pos}:PE X (.Constant .none j pos) (tC .non):=λ _ _ _ H _ I h=>Constant_none ⟨.non,H,I,rfl,h⟩
theorem dq{x j pos}:PE X (.Constant (.str x) j pos) (tC (.str x)):=λ _ _ _ H _ I h=>Calls.Constant_str ⟨.str x,H,I.tok _,⟨_,rfl⟩,h⟩
def Gl(X:Cx)(x:Str):Prop:=X.env.kindOf x=some .globalImplicit
theorem m6{E:Value->Shared->Prop}{pins:List (Addr×Obj)}{s:Shared}{σ:St}{H:Hp}{x:Str}{u:Value}{pos:Pos}{Q:Value->Shared->Prop}(I:Inv X pins σ H s)(hg:Gl X x)(hm:X.mg x=some u)(h:Q u s)
  (hd:(x==("__debug__":Str))=false:=by decide):wpAny (model X.prog X.w) X.A (eval (.Name x pos) X.env) Q E s:=
 Calls.Name_function_global I.ok.kind hg (Calls.loadGlobal_global (by rw[I.ok.glob];exact I.mod.glob.keeps I.bk) hm h) hd
theorem oX{E:Value->Shared->Prop}{pins:List (Addr×Obj)}{s:Shared}{σ:St}{H:Hp}{x:Str}{u:Value}{pos:Pos}{Q:Value->Shared->Prop}(I:Inv X pins σ H s)(hg:Gl X x)(hm:X.mg x=none)(hv:bootBuiltins x=some u)(h:Q u s)
  (hn:x≠"__name__":=by decide)(hd:(x==("__debug__":Str))=false:=by decide):wpAny (model X.prog X.w) X.A (eval (.Name x pos) X.env) Q E s:=by
 obtain⟨mb,h1,h2⟩:=I.mod.blt;exact Calls.Name_function_global I.ok.kind hg (Calls.loadGlobal_builtin (by rw[I.ok.glob];exact I.mod.glob.keeps I.bk) hm (by rw[I.ok.blt];exact h1.keeps I.bk) ((h2 x hn).trans hv) h) hd
theorem dH{x:Str}{v:V}{u:Value}{pos:Pos}(hg:Gl X x)(hm:X.mg x=some u)(r:RelV v u)(hd:(x==("__debug__":Str))=false:=by decide):PE X (.Name x pos) (tC v):=
 λ _ _ _ H _ I h=>m6 I hg hm ⟨v,H,I,r,h⟩ hd
theorem aCe{x:Str}{v:V}{u:Value}{pos:Pos}(hg:Gl X x)(hm:X.mg x=none)(hv:bootBuiltins x=some u)(r:RelV v u)(hn:x≠"__name__":=by decide)(hd:(x==("__debug__":Str))=false:=by decide):PE X (.Name x pos) (tC v):=
 λ _ _ _ H _ I h=>oX I hg hm hv ⟨v,H,I,r,h⟩ hn hd
def t2I(ta tb:TE)(k:Int->Int->Hp->Prop):St->Hp->Prop:=λ σ H=>ta σ H λ x H1=>tb σ H1 λ y H2=>∃i j,x= .int i/\y= .int j/\k i j H2
variable{a b:Expr}{ta tb:TE}{pos:Pos}
def PC(X:Cx)(op:CmpOp)(a b:Expr)(t:TE):Prop:=
 ∀(pins:List (Addr×Obj)) (s:Shared) (σ:St) (H:Hp) (Q:VK),Inv X pins σ H s->t σ H Q->
  wpAny (model X.prog X.w) X.A (eval a X.env) (λ v s₁=>wpAny (model X.prog X.w) X.A (eval b X.env) (λ u s₂=>wpAny (model X.prog X.w) X.A (compareOp op v u) (EP X pins σ Q) X.xe s₂) X.xe s₁) X.xe s
theorem aFJ(b:Expr){op:CmpOp}(h:op≠.In)(h2:op≠.NotIn):behindInMarks op b=false:=by
 have e1:(op==CmpOp.In)=false:=by cases op<;>first|rfl|exact absurd rfl h
 have e2:(op==CmpOp.NotIn)=false:=by cases op<;>first|rfl|exact absurd rfl h2
 cases b<;>simp[behindInMarks,e1,e2]
def aK6(p:Int->Int->Bool)(ta tb:TE):TE:=λ σ H Q=>t2I ta tb (λ i j H2=>Q (.bl (p i j)) H2) σ H
abbrev aL4:TE->TE->TE:=aK6 λ i j=>!decide (i=j)
theorem aJU{op:CmpOp}{p:Int->Int->Bool}(ha:PE X a ta)(hb:PE X b tb)
  (rule:∀(i j:Int) (t u:Tok) (Q:Value->Shared->Prop) (s:Shared),Q (.bool (p i j)) s->wpAny (model X.prog X.w) X.A (compareOp op (.int i t) (.int j u)) Q X.xe s):PC X op a b (aK6 p ta tb):=by
 intro pins s σ H Q I h;refine bin ha hb I h λ v u s2 x y H2 I2 rx ry q=>?_
 obtain⟨i,j,rfl,rfl,q⟩:=q;obtain⟨t,rfl⟩:=rx;obtain⟨t',rfl⟩:=ry;exact rule i j t t' _ s2 ⟨.bl _,H2,I2,rfl,q⟩
theorem aJT(ha:PE X a ta)(hb:PE X b tb):PC X .NotEq a b (aL4 ta tb):=aJU ha hb λ _ _ _ _ _ _ h=>ne_int (by rw[bne,Bool.beq_eq_decide_eq];exact h)
def tB(t:TE):TT:=λ σ H Q=>t σ H λ x H1=>∃c,x= .bl c/\Q c H1
theorem aJC{op:CmpOp}{t:TE}(h:PC X op a b t)(h1:behindInMarks op b=false:=by first|exact aFJ _ (by decide) (by decide)|rfl):PT X (.Compare a [op] [b] pos) (tB t):=by
 intro pins s σ H Q I hw;refine wpAny_isTrue_Compare1 (thn (h pins s σ H _ I hw) λ v s1 h1=>thn h1 λ u s2 h2=>thn h2 λ c s3 ⟨x,H1,I1,r1,q1⟩=>?_) h1;obtain⟨d,rfl,q⟩:=q1;cases r1;exact wpAny_truthy_bool ⟨H1,I1,q⟩
theorem aEg{e:Expr}{t:TE}(h:PE X e t)(he:∀whole,isTrue e X.env whole=(do let v <-whole;standAt e.pos;holding [v] (truthy v)):=by intro _;rfl):PT X e (tB t):=by
 intro pins s σ H Q I hw;refine isTrue_plain (thn (h pins s σ H _ I hw) λ v s1 ⟨x,H1,I1,r1,q1⟩=>?_) (he _);obtain⟨d,rfl,q⟩:=q1;cases r1;exact wpAny_truthy_bool ⟨H1,I1,q⟩
variable{tA tB':TT}{rest:List Expr}
def aLa(t u:TT):TT:=λ σ H Q=>t σ H λ c H1=>if c=true then u σ H1 Q else Q false H1
def tOr(t u:TT):TT:=λ σ H Q=>t σ H λ c H1=>if c=true then Q true H1 else u σ H1 Q
def aL3(t:TT):TT:=λ σ H Q=>t σ H λ c H1=>Q (!c) H1
theorem aGl(ha:PT X a tA):PW X (.BoolOp .And [a] pos) tA:=by
 intro wh pins s σ H Q I h;refine isTrue_and (thn (ha pins s σ H Q I h) λ c s1 e=>?_);cases c with
 |true=>exact isTrue_and_nil e
 |false=>exact e
theorem aEe(ha:PT X a tA):PW X (.BoolOp .Or [a] pos) tA:=by
 intro wh pins s σ H Q I h;refine isTrue_or (thn (ha pins s σ H Q I h) λ c s1 e=>?_);cases c with
 |false=>exact isTrue_or_nil e
 |true=>exact e
theorem aIz(ha:PT X a tA)(hb:PW X (.BoolOp .And (b::rest) pos) tB'):PW X (.BoolOp .And (a::b::rest) pos) (aLa tA tB'):=by
 intro wh pins s σ H Q I h;refine isTrue_and (thn (ha pins s σ H _ I h) λ c s1 ⟨H1,I1,q1⟩=>?_);cases c with
 |true=>exact hb wh pins s1 σ H1 Q I1 q1
 |false=>exact⟨H1,I1,q1⟩
theorem aIS(ha:PT X a tA)(hb:PW X (.BoolOp .Or (b::rest) pos) tB'):PW X (.BoolOp .Or (a::b::rest) pos) (tOr tA tB'):=by
 intro wh pins s σ H Q I h;refine isTrue_or (thn (ha pins s σ H _ I h) λ c s1 ⟨H1,I1,q1⟩=>?_);cases c with
 |true=>exact⟨H1,I1,q1⟩
 |false=>exact hb wh pins s1 σ H1 Q I1 q1
theorem aBa(ha:PT X a tA):PT X (.UnaryOp .Not a pos) (aL3 tA):=by
 intro pins s σ H Q I h;exact isTrue_not (ha pins s σ H (λ c H1=>Q (!c) H1) I h)
def aK8(ta tb:TE):TE:=λ σ H Q=>ta σ H λ x H1=>∃c,x= .bl c/\if c=true then tb σ H1 Q else Q (.bl false) H1
def aK2(ta:TE):TE:=λ σ H Q=>ta σ H λ x H1=>∃c,x= .bl c/\Q (.bl (!c)) H1
theorem aJN{op}{t:TE}(h:PE X a t):PE X (.BoolOp op [a] pos) t:=λ pins s σ H Q I hw=>BoolOp_one (h pins s σ H Q I hw)
theorem aJS(ha:PE X a ta)(hb:PE X (.BoolOp .And (b::rest) pos) tb):PE X (.BoolOp .And (a::b::rest) pos) (aK8 ta tb):=by
 intro pins s σ H Q I h;refine BoolOp_and (thn (ha pins s σ H _ I h) λ v s1 ⟨x,H1,I1,r1,q1⟩=>?_);obtain⟨c,rfl,q1⟩:=q1;cases r1;refine wpAny_truthy_bool ?_;cases c with
 |true=>exact hb pins s1 σ H1 Q I1 q1
 |false=>exact⟨.bl false,H1,I1,rfl,q1⟩
theorem aJO(ha:PE X a ta):PE X (.UnaryOp .Not a pos) (aK2 ta):=by
 intro pins s σ H Q I h;refine UnaryOp_ (thn (ha pins s σ H _ I h) λ v s1 ⟨x,H1,I1,r1,q1⟩=>?_);obtain⟨c,rfl,q1⟩:=q1;cases r1;exact not_of (wpAny_truthy_bool ⟨.bl (!c),H1,I1,rfl,q1⟩)
end
def SqL(K:PySem.W.Frag)(H:Hp)(a:Addr)(xs:List V):Prop:=
 Rd H a (.lst xs)\/
  ∃(o:Obj) (its:Array Value) (n:Nat),K.lookup a=some o/\o.cls= .type "list"/\o.dict=none/\o.data= .seq its n/\its.size<=sizeLine/\Vals xs its.toList
def SqT(K:PySem.W.Frag)(H:Hp)(a:Addr)(xs:List V):Prop:=
 Rd H a (.tup xs)\/
  ∃(o:Obj) (its:Array Value) (n:Nat),K.lookup a=some o/\o.cls= .type "tuple"/\o.data= .seq its n/\its.size<=sizeLine/\Vals xs its.toList
def aLj:Value->Option V
 | .none=>some .non
 | .bool b=>some (.bl b)
 | .int i _=>some (.int i)
 | .str x _=>some (.str x)
 | .bytes b _=>some (.byt b)
 | .float b _=>some (.flt b)
 | .ref a=>some (.ref a)
 | .type n=>some (.ty n)
 |_=>none
theorem RelV.abs{x:V}{u:Value}(r:RelV x u):aLj u=some x:=by
 cases x with
 |non=>cases r;rfl
 |bl _=>cases r;rfl
 |int _=>obtain⟨t,rfl⟩:=r;rfl
 |str _=>obtain⟨t,rfl⟩:=r;rfl
 |byt _=>obtain⟨t,rfl⟩:=r;rfl
 |flt _=>obtain⟨t,rfl⟩:=r;rfl
 |ref _=>cases r;rfl
 |ty _=>cases r;rfl
theorem RelV.inj{x y:V}{u:Value}(r:RelV x u)(q:RelV y u):x=y:=Option.some.inj (r.abs.symm.trans q.abs)
theorem Vals.inj:∀{xs ys:List V} {us:List Value},Vals xs us->Vals ys us->xs=ys
 |_,_,_,.nil,.nil=>rfl
 |_,_,_,.cons r t,.cons r' t'=>by rw[r.inj r',Vals.inj t t']
section
variable{X:Cx}{pins:List (Addr×Obj)}{σ:St}{H:Hp}{s:Shared}{a:Addr}{xs ys:List V}
theorem SqL.of{K:PySem.W.Frag}(h:H a=some (.lst xs)):SqL K H a xs:=.inl (.inl h)
theorem SqT.of{K:PySem.W.Frag}(h:H a=some (.tup xs)):SqT K H a xs:=.inl (.inl h)
theorem Inv.list(I:Inv X pins σ H s)(h:SqL X.K H a xs):∃its:List Value,Vals xs its/\PlainL s.heap a its.toArray/\xs.length<=sizeLine:=by
 rcases h with h|⟨o,its,n,hk,hc,hd,hs,hz,r⟩
 ·obtain⟨z,its,n,r,e⟩:=h.ok I.hok
  exact⟨its,r,⟨_,n,e,rfl,rfl,rfl⟩,z⟩
 ·refine⟨its.toList,r,⟨o,n,I.kIn a o hk,hc,hd,by simpa using hs⟩,?_⟩
  have e:=r.length;simp only[Array.length_toList]at e;omega
theorem Inv.tuple(I:Inv X pins σ H s)(h:SqT X.K H a xs):∃its:List Value,Vals xs its/\IsTup s.heap a its.toArray/\xs.length<=sizeLine:=by
 rcases h with h|⟨o,its,n,hk,hc,hs,hz,r⟩
 ·obtain⟨z,its,r,p⟩:=h.ok I.hok
  exact⟨its,r,p,z⟩
 ·refine⟨its.toList,r,⟨o,I.kIn a o hk,hc,n,by simpa using hs⟩,?_⟩
  have e:=r.length;simp only[Array.length_toList]at e;omega
theorem Inv.list_inj(I:Inv X pins σ H s)(h:SqL X.K H a xs)(h':SqL X.K H a ys):xs=ys:=by
 obtain⟨its,r,⟨o,n,e,_,_,d⟩,_⟩:=I.list h;obtain⟨its',r',⟨o',n',e',_,_,d'⟩,_⟩:=I.list h';rw[e]at e';cases e';rw[d]at d';injection d' with d1 _
 have:its=its':=by simpa using congrArg Array.toList d1
 subst this;exact r.inj r'
theorem Inv.tuple_inj(I:Inv X pins σ H s)(h:SqT X.K H a xs)(h':SqT X.K H a ys):xs=ys:=by
 obtain⟨its,r,⟨o,e,_,n,d⟩,_⟩:=I.tuple h;obtain⟨its',r',⟨o',e',_,n',d'⟩,_⟩:=I.tuple h';rw[e]at e';cases e';rw[d]at d';injection d' with d1 _
 have:its=its':=by simpa using congrArg Array.toList d1
 subst this;exact r.inj r'
end
section
variable{X:Cx}{pins:List (Addr×Obj)}{σ:St}{H:Hp}{s:Shared}{E:Value->Shared->Prop}
end
section
variable{X:Cx}{st:Stmt}{rest:List Stmt}{t u:TS}{e:Expr}{te:TE}{pos:Pos}
def aK3:TS:=λ D σ H=>D.nx σ H
def aL2(t u:TS):TS:=λ D σ H=>t {D with nx:=u D} σ H
theorem yQ:PSs X [] aK3:=λ _ _ σ H _ I h=>wpAny_execs_nil ⟨σ,H,I,h⟩
theorem eO(h1:PS X st t)(h2:PSs X rest u):PSs X (st::rest) (aL2 t u):=by
 intro pins s σ H D I h;refine wpAny_execs_cons (thn (h1 pins s σ H {D with nx:=u D} I h) λ f s1 q=>?_);cases f with
 |next=>
  obtain⟨σ',H',I',q⟩:=q;exact h2 pins s1 σ' H' D I' q
 |ret v=>exact q
 |brk=>exact q
 |cont=>exact q
theorem kZ(h1:PS X st t):PSs X [st] t:=by
 intro pins s σ H D I h;refine wpAny_execs_cons (thn (h1 pins s σ H D I h) λ f s1 q=>?_);cases f with
 |next=>exact wpAny_execs_nil q
 |ret v=>exact q
 |brk=>exact q
 |cont=>exact q
theorem Inv.quiet{pins:List (Addr×Obj)}{σ:St}{H:Hp}{s:Shared}(I:Inv X pins σ H s):interactive X.env=false:=by simp[interactive,I.ok.kind]
def wJ(te:TE):TS:=λ D σ H=>te σ H λ _ H1=>D.nx σ H1
theorem pI(he:PE X e te)(hs:swapsWith e none pos.line X.env=pure false:=by rfl):PS X (.Expr e pos) (wJ te):=by
 intro pins s σ H D I h;exact wpAny_Expr_any (thn (he pins s σ H _ I h) λ v s1 ⟨x,H1,I1,r1,q1⟩=>⟨σ,H1,I1,q1⟩) I.quiet hs
def aIh(te:TE):TS:=λ D σ H=>te σ H D.rt
theorem uU(he:PE X e te):PS X (.Return (some e) pos) (aIh te):=by
 intro pins s σ H D I h;exact wpAny_Return_some (thn (he pins s σ H _ I h) λ v s1 ⟨x,H1,I1,r1,q1⟩=>⟨x,σ,H1,I1,r1,q1⟩)
def aL7(c:TT)(t u:TS):TS:=λ D σ H=>c σ H λ b H1=>if b=true then t D σ H1 else u D σ H1
theorem aEm{c:Expr}{a b:List Stmt}{tc:TT}(hc:PT X c tc)(ha:PSs X a t)(hb:PSs X b u):PS X (.If c a b pos) (aL7 tc t u):=by
 intro pins s σ H D I h;refine wpAny_If (thn (hc pins s σ H _ I h) λ d s1 ⟨H1,I1,q1⟩=>?_);cases d with
 |true=>exact ha pins s1 σ H1 D I1 q1
 |false=>exact hb pins s1 σ H1 D I1 q1
end
abbrev TG:=V->St->Hp->(St->Hp->Prop)->Prop
abbrev TGs:=List V->St->Hp->(St->Hp->Prop)->Prop
def PG(X:Cx)(target:Expr)(t:TG):Prop:=
 ∀(pins:List (Addr×Obj)) (s:Shared) (σ:St) (H:Hp) (v:V) (u:Value) (Q:St->Hp->Prop),Inv X pins σ H s->RelV v u->t v σ H Q->
  wpAny (model X.prog X.w) X.A (assign target X.env u) (λ _ s'=>∃σ' H',Inv X pins σ' H' s'/\Q σ' H') X.xe s
def PGs(X:Cx)(ts:List Expr)(t:TGs):Prop:=
 ∀(pins:List (Addr×Obj)) (s:Shared) (σ:St) (H:Hp) (vs:List V) (us:List Value) (Q:St->Hp->Prop),Inv X pins σ H s->Vals vs us->t vs σ H Q->
  wpAny (model X.prog X.w) X.A (assignInOrder ((assignEach ts X.env).map (·.2)) us) (λ _ s'=>∃σ' H',Inv X pins σ' H' s'/\Q σ' H') X.xe s
abbrev aKS:=V->V->V->Hp->(Hp->Prop)->Prop
def aLV(X:Cx)(t:aKS):Prop:=
 ∀(pins:List (Addr×Obj)) (s:Shared) (σ:St) (H:Hp) (o i v:V) (ov iv u:Value) (Q:Hp->Prop),Inv X pins σ H s->RelV o ov->RelV i iv->RelV v u->t o i v H Q->
  wpAny (model X.prog X.w) X.A (setItem ov iv u) (λ _ s'=>∃H',Inv X pins σ H' s'/\Q H') X.xe s
abbrev TIp:=V->V->Hp->VK->Prop
def PIp(X:Cx)(op:Operator)(t:TIp):Prop:=
 ∀(pins:List (Addr×Obj)) (s:Shared) (σ:St) (H:Hp) (x y:V) (v u:Value) (Q:VK),Inv X pins σ H s->RelV x v->RelV y u->t x y H Q->
  wpAny (model X.prog X.w) X.A (inplaceOp op v u) (EP X pins σ Q) X.xe s
section
variable{X:Cx}{pos:Pos}
def n8(i:Nat):TG:=λ v σ H Q=>Q (σ.set i (some v)) H
theorem aGp{i:Nat}{x:Str}(hN:X.N.Nodup)(hi:X.N[i]? =some x)(hx:Loc X.env.scope x)(hf:X.fn x=true\/X.env.scope.names.lookup x=some .local:=by first|exact .inl rfl|exact .inr rfl|assumption):PG X (.Name x pos) (n8 i):=by
 intro pins s σ H v u Q I r h;exact wpAny_assign_Name (pB I hN hi hx r (λ s' I'=>⟨_,H,I',h⟩) hf)
def aKE:TGs:=λ vs σ H Q=>vs=[]/\Q σ H
def aFs(t:TG)(u:TGs):TGs:=λ vs σ H Q=>∃v r,vs=v::r/\t v σ H λ σ' H'=>u r σ' H' Q
theorem aGo:PGs X [] aKE:=by
 intro pins s σ H vs us Q I r h;obtain⟨e,h⟩:=h;subst e;cases r;exact assignInOrder_nil ⟨σ,H,I,h⟩
theorem aEq{e:Expr}{es:List Expr}{t:TG}{u:TGs}(h1:PG X e t)(h2:PGs X es u)
  (hs:(assignEach (e::es) X.env).map (·.2)=assign e X.env::(assignEach es X.env).map (·.2):=by rfl):PGs X (e::es) (aFs t u):=by
 intro pins s σ H vs us Q I r h;obtain⟨v,vr,e1,h⟩:=h;subst e1;cases r with
 |cons r rr=>
  rw[hs];refine assignInOrder_cons (thn (h1 pins s σ H _ _ _ I r h) λ _ s1 ⟨σ1,H1,I1,q1⟩=>?_);exact h2 pins s1 σ1 H1 _ _ Q I1 rr q1
def aHf(K:PySem.W.Frag)(n:Nat)(t:TGs):TG:=λ v σ H Q=>∃a xs,v= .ref a/\SqT K H a xs/\xs.length=n/\t xs σ H Q
theorem aJI{es:List Expr}{k:Nat}{t:TGs}{n:Nat}(hc:X.calm=true)(h:PGs X es t)
  (hn:(assignEach es X.env).length=n:=by rfl)(hst:(assignEach es X.env).findIdx? (·.1)=none:=by rfl):PG X (.Tuple es k pos) (aHf X.K n t):=by
 intro pins s σ H v u Q I r hw;obtain⟨a,xs,e1,hq,hl,hw⟩:=hw;subst e1;cases r;obtain⟨its,rv,ht,hz⟩:=I.tuple hq;refine assign_Tuple_tuple (I.ok.hd hc) ht (by simp[hn,<-hl,rv.length]) hst λ h' hx=>?_
 have I1:Inv X pins σ H {s with heap:=h'}:=I.kept (t':=s.toks) λ b o e=>hx b o (Nat.ne_of_lt (Heap.lt_size e)) e
 exact h pins _ σ H xs _ Q I1 (by simpa using rv) hw
def aLJ(to ti:TE)(t:aKS):TG:=λ v σ H Q=>to σ H λ o H1=>ti σ H1 λ i H2=>t o i v H2 λ H3=>Q σ H3
theorem aJJ{o i:Expr}{to ti:TE}{t:aKS}(ho:PE X o to)(hi:PE X i ti)(hs:aLV X t)
  (ha:∀v,assign (.Subscript o i pos) X.env v=(do
   let ov <-holding [v] (eval o X.env);let iv <-holding [v,ov] (eval i X.env)
   standAt pos
   holding [v,ov,iv] (setItem ov iv v)
   release [v,ov,iv] []):=by intro _;rfl):PG X (.Subscript o i pos) (aLJ to ti t):=by
 intro pins s σ H v u Q I r h;rw[ha];refine wpAny_bind (wpAny_holding (thn (ho pins s σ H _ I h) λ ov s1 ⟨x,H1,I1,r1,q1⟩=>?_));refine wpAny_bind (wpAny_holding (thn (hi pins s1 σ H1 _ I1 q1) λ iv s2 ⟨y,H2,I2,r2,q2⟩=>?_));refine wpAny_bind (wpAny_standAt (wpAny_bind (wpAny_holding (thn (hs pins s2 σ H2 x y v ov iv u _ I2 r1 r2 r q2) λ _ s3 ⟨H3,I3,q3⟩=>?_))));exact wpAny_release ⟨σ,H3,I3,q3⟩
def z6(te:TE)(g:TG):TS:=λ D σ H=>te σ H λ x H1=>g x σ H1 D.nx
theorem aEn{tg e:Expr}{te:TE}{g:TG}(he:PE X e te)(hg:PG X tg g)(hs:swapsWithSole [tg] e pos.line X.env=pure false:=by rfl)(hw:swappedStores [tg] e X.env=pure none:=by rfl)
  (h1:(assignEach [tg] X.env).map (·.2)=[assign tg X.env]:=by rfl):PS X (.Assign [tg] e pos) (z6 te g):=by
 intro pins s σ H D I h;refine wpAny_Assign_stores (thn (he pins s σ H _ I h) λ v s1 ⟨x,H1,I1,r1,q1⟩=>?_) hs hw;rw[h1];exact thn (hg pins s1 σ H1 x v _ I1 r1 q1) λ _ s2 q=>q
theorem kh{i:Nat}{x:Str}{e:Expr}{te:TE}{pos':Pos}(hN:X.N.Nodup)(hi:X.N[i]? =some x)(hx:Loc X.env.scope x)(he:PE X e te)(hs:swapsWith e (some (.Name x pos')) pos.line X.env=pure false:=by rfl)(hf:X.fn x=true\/X.env.scope.names.lookup x=some .local:=by first|exact .inl rfl|exact .inr rfl|assumption):
  PS X (.Assign [.Name x pos'] e pos) (z6 te (n8 i)):=by
 intro pins s σ H D I h;refine wpAny_Assign_Name (thn (he pins s σ H _ I h) λ v s1 ⟨y,H1,I1,r1,q1⟩=>?_) hs;exact pB I1 hN hi hx r1 (λ s2 I2=>⟨_,H1,I2,q1⟩) hf
def aL9(i:Nat)(te:TE)(ti:TIp):TS:=λ D σ H=>∃x,σ[i]? =some (some x)/\te σ H λ y H1=>ti x y H1 λ z H2=>D.nx (σ.set i (some z)) H2
theorem aJE{i:Nat}{x:Str}{e:Expr}{te:TE}{op:Operator}{ti:TIp}{pos':Pos}(hN:X.N.Nodup)(hi:X.N[i]? =some x)(hx:Loc X.env.scope x)(he:PE X e te)(ho:PIp X op ti)(hf:X.fn x=true\/X.env.scope.names.lookup x=some .local:=by first|exact .inl rfl|exact .inr rfl|assumption):
  PS X (.AugAssign (.Name x pos') op e pos) (aL9 i te ti):=by
 intro pins s σ H D I h;obtain⟨v,e1,h⟩:=h;obtain⟨m,hn,hl⟩:=I.loc;have vis:Vis X.env.scope x:=by rcases hx with k|k;exact .inl k;exact .inr (.inl k)
 obtain⟨u,r,l⟩:=hl i x v hi e1 vis;refine wpAny_AugAssign_Name ?_;have go:wpAny (model X.prog X.w) X.A (eval e X.env) (λ w s₂=>wpAny (model X.prog X.w) X.A (inplaceOp op u w) (λ r s₃=>wpAny (model X.prog X.w) X.A (storeName X.env x r) (λ _=>SP X pins D .next) X.xe s₃) X.xe s₂) X.xe s:=by
  refine thn (he pins s σ H _ I h) λ w s1 ⟨y,H1,I1,r1,q1⟩=>?_
  refine thn (ho pins s1 σ H1 v y u w _ I1 r r1 q1) λ z s2 ⟨zv,H2,I2,r2,q2⟩=>?_
  exact pB I2 hN hi hx r2 (λ s3 I3=>⟨_,H2,I3,q2⟩) hf
 rcases l with ⟨hk,hm⟩|⟨hk,c,hc,hcell⟩
 ·exact wpAny_loadName_local I.ok.kind hk hn hm go
 ·rcases hk with hk|hk
  ·exact wpAny_loadName_cell I.ok.kind hk hc hcell go
  ·rcases hx with k|k
   ·have:X.env.scope.names.lookup x=some .free:=hk
    rw[k]at this;cases this
   ·have:X.env.scope.names.lookup x=some .free:=hk
    rw[k]at this;cases this
def ipI(f:Int->Int->Int):TIp:=λ x y H Q=>∃i j,x= .int i/\y= .int j/\Q (.int (f i j)) H
theorem aJy:PIp X .Add (ipI λ i j=>i+j):=by
 intro pins s σ H x y v u Q I r1 r2 h;obtain⟨i,j,e1,e2,q⟩:=h;subst e1;subst e2;obtain⟨t,rfl⟩:=r1;obtain⟨t',rfl⟩:=r2;exact iadd_int ⟨.int _,H,I.tok _,⟨_,rfl⟩,q⟩
end
section
variable{X:Cx}{pos:Pos}
def aIg(c:TT)(tb:TS):TS:=λ D σ H=>∃W:Nat->St->Hp->Prop,(∃m,W m σ H)/\∀m σ H,W m σ H->
 c σ H λ b H1=>if b=true then∃N:St->Hp->Prop,(∀σ' H',N σ' H'->∃m',m'<m/\W m' σ' H')/\tb {D with nx:=N,ct:=N,bk:=D.nx} σ H1 else D.nx σ H1
theorem aEi{c:Expr}{body:List Stmt}{tc:TT}{tb:TS}(hp:PassesOwn (model X.prog X.w) X.A X.env X.xe)(hc:PT X c tc)(hb:PSs X body tb):PS X (.While c body [] pos) (aIg tc tb):=by
 intro pins s σ H D I h;obtain⟨W,⟨m0,w0⟩,turn⟩:=h;refine wpAny_While (codeAny_whileLoop (λ n s'=>∃σ' H',Inv X pins σ' H' s'/\W n σ' H') ?_ m0 ⟨σ,H,I,w0⟩);rintro n s1 ⟨σ1,H1,I1,w1⟩;refine wpAny_passesOwn hp (thn (hc pins s1 σ1 H1 _ I1 (turn n σ1 H1 w1)) λ b s2 ⟨H2,I2,q2⟩=>?_);cases b with
 |true=>
  obtain⟨N,hN,q2⟩:=q2;rw[if_pos rfl];refine wpAny_passesOwn hp (thn (hb pins s2 σ1 H2 _ I2 q2) λ f s3 q3=>?_);cases f with
  |next=>
   obtain⟨σ3,H3,I3,n3⟩:=q3;obtain⟨m',hm,w3⟩:=hN σ3 H3 n3;exact⟨m',hm,σ3,H3,I3,w3⟩
  |cont=>
   obtain⟨σ3,H3,I3,n3⟩:=q3;obtain⟨m',hm,w3⟩:=hN σ3 H3 n3;exact⟨m',hm,σ3,H3,I3,w3⟩
  |brk=>exact q3
  |ret v=>exact q3
 |false=>
  rw[if_neg Bool.false_ne_true];exact wpAny_execs_nil ⟨σ1,H2,I2,q2⟩
end
structure It where
 go:Nat->Hp->Prop
 yld:Nat->Hp->V->Hp->Prop
 stop:Nat->Hp->Prop
def qJ(X:Cx)(pins:List (Addr×Obj))(H:Hp)(b:Addr):Prop:=
 H b=none/\b≠X.env.locals/\b∉X.fs/\(b∈X.ex\/X.s₀.heap.objs.size<=b)/\(∀x c,X.env.cells.lookup x=some c->c≠b)/\∀p∈X.ta++(X.pn++pins),p.1≠b
theorem Inv.fpOk{X:Cx}{pins:List (Addr×Obj)}{σ:St}{H H':Hp}{s:Shared}{b:Addr}(I:Inv X pins σ H s)(hb:s.heap.objs.size<=b)(hn:H' b=none):qJ X pins H' b:=by
 refine⟨hn,Nat.ne_of_gt (Nat.lt_of_lt_of_le I.lt hb),I.nofs hb,.inr (Nat.le_trans I.sz hb),λ x c e z=>?_,λ p hp z=>?_⟩
 ·obtain⟨v,q⟩:=I.cell x c e
  exact absurd (Nat.lt_of_lt_of_le q.lt (by rw[z];exact hb)) (Nat.lt_irrefl _)
 ·exact absurd (Nat.lt_of_lt_of_le (I.pinL hp) (by rw[z];exact hb)) (Nat.lt_irrefl _)
structure Turn(P:Program)(w:World)(K:PySem.W.Frag)(tg:Expr)(J:It)(fp:List Addr)(it:Addr)(tn:Nat->Heap->Prop):Prop where
 mem:it∈fp
 obj:∀i h,tn i h->∀b∈fp,∃o,h.get? b=some o/\∀v,o.data≠.cell v
 keep:∀i h h',tn i h->(∀b∈fp,∀o,h.get? b=some o->h'.get? b=some o)->tn i h'
 item:∀(X:Cx),X.prog=P->X.w=w->X.K=K->X.calm=true->∀(i:Nat) (pins:List (Addr×Obj)) (s:Shared) (σ:St) (H:Hp) (E:Value->Shared->Prop),Inv X pins σ H s->(∀b∈fp,qJ X pins H b)->tn i s.heap->J.go i H->
  wpAny (model P w) X.A (pyNext (.ref it)) (λ r s1=>∃u,r=some u/\
   wpAny (model P w) X.A (letOwnedTupleGo tg (.ref it) u) (λ _ s2=>∃x H',Inv X pins σ H' s2/\RelV x u/\J.yld i H x H'/\tn (i+1) s2.heap/\∀b∈fp,H' b=none) E s1) E s
 done:∀(X:Cx),X.prog=P->X.w=w->X.K=K->X.calm=true->∀(i:Nat) (pins:List (Addr×Obj)) (s:Shared) (σ:St) (H:Hp) (E:Value->Shared->Prop),Inv X pins σ H s->(∀b∈fp,qJ X pins H b)->tn i s.heap->J.stop i H->
  wpAny (model P w) X.A (pyNext (.ref it)) (λ r s1=>r=none/\Inv X pins σ H s1) E s
 self:∀(A:Around) (i:Nat) (s:Shared) (Q:Value->Shared->Prop) (E:Value->Shared->Prop),tn i s.heap->Q (.ref it) s->wpAny (model P w) A (pyIter (.ref it)) Q E s
abbrev TI:=St->Hp->(It->Hp->Prop)->Prop
def PIE(X:Cx)(pins:List (Addr×Obj))(σ:St)(tg:Expr)(R:It->Hp->Prop)(itv:Value)(s2:Shared):Prop:=
 ∃(it:Addr) (fp:List Addr) (tn:Nat->Heap->Prop) (J:It) (H':Hp),itv= .ref it/\Inv X pins σ H' s2/\Turn X.prog X.w X.K tg J fp it tn/\tn 0 s2.heap/\(∀b∈fp,qJ X pins H' b)/\R J H'
def PI(X:Cx)(tg iter:Expr)(wi:TI):Prop:=
 ∀(pins:List (Addr×Obj)) (s:Shared) (σ:St) (H:Hp) (R:It->Hp->Prop),Inv X pins σ H s->wi σ H R->
  wpAny (model X.prog X.w) X.A (eval iter X.env) (λ v s1=>wpAny (model X.prog X.w) X.A (pyIter v) (PIE X pins σ tg R) X.xe s1) X.xe s
theorem aFo{M:Model}{A:Around}{E:Value->Shared->Prop}{s:Shared}{tg:Expr}{it:Addr}{u:Value}{o:Obj}{n:String}{vs:Array Value}{Q:Unit->Shared->Prop}(ho:s.heap.get? it=some o)(hc:o.cls= .type n)(hd:o.data= .fields vs)
    (hn:["enumerate","zip","dict_itemiterator","dict_reverseitemiterator","odict_iterator","itertools.zip_longest","itertools.pairwise"].contains n=false)(hQ:Q () s):wpAny M A (letOwnedTupleGo tg (.ref it) u) Q E s:=by
  unfold letOwnedTupleGo;cases tg<;>first
    |exact wpAny_pure hQ
    | (cases u <;> first
        |exact wpAny_pure hQ
        | (refine wpAny_bind (wpAny_load ho ?_)
           rw[hc,hd];show wpAny M A (if (["enumerate","zip","dict_itemiterator","dict_reverseitemiterator","odict_iterator","itertools.zip_longest","itertools.pairwise"].contains n&&vs[0]? ==some (rawInt _))=true then _ else _) Q E s;rw[if_neg (by intro h;rw[hn,Bool.false_and]at h;cases h)];exact wpAny_pure hQ))
def Itl(K:PySem.W.Frag)(a:Addr):It:=
 ⟨λ i H=>∃xs x,SqL K H a xs/\xs[i]? =some x,λ i H x H'=>H'=H/\∀xs,SqL K H a xs->xs[i]? =some x,λ i H=>∃xs,SqL K H a xs/\xs.length<=i⟩
def Itt(K:PySem.W.Frag)(a:Addr):It:=
 ⟨λ i H=>∃xs x,SqT K H a xs/\xs[i]? =some x,λ i H x H'=>H'=H/\∀xs,SqT K H a xs->xs[i]? =some x,λ i H=>∃xs,SqT K H a xs/\xs.length<=i⟩
def Itr(lo:Int)(n:Nat):It:=⟨λ i _=>i<n,λ i H x H'=>H'=H/\x= .int (lo+i),λ i _=>n<=i⟩
theorem aDI{P:Program}{w:World}{K:PySem.W.Frag}{tg:Expr}(a it:Addr):Turn P w K tg (Itl K a) [it] it (λ i h=>h.IsListIter it a i) where
 mem:=by simp
 obj:=λ i h st b hb=>by
  have e:b=it:=by simpa using hb
  subst e;obtain⟨o,e,c,d⟩:=st;exact⟨o,e,λ v z=>by rw[d]at z;cases z⟩
 keep:=λ i h h' st k=>st.at λ o e=>k it (by simp) o e
 item:=by
  intro X hP hw hK hc i pins s σ H E I hf st hg;subst hP hw hK;obtain⟨xs,x,hq,hx⟩:=hg;obtain⟨its,rv,p,hz⟩:=I.list hq;obtain⟨u,hu,ru⟩:=rv.get hx;obtain⟨f0,f1,f2,f3,f4,f5⟩:=hf it (by simp);refine wpAny_pyNext_list_item st p.isList (x:=u) (by simpa using hu) λ h' st' sb=>?_
  have I1:Inv X pins σ H {s with heap:=h'}:=I.turned (t':=s.toks) (λ b o hb e=>(sb.2 b hb).trans e) f0 f1 f3 f4 f5;obtain⟨o,e,c,d⟩:=id st';exact⟨u,rfl,aFo (s:={s with heap:=h'}) e c d (by decide) ⟨x,H,I1,ru,⟨rfl,λ ys hy=>by rw[I.list_inj hy hq];exact hx⟩,st',λ b hb=>(hf b hb).1⟩⟩
 done:=by
  intro X hP hw hK hc i pins s σ H E I hf st hg;subst hP hw hK;obtain⟨xs,hq,hx⟩:=hg;obtain⟨its,rv,p,hz⟩:=I.list hq;obtain⟨f0,f1,f2,f3,f4,f5⟩:=hf it (by simp);have hl:=rv.length;exact wpAny_pyNext_list_end (I.ok.hd hc) st p.isList (by simp;omega) λ h' eb=>⟨rfl,I.turned (t':=s.toks) (λ b o hb e=>eb b o hb e) f0 f1 f3 f4 f5⟩
 self:=λ _ _ _ _ _ st h=>wpAny_pyIter_listiter st h
theorem aBG{P:Program}{w:World}{K:PySem.W.Frag}{tg:Expr}(a it:Addr):Turn P w K tg (Itt K a) [it] it (λ i h=>h.IsTupleIter it a i) where
 mem:=by simp
 obj:=λ i h st b hb=>by
  have e:b=it:=by simpa using hb
  subst e;obtain⟨o,e,c,d⟩:=st;exact⟨o,e,λ v z=>by rw[d]at z;cases z⟩
 keep:=λ i h h' st k=>st.at λ o e=>k it (by simp) o e
 item:=by
  intro X hP hw hK hc i pins s σ H E I hf st hg;subst hP hw hK;obtain⟨xs,x,hq,hx⟩:=hg;obtain⟨its,rv,p,hz⟩:=I.tuple hq;obtain⟨u,hu,ru⟩:=rv.get hx;obtain⟨f0,f1,f2,f3,f4,f5⟩:=hf it (by simp);refine wpAny_pyNext_tuple_item st (show s.heap.IsTuple a its.toArray from p) (x:=u) (by simpa using hu) λ h' st' sb=>?_
  have I1:Inv X pins σ H {s with heap:=h'}:=I.turned (t':=s.toks) (λ b o hb e=>(sb.2 b hb).trans e) f0 f1 f3 f4 f5;obtain⟨o,e,c,d⟩:=id st';exact⟨u,rfl,aFo (s:={s with heap:=h'}) e c d (by decide) ⟨x,H,I1,ru,⟨rfl,λ ys hy=>by rw[I.tuple_inj hy hq];exact hx⟩,st',λ b hb=>(hf b hb).1⟩⟩
 done:=by
  intro X hP hw hK hc i pins s σ H E I hf st hg;subst hP hw hK;obtain⟨xs,hq,hx⟩:=hg;obtain⟨its,rv,p,hz⟩:=I.tuple hq;obtain⟨f0,f1,f2,f3,f4,f5⟩:=hf it (by simp);have hl:=rv.length;exact wpAny_pyNext_tuple_end (I.ok.hd hc) st (show s.heap.IsTuple a its.toArray from p) (by simp;omega) λ h' eb=>⟨rfl,I.turned (t':=s.toks) (λ b o hb e=>eb b o hb e) f0 f1 f3 f4 f5⟩
 self:=λ _ _ _ _ _ st h=>wpAny_pyIter_tupleiter st h
theorem aBH{P:Program}{w:World}{K:PySem.W.Frag}{tg:Expr}(it:Addr)(lo:Int)(n:Nat):Turn P w K tg (Itr lo n) [it] it (λ i h=>IsRangeIter h it (lo+(i:Nat)*1) ((n:Int)-(i:Nat)) 1) where
 mem:=by simp
 obj:=λ i h st b hb=>by
  have e:b=it:=by simpa using hb
  subst e;exact⟨_,st,λ v z=>by
   have z':Data.fields _=Data.cell v:=z;cases z'⟩
 keep:=λ i h h' st k=>k it (by simp) _ st
 item:=by
  intro X hP hw hK hc i pins s σ H E I hf st hg;subst hP hw hK;obtain⟨f0,f1,f2,f3,f4,f5⟩:=hf it (by simp);have W:=Walks.range (prog:=X.prog) (w:=X.w) (I.ok.hd hc) it lo 1 n;refine W.item i s _ _ hg st λ v h' tk hv st' kk=>?_
  obtain⟨t,rfl⟩:=hv;have I1:Inv X pins σ H {s with heap:=h',toks:=tk}:=I.turned (λ b o hb e=>kk b o (by simpa using hb) e) f0 f1 f3 f4 f5;refine⟨_,rfl,aFo (s:={s with heap:=h',toks:=tk}) (n:="range_iterator") st' rfl rfl (by decide) ⟨.int (lo+i),H,I1,⟨t,?_⟩,⟨rfl,rfl⟩,st',λ b hb=>(hf b hb).1⟩⟩;rw[Int.mul_one]
 done:=by
  intro X hP hw hK hc i pins s σ H E I hf st hg;subst hP hw hK;obtain⟨f0,f1,f2,f3,f4,f5⟩:=hf it (by simp);exact wpAny_pyNext_range_end (I.ok.hd hc) st (by have:n<=i:=hg;omega) λ h' eb=>⟨rfl,I.turned (t':=s.toks) (λ b o hb e=>eb b o hb e) f0 f1 f3 f4 f5⟩
 self:=λ _ _ _ _ _ st h=>wpAny_pyIter_rangeiter st h
section
variable{X:Cx}{tg:Expr}
theorem zr{pins:List (Addr×Obj)}{σ:St}{H:Hp}{s:Shared}{R:It->Hp->Prop}{E:Value->Shared->Prop}{lo hi:Int}{t u v:Tok}{tk:Nat}(I:Inv X pins σ H s)(h1: -(2^62)<=lo)(h2:lo<2^62)(h3: -(2^62)<=hi)(h4:hi<2^62)
  (q:R (Itr lo (hi-lo).toNat) H):wpAny (model X.prog X.w) X.A (pyIter (.ref s.heap.objs.size)) (PIE X pins σ tg R) E {s with heap:=s.heap.push {cls:=.type "range",data:=.fields #[.int lo t,.int hi u,.int 1 v]},toks:=tk}:=by
 refine wpAny_pyIter_range (IsRange.new ..) (small_one h1 h2 h3 h4) ?_;have I1:Inv X pins σ H {s with heap:=s.heap.push {cls:=.type "range",data:=.fields #[.int lo t,.int hi u,.int 1 v]},toks:=tk}:=I.kept λ b o e=>Heap.get?_push_of_some _ e
 refine⟨(s.heap.push {cls:=.type "range",data:=.fields #[.int lo t,.int hi u,.int 1 v]}).objs.size,[(s.heap.push {cls:=.type "range",data:=.fields #[.int lo t,.int hi u,.int 1 v]}).objs.size],_,_,H,rfl,
  I1.kept (t':=tk) λ b o e=>Heap.get?_push_of_some _ e,aBH _ lo (hi-lo).toNat,?_,λ b hb=>?_,q⟩
 ·have e1:lo+((0:Nat):Int)*1=lo:=by simp
  have e2:(((hi-lo).toNat:Nat):Int)-((0:Nat):Int)=Builtin.Range.rangeSize lo hi 1:=by rw[rangeSize_one];split<;>omega
  show IsRangeIter _ _ (lo+((0:Nat):Int)*1) ((((hi-lo).toNat:Nat):Int)-((0:Nat):Int)) 1;rw[e1,e2];exact Heap.get?_push_size _ rfl
 ·have e:b=(s.heap.push {cls:=.type "range",data:=.fields #[.int lo t,.int hi u,.int 1 v]}).objs.size:=by simpa using hb
  subst e;exact I1.fpOk (Nat.le_refl _) (I1.hok.fresh (Nat.le_refl _))
def aLI(ta:TA):TI:=λ σ H R=>ta σ H λ vs H1=>∃j:Int,vs=[.int j]/\-(2^62)<=j/\j<2^62/\R (Itr 0 j.toNat) H1
def aLH(ta:TA):TI:=λ σ H R=>ta σ H λ vs H1=>∃i j:Int,vs=[.int i,.int j]/\(-(2^62)<=i/\i<2^62/\-(2^62)<=j/\j<2^62)/\R (Itr i (j-i).toNat) H1
theorem aDY{a:Expr}{ta:TA}{p pos:Pos}(hg:Gl X "range")(hm:X.mg "range"=none)(ha:PA X [a] ta)(hs:starEach [a] X.env=[(false,eval a X.env)]:=by rfl):PI X tg (.Call (.Name "range" p) [a] [] pos) (aLI ta):=by
 intro pins s σ H R I h;refine Call_ (oX I hg hm boot_range (PyProof.Rows.callWith_type1 (thn (ha pos pins s σ H _ I h) λ us s1 ⟨vs,H1,I1,r1,q1⟩=>?_) hs rfl));obtain⟨j,e,q1,q2,q⟩:=q1;subst e;cases r1 with
 |cons r rr=>
  cases rr;obtain⟨t,rfl⟩:=r;exact call_range_1 (zr I1 (by omega) (by omega) q1 q2 (by simpa using q))
theorem aDX{a b:Expr}{ta:TA}{p pos:Pos}(hg:Gl X "range")(hm:X.mg "range"=none)(ha:PA X [a,b] ta)(hs:starEach [a,b] X.env=[(false,eval a X.env),(false,eval b X.env)]:=by rfl)(hs2:starEach [b] X.env=[(false,eval b X.env)]:=by rfl):
  PI X tg (.Call (.Name "range" p) [a,b] [] pos) (aLH ta):=by
 intro pins s σ H R I h;refine Call_ (oX I hg hm boot_range (PyProof.Rows.callWith_type1 (thn (ha pos pins s σ H _ I h) λ us s1 ⟨vs,H1,I1,r1,q1⟩=>?_) (by rw[hs,hs2]) (by rw[hs2];rfl)));obtain⟨i,j,e,⟨q1,q2,q3,q4⟩,q⟩:=q1;subst e;cases r1 with
 |cons r rr=>
  cases rr with
  |cons r' rr=>
   cases rr;obtain⟨t,rfl⟩:=r;obtain⟨t',rfl⟩:=r';exact call_range_2 (zr I1 q1 q2 q3 q4 q)
def aL8(wi:TI)(g:TG)(tb:TS):TS:=λ D σ H=>wi σ H λ J H1=>∃W:Nat->Nat->St->Hp->Prop,(∃m,W 0 m σ H1)/\∀i m σ H,W i m σ H->
 (J.stop i H/\D.nx σ H)\/(J.go i H/\∃N:St->Hp->Prop,(∀σ' H',N σ' H'->∃m',m'<m/\W (i+1) m' σ' H')/\∀x H',J.yld i H x H'->g x σ H' λ σ2 H2=>tb {D with nx:=N,ct:=N,bk:=D.nx} σ2 H2)
def qe(fp:List Addr)(h:Heap):List (Addr×Obj):=fp.filterMap λ b=>(h.get? b).map λ o=>(b,o)
theorem lA{fp:List Addr}{h:Heap}{b:Addr}{o:Obj}(hb:b∈fp)(e:h.get? b=some o):(b,o)∈qe fp h:=List.mem_filterMap.mpr ⟨b,hb,by rw[e];rfl⟩
theorem wX{fp:List Addr}{h:Heap}{p:Addr×Obj}(hp:p∈qe fp h):p.1∈fp/\h.get? p.1=some p.2:=by
 obtain⟨b,hb,e⟩:=List.mem_filterMap.mp hp;cases q:h.get? b with
 |none=>rw[q]at e;cases e
 |some o=>
  rw[q]at e;have e':(b,o)=p:=Option.some.inj e;subst e';exact⟨hb,q⟩
theorem Inv.pinned{pins:List (Addr×Obj)}{σ:St}{H:Hp}{s:Shared}{fp:List Addr}(I:Inv X pins σ H s)(hf:∀b∈fp,qJ X pins H b)(ho:∀b∈fp,∃o,s.heap.get? b=some o/\∀v,o.data≠.cell v):Inv X (pins++qe fp s.heap) σ H s:=
 I.pins_of (λ p hp=>(List.mem_append.mp hp).elim (λ z=>I.pin p (List.mem_append_right _ z)) λ z=>by
  obtain⟨hb,e⟩:=wX z;obtain⟨f0,f1,f2,_⟩:=hf p.1 hb;obtain⟨o,e',d⟩:=ho p.1 hb;rw[e]at e';cases e';exact⟨e,f0,f1,f2,d⟩) λ q hq p hp=>(List.mem_append.mp hq).elim (λ z=>(I.tab p hp).2.2.2.1 q (List.mem_append_right _ z)) λ z=>((hf q.1 (wX z).1).2.2.2.2.2 p (List.mem_append_left _ hp)).symm
theorem Inv.unpinned{pins pl:List (Addr×Obj)}{σ:St}{H:Hp}{s:Shared}(I:Inv X (pins++pl) σ H s):Inv X pins σ H s:=I.pins_of (λ p hp=>I.pin p (List.mem_append_right _ (List.mem_append_left _ hp))) λ q hq p hp=>(I.tab p hp).2.2.2.1 q (List.mem_append_right _ (List.mem_append_left _ hq))
theorem aJD{iter:Expr}{body:List Stmt}{wi:TI}{g:TG}{tb:TS}{pos:Pos}(hp:PassesOwn (model X.prog X.w) X.A X.env X.xe)(hc:X.calm=true)(hi:PI X tg iter wi)(hg:PG X tg g)(hb:PSs X body tb)
  (hs:∀x,foldedSetIterable iter X.env x=pure x:=by intro _;rfl):PS X (.For tg iter body [] pos) (aL8 wi g tb):=by
 intro pins s σ H D I h;refine wpAny_For (thn (hi pins s σ H _ I h) λ v s1 h1=>thn h1 λ itv s2 h2=>?_) hs;obtain⟨it,fp,tn,J,H2,e,I2,T,st2,f2,W,⟨m0,w0⟩,turn⟩:=h2;subst e;have stat:∀{H':Hp},(∀b∈fp,H' b=none)->∀b∈fp,qJ X pins H' b:=λ hn b hb=>⟨hn b hb,(f2 b hb).2⟩
 refine codeAny_forLoop_any (λ n s'=>∃i σ' H',Inv X pins σ' H' s'/\tn i s'.heap/\(∀b∈fp,H' b=none)/\W i n σ' H') ?_ m0 ⟨0,σ,H2,I2,st2,λ b hb=>(f2 b hb).1,w0⟩;rintro n s3 ⟨i,σ3,H3,I3,st3,fr3,w3⟩;rcases turn i n σ3 H3 w3 with ⟨stop,qn⟩|⟨go,N,hN,step⟩
 ·refine wpAny_passesOwn hp (thn (T.done X rfl rfl rfl hc i pins s3 σ3 H3 X.xe I3 (stat fr3) st3 stop) λ r s4 ⟨hr,I4⟩=>?_)
  subst hr;exact wpAny_execs_nil ⟨σ3,H3,I4,qn⟩
 ·refine wpAny_passesOwn hp (thn (T.item X rfl rfl rfl hc i pins s3 σ3 H3 X.xe I3 (stat fr3) st3 go) λ r s4 ⟨u,hr,h4⟩=>?_)
  subst hr;refine wpAny_passesOwn hp (thn h4 λ _ s5 ⟨x,H5,I5,r5,y5,st5,fr5⟩=>?_);have I5':=I5.pinned (stat fr5) (T.obj _ _ st5);refine wpAny_passesOwn hp (thn (hg _ s5 σ3 H5 x u _ I5' r5 (step x H5 y5)) λ _ s6 ⟨σ6,H6,I6,q6⟩=>?_);refine wpAny_passesOwn hp (thn (hb _ s6 σ6 H6 _ I6 q6) λ f s7 q7=>?_);have again:∀{σ7:St} {H7:Hp},Inv X (pins++qe fp s5.heap) σ7 H7 s7->N σ7 H7->∃m,m<n/\∃i σ' H',Inv X pins σ' H' s7/\tn i s7.heap/\(∀b∈fp,H' b=none)/\W i m σ' H':=λ{σ7 H7} I7 n7=>by
   obtain⟨m',hm,w7⟩:=hN σ7 H7 n7;refine⟨m',hm,i+1,σ7,H7,I7.unpinned,T.keep _ _ _ st5 λ b hb o e=>(I7.pin (b,o) (List.mem_append_right _ (List.mem_append_right _ (lA hb e)))).1,λ b hb=>?_,w7⟩;obtain⟨o,e,d⟩:=T.obj _ _ st5 b hb;exact(I7.pin (b,o) (List.mem_append_right _ (List.mem_append_right _ (lA hb e)))).2.1
  cases f with
  |next=>obtain⟨σ7,H7,I7,n7⟩:=q7;exact again I7 n7
  |cont=>obtain⟨σ7,H7,I7,n7⟩:=q7;exact again I7 n7
  |brk=>obtain⟨σ7,H7,I7,q7⟩:=q7;exact⟨σ7,H7,I7.unpinned,q7⟩
  |ret v=>obtain⟨x7,σ7,H7,I7,r7,q7⟩:=q7;exact⟨x7,σ7,H7,I7.unpinned,r7,q7⟩
end
abbrev R2:=V->V->Hp->VK->Prop
def OpR(X:Cx)(f:Value->Value->Sem Value)(r:R2):Prop:=
 ∀(pins:List (Addr×Obj)) (s:Shared) (σ:St) (H:Hp) (x y:V) (v u:Value) (Q:VK),Inv X pins σ H s->RelV x v->RelV y u->r x y H Q->
  wpAny (model X.prog X.w) X.A (f v u) (EP X pins σ Q) X.xe s
def UnR(X:Cx)(f:Value->Sem Value)(r:V->Hp->VK->Prop):Prop:=
 ∀(pins:List (Addr×Obj)) (s:Shared) (σ:St) (H:Hp) (x:V) (v:Value) (Q:VK),Inv X pins σ H s->RelV x v->r x H Q->
  wpAny (model X.prog X.w) X.A (f v) (EP X pins σ Q) X.xe s
def cO(X:Cx)(f:Value)(r:List V->Hp->VK->Prop):Prop:=
 ∀(pins:List (Addr×Obj)) (s:Shared) (σ:St) (H:Hp) (xs:List V) (us:List Value) (Q:VK),Inv X pins σ H s->Vals xs us->r xs H Q->
  wpAny (model X.prog X.w) X.A (call f us) (EP X pins σ Q) X.xe s
def aLk(X:Cx)(r:V->Hp->(Bool->Hp->Prop)->Prop):Prop:=
 ∀(pins:List (Addr×Obj)) (s:Shared) (σ:St) (H:Hp) (x:V) (v:Value) (Q:Bool->Hp->Prop),Inv X pins σ H s->RelV x v->r x H Q->
  wpAny (model X.prog X.w) X.A (truthy v) (TP X pins σ Q) X.xe s
def tOp(r:R2)(ta tb:TE):TE:=λ σ H Q=>ta σ H λ x H1=>tb σ H1 λ y H2=>r x y H2 Q
def tUn(r:V->Hp->VK->Prop)(ta:TE):TE:=λ σ H Q=>ta σ H λ x H1=>r x H1 Q
def rI(C:Int->Int->Prop)(g:Int->Int->V):R2:=λ x y H Q=>∃i j,x= .int i/\y= .int j/\C i j/\Q (g i j) H
def rI0(g:Int->Int->V):R2:=λ x y H Q=>∃i j,x= .int i/\y= .int j/\Q (g i j) H
def rU(g:Int->V):V->Hp->VK->Prop:=λ x H Q=>∃i,x= .int i/\Q (g i) H
section
variable{X:Cx}{a b c:Expr}{ta tb tc:TE}{pos:Pos}
theorem aKN(ha:PE X a ta)(hb:PE X b tb){pins:List (Addr×Obj)}{s:Shared}{σ:St}{H:Hp}{R:V->V->Hp->Prop}(I:Inv X pins σ H s)
  (h:ta σ H λ x H1=>tb σ H1 λ y H2=>R x y H2){Q:Value->Shared->Prop}{f:Value->Value->Sem Value}
  (hf:∀v u s2 x y H2,Inv X pins σ H2 s2->RelV x v->RelV y u->R x y H2->wpAny (model X.prog X.w) X.A (f v u) Q X.xe s2):
  wpAny (model X.prog X.w) X.A (eval a X.env) (λ v s₁=>wpAny (model X.prog X.w) X.A (eval b X.env) (λ u s₂=>wpAny (model X.prog X.w) X.A (f v u) Q X.xe s₂) X.xe s₁) X.xe s:=by
 refine thn (ha pins s σ H _ I h) λ v s1 ⟨x,H1,I1,r1,q1⟩=>?_
 refine thn (hb pins s1 σ H1 _ I1 q1) λ u s2 ⟨y,H2,I2,r2,q2⟩=>?_
 exact hf v u s2 x y H2 I2 r1 r2 q2
theorem aEs{op:Operator}{r:R2}(ho:OpR X (binaryOp op) r)(ha:PE X a ta)(hb:PE X b tb):PE X (.BinOp a op b pos) (tOp r ta tb):=by
 intro pins s σ H Q I h;exact wpAny_BinOp (aKN ha hb I h λ v u s2 x y H2 I2 rx ry q=>ho pins s2 σ H2 x y v u Q I2 rx ry q)
theorem aKo{op:UnaryOp}{r:V->Hp->VK->Prop}(ho:UnR X (unaryOp op) r)(ha:PE X a ta):PE X (.UnaryOp op a pos) (tUn r ta):=by
 intro pins s σ H Q I h;exact UnaryOp_ (thn (ha pins s σ H _ I h) λ v s1 ⟨x,H1,I1,r1,q1⟩=>ho pins s1 σ H1 x v Q I1 r1 q1)
theorem opI{f:Value->Value->Sem Value}{C:Int->Int->Prop}{g:Int->Int->Int}
  (rule:∀(i j:Int) (t u:Tok) (s:Shared) (Q:Value->Shared->Prop) (E:Value->Shared->Prop),C i j->Q (.int (g i j) s.toks) {s with toks:=s.toks+1}->wpAny (model X.prog X.w) X.A (f (.int i t) (.int j u)) Q E s):
  OpR X f (rI C λ i j=>.int (g i j)):=by
 intro pins s σ H x y v u Q I rx ry h;obtain⟨i,j,rfl,rfl,hc,q⟩:=h;obtain⟨t,rfl⟩:=rx;obtain⟨t',rfl⟩:=ry;exact rule i j t t' s _ _ hc ⟨.int (g i j),H,I.tok _,⟨_,rfl⟩,q⟩
theorem aKx{f:Value->Value->Sem Value}{g:Int->Int->Int}
  (rule:∀(i j:Int) (t u:Tok) (s:Shared) (Q:Value->Shared->Prop) (E:Value->Shared->Prop),Q (.int (g i j) s.toks) {s with toks:=s.toks+1}->wpAny (model X.prog X.w) X.A (f (.int i t) (.int j u)) Q E s):
  OpR X f (rI0 λ i j=>.int (g i j)):=by
 intro pins s σ H x y v u Q I rx ry h;obtain⟨i,j,rfl,rfl,q⟩:=h;obtain⟨t,rfl⟩:=rx;obtain⟨t',rfl⟩:=ry;exact rule i j t t' s _ _ ⟨.int (g i j),H,I.tok _,⟨_,rfl⟩,q⟩
theorem aHG{f:Value->Value->Sem Value}{g:Int->Int->Bool}
  (rule:∀(i j:Int) (t u:Tok) (s:Shared) (Q:Value->Shared->Prop) (E:Value->Shared->Prop),Q (.bool (g i j)) s->wpAny (model X.prog X.w) X.A (f (.int i t) (.int j u)) Q E s):
  OpR X f (rI0 λ i j=>.bl (g i j)):=by
 intro pins s σ H x y v u Q I rx ry h;obtain⟨i,j,rfl,rfl,q⟩:=h;obtain⟨t,rfl⟩:=rx;obtain⟨t',rfl⟩:=ry;exact rule i j t t' s _ _ ⟨.bl (g i j),H,I,rfl,q⟩
def aLY(i j:Int):Prop:=0<j/\j<1073741824
def aLl(i j:Int):Prop:=0<=j/\j<=1000000/\i.natAbs<2^64
def aIE(i j:Int):Prop:=(-(2^64)<i/\i<2^64)\/(-(2^64)<j/\j<2^64)
theorem aIE.ok{i j:Int}(h:aIE i j):IntMulOk i j:=by
 rcases h with ⟨h1,h2⟩|⟨h1,h2⟩
 ·exact .of_left (intBits_le_64 h1 h2)
 ·exact .of_right (intBits_le_64 h1 h2)
theorem aJe:OpR X (binaryOp .Add) (rI0 λ i j=>.int (i+j)):=aKx λ _ _ _ _ _ _ _ q=>add_int q
theorem aJ0:OpR X (binaryOp .Sub) (rI0 λ i j=>.int (i-j)):=aKx λ _ _ _ _ _ _ _ q=>sub_int q
theorem aJ4:OpR X (binaryOp .Mult) (rI aIE λ i j=>.int (i*j)):=opI λ _ _ _ _ _ _ _ hc q=>mul_int q hc.ok
theorem aHC:OpR X (binaryOp .FloorDiv) (rI aLY λ i j=>.int (i / j)):=opI λ i j _ _ _ _ _ hc q=>by
 have h1:(0:Int)<j:=hc.1;have h2:j<1073741824:=hc.2;exact floordiv_int (by omega) (by rw[Int.fdiv_eq_ediv_of_nonneg i (by omega)];exact q) (.inl (PyProof.noPylong_small (by omega)))
theorem aJ5:OpR X (binaryOp .Mod) (rI (λ _ j=>0<j) λ i j=>.int (i%j)):=opI λ i j _ _ _ _ _ hc q=>by
 have h1:(0:Int)<j:=hc;exact mod_int' (by omega) (by rw[Int.fmod_eq_emod_of_nonneg i (by omega)];exact q)
theorem aJ2:OpR X (binaryOp .Pow) (rI aLl λ i j=>.int (i^j.toNat)):=opI λ _ _ _ _ _ _ _ hc q=>pow_int_small hc.1 hc.2.1 hc.2.2 q
theorem unI{f:Value->Sem Value}{g:Int->Int}
  (rule:∀(i:Int) (t:Tok) (s:Shared) (Q:Value->Shared->Prop) (E:Value->Shared->Prop),Q (.int (g i) s.toks) {s with toks:=s.toks+1}->wpAny (model X.prog X.w) X.A (f (.int i t)) Q E s):
  UnR X f (rU λ i=>.int (g i)):=by
 intro pins s σ H x v Q I rx h;obtain⟨i,rfl,q⟩:=h;obtain⟨t,rfl⟩:=rx;exact rule i t s _ _ ⟨.int (g i),H,I.tok _,⟨_,rfl⟩,q⟩
theorem aI9:UnR X (unaryOp .USub) (rU λ i=>.int (-i)):=unI λ _ _ _ _ _ q=>neg_int q
end
section
variable{X:Cx}{a b c:Expr}{ta tb tc:TE}{pos:Pos}
theorem aKt:OpR X (compareOp .Lt) (rI0 λ i j=>.bl (decide (i<j))):=aHG λ _ _ _ _ _ _ _ q=>lt_int q
theorem aKu:OpR X (compareOp .LtE) (rI0 λ i j=>.bl (decide (i<=j))):=aHG λ _ _ _ _ _ _ _ q=>le_int q
theorem aKv:OpR X (compareOp .Gt) (rI0 λ i j=>.bl (decide (j<i))):=aHG λ _ _ _ _ _ _ _ q=>gt_int q
theorem aKw:OpR X (compareOp .GtE) (rI0 λ i j=>.bl (decide (j<=i))):=aHG λ _ _ _ _ _ _ _ q=>ge_int q
def isObj:HO->Bool
 | .lst _=>true
 | .ins _ _ _=>true
 |_=>false
theorem OpR.or{f:Value->Value->Sem Value}{r r':R2}(h:OpR X f r)(h':OpR X f r'):OpR X f (λ x y H Q=>r x y H Q\/r' x y H Q):=by
 intro pins s σ H x y v u Q I rx ry q;rcases q with q|q
 ·exact h pins s σ H x y v u Q I rx ry q
 ·exact h' pins s σ H x y v u Q I rx ry q
theorem aFI(b:Expr){op:CmpOp}(h:op≠.In:=by decide)(h2:op≠.NotIn:=by decide):behindInMarks op b=false:=by
 have e1:(op==CmpOp.In)=false:=by cases op<;>first|rfl|exact absurd rfl h
 have e2:(op==CmpOp.NotIn)=false:=by cases op<;>first|rfl|exact absurd rfl h2
 cases b<;>simp[behindInMarks,e1,e2]
theorem aGt{op:CmpOp}{r:R2}(ho:OpR X (compareOp op) r)(ha:PE X a ta)(hb:PE X b tb)(hm:behindInMarks op b=false):PE X (.Compare a [op] [b] pos) (tOp r ta tb):=by
 intro pins s σ H Q I h;exact wpAny_Compare1 (aKN ha hb I h λ v u s2 x y H2 I2 rx ry q=>ho pins s2 σ H2 x y v u Q I2 rx ry q) hm
def aIG(t:TE):TT:=λ σ H Q=>t σ H λ x H'=>∃k,x= .bl k/\Q k H'
theorem aGm{op:CmpOp}{r:R2}(ho:OpR X (compareOp op) r)(ha:PE X a ta)(hb:PE X b tb)(hm:behindInMarks op b=false):PT X (.Compare a [op] [b] pos) (aIG (tOp r ta tb)):=by
 intro pins s σ H Q I h;refine wpAny_isTrue_Compare1 (thn (ha pins s σ H _ I h) λ v s1 ⟨x,H1,I1,r1,q1⟩=>thn (hb pins s1 σ H1 _ I1 q1) λ u s2 ⟨y,H2,I2,r2,q2⟩=>
  thn (ho pins s2 σ H2 x y v u _ I2 r1 r2 q2) λ c s3 ⟨z,H3,I3,r3,k,e,q3⟩=>?_) hm
 subst e;cases r3;exact wpAny_truthy_bool ⟨H3,I3,q3⟩
def aEG(r r':R2)(ta tb tc:TE):TE:=λ σ H Q=>ta σ H λ x H1=>tb σ H1 λ y H2=>r x y H2 λ z H3=>∃k,z= .bl k/\
 (if k=true then tc σ H3 λ w' H4=>r' y w' H4 Q else Q (.bl false) H3)
theorem aEw{op op':CmpOp}{r r':R2}(ho:OpR X (compareOp op) r)(ho':OpR X (compareOp op') r')(ha:PE X a ta)(hb:PE X b tb)(hc:PE X c tc)
  (hm:lastMarks [op,op'] [b,c]=false:=by with_unfolding_all rfl):PE X (.Compare a [op,op'] [b,c] pos) (aEG r r' ta tb tc):=by
 intro pins s σ H Q I h;refine Compare_chain (thn (ha pins s σ H _ I h) λ v s1 ⟨x,H1,I1,r1,q1⟩=>chain_link (thn (hb pins s1 σ H1 _ I1 q1) λ u s2 ⟨y,H2,I2,r2,q2⟩=>
  thn (ho pins s2 σ H2 x y v u _ I2 r1 r2 q2) λ d s3 ⟨z,H3,I3,r3,k,e,q3⟩=>?_)) hm
 subst e;cases r3;refine wpAny_truthy_bool ?_;cases k with
 |false=>exact ite_ff ⟨.bl false,H3,I3,rfl,q3⟩
 |true=>exact ite_tt (chain_last (thn (hc pins s3 σ H3 _ I3 q3) λ w' s4 ⟨z',H4,I4,r4,q4⟩=>ho' pins s4 σ H4 y z' u w' Q I4 r2 r4 q4))
def aKR(K:PySem.W.Frag)(x:V)(H:Hp)(k:Bool):Prop:=
 match x with
 | .non=>k=false
 | .bl b=>k=b
 | .int i=>k=(i !=0)
 | .str y=>y.length<=sizeLine/\k=((y.length:Int)!=0)
 | .byt y=>y.size<=sizeLine/\k=((y.size:Int)!=0)
 | .ref p=>(∃xs,SqL K H p xs/\k= !xs.isEmpty)\/(∃xs,SqT K H p xs/\k= !xs.isEmpty)\/∃kvs,H p=some (.dK kvs)/\k= !kvs.isEmpty
 |_=>False
theorem aCE{κ:Type}{kvs:List (κ×V)}{vs:List (κ×Value)}(r:KV kvs vs):(!vs.isEmpty)= !kvs.isEmpty:=by
 cases r<;>rfl
theorem ut{xs:List V}{its:List Value}(r:Vals xs its):(!its.toArray.isEmpty)= !xs.isEmpty:=by
 cases r<;>simp
theorem qt:(sizeLine:Nat)<2^63:=by rw[sizeLine_eq];decide
theorem aIe:aLk X (λ x H Q=>∃k,aKR X.K x H k/\Q k H):=by
 intro pins s σ H x v Q I rx h;obtain⟨k,e,q⟩:=h;have hl:=qt;have hs:sizeLine=16777216:=sizeLine_eq;cases x with
 |non=>
  cases rx;have e':k=false:=e;subst e';exact truthy_none ⟨H,I,q⟩
 |bl b=>
  cases rx;have e':k=b:=e;subst e';exact wpAny_truthy_bool ⟨H,I,q⟩
 |int i=>
  obtain⟨t,rfl⟩:=rx;have e':k=(i !=0):=e;subst e';exact PySem.P.truthy_int ⟨H,I,q⟩
 |str y=>
  obtain⟨t,rfl⟩:=rx;obtain⟨hy,e'⟩:y.length<=sizeLine/\k=((y.length:Int)!=0):=e;subst e';exact PySem.P.truthy_str (by omega) ⟨H,I.tok _,q⟩
 |byt y=>
  obtain⟨t,rfl⟩:=rx;obtain⟨hy,e'⟩:y.size<=sizeLine/\k=((y.size:Int)!=0):=e;subst e';exact PySem.W.truthy_bytes (by omega) ⟨H,I.tok _,q⟩
 |ref p=>
  cases rx;have e':(∃xs,SqL X.K H p xs/\k= !xs.isEmpty)\/(∃xs,SqT X.K H p xs/\k= !xs.isEmpty)\/∃kvs,H p=some (.dK kvs)/\k= !kvs.isEmpty:=e
  rcases e' with ⟨xs,hx,e'⟩|⟨xs,hx,e'⟩|⟨kvs,hx,e'⟩
  ·subst e'
   obtain⟨its,r,pl,hz⟩:=I.list hx;have hlen:=r.length;exact wpAny_truthy_list pl.isList (by simp only[List.size_toArray];omega) ⟨H,I.tok _,by rw[ut r];exact q⟩
  ·subst e'
   obtain⟨its,r,pl,hz⟩:=I.tuple hx;have hlen:=r.length;exact truthy_tuple pl (by simp only[List.size_toArray];omega) ⟨H,I.tok _,by rw[ut r];exact q⟩
  ·subst e'
   obtain⟨hz,hS,vs,r,m⟩:kvs.length<=sizeLine/\(p==sysModules)=false/\∃vs,KV kvs vs/\s.heap.DictOf (dJ X.prog X.w) p vs:=I.hok p _ hx
   have hlen:kvs.length=vs.length:=Paired.length r;exact wpAny_truthy_dict hS m (by omega) ⟨H,I.tok _,by rw[aCE r];exact q⟩
 |_=>exact(show False from e).elim
theorem aEh(ha:PE X a ta)(he:∀whole,isTrue a X.env whole=(do let v <-whole;standAt a.pos;holding [v] (truthy v))):
  PT X a (λ σ H Q=>ta σ H λ x H'=>∃k,aKR X.K x H' k/\Q k H'):=by
 intro pins s σ H Q I h;exact isTrue_plain (thn (ha pins s σ H _ I h) λ v s1 ⟨x,H1,I1,r1,q1⟩=>aIe pins s1 σ H1 x v Q I1 r1 q1) (he _)
theorem vals1{x:V}{us:List Value}(r:Vals [x] us):∃u,us=[u]/\RelV x u:=by
 cases r with
 |cons r1 r2=>cases r2;exact⟨_,rfl,r1⟩
theorem vals2{x y:V}{us:List Value}(r:Vals [x,y] us):∃u w',us=[u,w']/\RelV x u/\RelV y w':=by
 cases r with
 |cons r1 r2=>
  cases r2 with
  |cons r3 r4=>cases r4;exact⟨_,_,rfl,r1,r3⟩
theorem aDs(hc:X.calm=true):cO X (.builtin "max") (λ xs H Q=>∃i j,xs=[.int i,.int j]/\Q (.int (if j>i then j else i)) H):=by
 intro pins s σ H xs us Q I r h;obtain⟨i,j,rfl,q⟩:=h;obtain⟨u,w',rfl,⟨t,rfl⟩,⟨t',rfl⟩⟩:=vals2 r;refine max_two_ints (I.ok.hd hc) λ h' tk k=>⟨_,H,I.kept k,?_,q⟩
 by_cases hj:j>i
 ·rw[if_pos hj,if_pos hj];exact⟨_,rfl⟩
 ·rw[if_neg hj,if_neg hj];exact⟨_,rfl⟩
theorem aDr(hc:X.calm=true):cO X (.builtin "min") (λ xs H Q=>∃i j,xs=[.int i,.int j]/\Q (.int (if j<i then j else i)) H):=by
 intro pins s σ H xs us Q I r h;obtain⟨i,j,rfl,q⟩:=h;obtain⟨u,w',rfl,⟨t,rfl⟩,⟨t',rfl⟩⟩:=vals2 r;refine min_two_ints (I.ok.hd hc) λ h' tk k=>⟨_,H,I.kept k,?_,q⟩
 by_cases hj:j<i
 ·rw[if_pos hj,if_pos hj];exact⟨_,rfl⟩
 ·rw[if_neg hj,if_neg hj];exact⟨_,rfl⟩
end
structure aIA(h:Heap)(x dx C:Addr)(mA:Str->Option Value):Prop where
 obj:h.get? x=some (PySem.W.instObj C dx)
 ns:h.Ns1 dx mA
 ne:dx≠x
theorem aD8{h:Heap}{dx:Addr}{mA:Str->Option Value}(n:h.Ns1 dx mA):∃od,h.get? dx=some od/\∀name,PySem.W.lookIn name od=some (mA name):=by
 obtain⟨o,es,ep,ho,hd,hk,_,hm⟩:=n;refine⟨o,ho,λ name=>?_⟩;have e:=hm name;unfold nsFind findBy at e;rw[<-Array.find?_toList]at e;unfold PySem.W.lookIn;rw[hd];dsimp only;split
 ·rename_i y q
  rw[q]at e;exact congrArg some e
 ·rename_i q
  rw[q]at e;have a:es.toList.any (·.refKey)=false:=by
   rw[List.any_eq_false];intro y hy;obtain⟨z,t,hkey⟩:=hk y (Array.mem_toList_iff.mp hy);simp[DictEntry.refKey,hkey]
  have a':¬es.toList.any (·.refKey)=true:=by rw[a];exact Bool.false_ne_true
  rw[if_neg a'];exact congrArg some e
theorem aIA.look{h:Heap}{x dx C:Addr}{mA:Str->Option Value}(I:aIA h x dx C mA):∃od,PySem.W.InstAt h x (PySem.W.instObj C dx) C (some od)/\∀name,PySem.W.lookIn name od=some (mA name):=
 let⟨od,ho,hl⟩:=aD8 I.ns
 ⟨od,⟨I.obj,rfl,rfl,ho⟩,hl⟩
section
variable{prog:Program}{w:World}{A:Around}{E:Value->Shared->Prop}{s:Shared}{K:PySem.W.Frag}{x dx C f:Addr}{mA:Str->Option Value}{name:Str}{v:Value}
theorem aFr{pl:Sem Bool}{Q:Value×List Value->Shared->Prop}(X:K.In s.heap)(I:aIA s.heap x dx C mA)(hg:PySem.W.plainGet K C name=true)
  (hf:PySem.W.findIn K (.ref C) name=some (some (.ref f)))(ht:PySem.W.isFn K (.ref f)=true)(hv:mA name=none)(h:Q (.ref f,[.ref x]) s):
  wpAny (model prog w) A (getMethod (.ref x) name pl) Q E s:=by
 obtain⟨od,J,hl⟩:=I.look;exact PySem.W.method_fn X J (PySem.W.plainGet_of hg).1 (PySem.W.plainGet_of hg).2 hf (beq_iff_eq.mp ht) (by show(PySem.W.lookIn name od).map (·.isSome)=some false;rw[hl,hv];rfl) h
theorem make_map{R:Result->Shared->Prop}{vs:List Value}{kw:List (Str×Value)}(X:K.In s.heap)(hm:PySem.W.makesIn K C=true)
  (hi:PySem.W.findIn K (.ref C) "__init__"=some (some (.ref f)))(hf:PySem.W.typeIn K (.ref f)=some (.type "function"))
  (h:codeAny (model prog w) (A.under (.builtin "type.__call__" ⟨.ref C::vs,kw⟩)) (.call (.ref f) ⟨.ref (s.heap.objs.size+1)::vs,kw⟩) (PySem.W.InitBack (s.heap.objs.size+1) R)
   {s with heap:=(s.heap.push PySem.W.emptyDict).push (PySem.W.instObj C s.heap.objs.size)}):
  codeAny (model prog w) A (.call (.ref C) ⟨vs,kw⟩) R s:=by
 obtain⟨hh,g,d,t,os⟩:=s;exact PySem.W.make_core (PySem.W.makes_of X hm) (PySem.W.looks_findIn X hi) (λ self=>PySem.W.bind_fn X self hf) (.inl rfl) h
end
theorem qH.some_of{v:V}{o:Option Value}(r:qH (some v) o):∃u,o=some u/\RelV v u:=by
 cases o with
 |none=>exact(show False from r).elim
 |some u=>exact⟨u,rfl,r⟩
theorem qH.none_of{o:Option Value}(r:qH none o):o=none:=by
 cases o with
 |none=>rfl
 |some u=>exact(show False from r).elim
section
variable{P:Program}{w:World}{H H':Hp}{h h':Heap}{a C dx:Addr}{fs fs':List (Str×V)}
theorem tM(hok:HOk P w H h)(e:H a=some (.ins C dx fs)):∃mA,aIA h a dx C mA/\(∀f,qH (fs.lookup f) (mA f))/\PySem.Within mA (fs.map (·.1))/\fs.length<=1000/\H dx=some (.own a):=by
 obtain⟨d,z,ne,ob,mA,n,r,q⟩:=(show bw P w H h a (.ins C dx fs)from hok a _ e);exact⟨mA,⟨ob,n,ne⟩,r,q,z,d⟩
end
structure Cls(K:PySem.W.Frag)(C:Addr):Prop where
 pg:PySem.W.plainGet K C Str.empty=true
 hd:PySem.W.hasDictIn K C=true
 po:PySem.W.plainOver K C=true
 sa:PySem.W.findIn K (.ref C) "__setattr__"=some (some (.builtin "object.__setattr__"))
theorem Cls.get{K:PySem.W.Frag}{C:Addr}(c:Cls K C)(f:Str):PySem.W.plainGet K C f=true:=c.pg
def aKU(K:PySem.W.Frag)(C:Addr)(f:Str):Prop:=PySem.W.findIn K (.ref C) f=some none
structure Meth(K:PySem.W.Frag)(C:Addr)(m:Str)(f:Addr):Prop where
 at_:PySem.W.findIn K (.ref C) m=some (some (.ref f))
 fn:PySem.W.isFn K (.ref f)=true
 kp:PySem.W.keepIn K (.ref f)=true
section
variable{X:Cx}{pins:List (Addr×Obj)}{σ:St}{H:Hp}{s:Shared}{a C dx:Addr}{fs:List (Str×V)}{f:Str}{v:V}{A:Around}{E:Value->Shared->Prop}
theorem aCH{m:Str}{g:Addr}{pl:Sem Bool}{Q:Value×List Value->Shared->Prop}(I:Inv X pins σ H s)(e:H a=some (.ins C dx fs))(c:Cls X.K C)(k:Meth X.K C m g)(l:fs.lookup m=none)
  (h:Q (.ref g,[.ref a]) s):wpAny (model X.prog X.w) A (getMethod (.ref a) m pl) Q E s:=by
 obtain⟨mA,O,r,_,_,_⟩:=tM I.hok e;have hn:mA m=none:=qH.none_of (by rw[<-l];exact r m);exact aFr I.kIn O (c.get m) k.at_ k.fn hn h
theorem Inv.made(I:Inv X pins σ H s):Inv X pins σ (upd (upd H s.heap.objs.size (.own (s.heap.objs.size+1))) (s.heap.objs.size+1) (.ins C s.heap.objs.size []))
  {s with heap:=(s.heap.push PySem.W.emptyDict).push (PySem.W.instObj C s.heap.objs.size)}:=by
 have e1:(s.heap.push PySem.W.emptyDict).get? s.heap.objs.size=some PySem.W.emptyDict:=Heap.get?_push_size s.heap rfl;have e2:((s.heap.push PySem.W.emptyDict).push (PySem.W.instObj C s.heap.objs.size)).get? (s.heap.objs.size+1)=some (PySem.W.instObj C s.heap.objs.size):=by
  have:=Heap.get?_push_size (s.heap.push PySem.W.emptyDict) (o:=PySem.W.instObj C s.heap.objs.size) rfl
  rwa [Heap.size_push]at this
 have e3:(s.heap.push PySem.W.emptyDict).Ns s.heap.objs.size (λ _=>none):=⟨PySem.W.emptyDict,#[],_,e1,rfl,(λ e he=>absurd he (by simp)),λ _=>rfl⟩;have I1:=I.laid (a:=s.heap.objs.size) (o:=.own (s.heap.objs.size+1)) (h':=s.heap.push PySem.W.emptyDict) (t':=s.toks) (λ b u q=>Heap.get?_push_of_some _ q) (Nat.le_refl _) ⟨_,e1⟩;refine I1.laid (a:=s.heap.objs.size+1) (o:=.ins C s.heap.objs.size []) (t':=s.toks) (λ b u q=>Heap.get?_push_of_some _ q) (Nat.le_of_eq (Heap.size_push _ _)) ?_;have ne:s.heap.objs.size≠s.heap.objs.size+1:=Nat.ne_of_lt (Nat.lt_succ_self _);refine⟨by rw[aV ne,au],Nat.zero_le _,ne,e2,λ _=>none,(Heap.Ns1.of_empty e3).at λ o q=>Heap.get?_push_of_some _ q,λ _=>True.intro,λ y hy=>absurd rfl hy⟩
end
def tFld(K:PySem.W.Frag)(ta:TE)(f:Str):TE:=λ σ H Q=>ta σ H λ x H1=>∃a C dx fs v,x= .ref a/\H1 a=some (.ins C dx fs)/\Cls K C/\aKU K C f/\fs.lookup f=some v/\Q v H1
section
variable{X:Cx}{o e value:Expr}{f:Str}{pos pos' tpos:Pos}{ta tv:TE}
theorem methcall_of{pl:Sem Bool}{m:Str}{apos:Pos}{args:List Expr}{pins:List (Addr×Obj)}{s:Shared}{σ:St}{H:Hp}{Q:Value->Shared->Prop}{te:TE}(he:PE X e te)(I:Inv X pins σ H s)
  (h:te σ H λ x H1=>∃a C dx fs g,x= .ref a/\H1 a=some (.ins C dx fs)/\Cls X.K C/\Meth X.K C m g/\fs.lookup m=none/\
   ∀s1,Inv X pins σ H1 s1->wpAny (model X.prog X.w) X.A (callWith pos (.ref g) [.ref a] (backTo pos (starEach args X.env)) (backToKw pos (keywordEach [] X.env))) Q X.xe s1)
  (ht:eval (.Call (.Attribute e m apos) args [] pos) X.env=(do
   let ov <-eval e X.env
   standAt apos.atName
   let(f,first) <-holding [ov] (getMethod ov m pl)
   callWith pos f first (backTo pos (starEach args X.env)) (backToKw pos (keywordEach [] X.env)))):
  wpAny (model X.prog X.w) X.A (eval (.Call (.Attribute e m apos) args [] pos) X.env) Q X.xe s:=by
 refine PySem.W.methodCall_KW (pl:=pl) (thn (he pins s σ H _ I h) λ u s1 ⟨x,H1,I1,rx,a,C,dx,fs,g,ex,ea,c,k,l,q⟩=>?_) ht;subst ex;obtain rfl:u=Value.ref a:=rx;exact aCH I1 ea c k l (q s1 I1)
end
section
variable{X:Cx}{pins:List (Addr×Obj)}{σ:St}{H:Hp}{s:Shared}{A:Around}{E:Value->Shared->Prop}{Q:Value->Shared->Prop}{c:Value}{b:Bool}
inductive rE(K:PySem.W.Frag)(H:Hp):V->Value->Prop where
 |non:rE K H .non (.type "NoneType")
 |bl (x:Bool):rE K H (.bl x) (.type "bool")
 |int (i:Int):rE K H (.int i) (.type "int")
 |str (x:Str):rE K H (.str x) (.type "str")
 |flt (x:UInt64):rE K H (.flt x) (.type "float")
 |lst {a:Addr} {xs:List V} (e:H a=some (.lst xs)):rE K H (.ref a) (.type "list")
 |frz {a:Addr} {o:Obj} {xs:List V} (e:H a=some (.frz o (.lst xs))):rE K H (.ref a) (.type "list")
 |tup {a:Addr} {xs:List V} (e:H a=some (.tup xs)):rE K H (.ref a) (.type "tuple")
 |dK {a:Addr} {kvs:List (Key×V)} (e:H a=some (.dK kvs)):rE K H (.ref a) (.type "dict")
 |dT {a:Addr} {kvs:List (List Key×V)} (e:H a=some (.dT kvs)):rE K H (.ref a) (.type "dict")
 |ins {a C dx:Addr} {fs:List (Str×V)} (e:H a=some (.ins C dx fs)) (cl:Cls K C) (ha:PySem.W.findIn K (.ref C) "__class__"=some (some (.builtin "object.__class__")))
   (hn:PySem.W.specialIn K (.builtin "object.__class__") "__get__"=some (some (.builtin "getset_descriptor.__get__"))) (htk:PySem.W.takesIn K (.builtin "object.__class__")=some true)
   (hm:PySem.W.mroIn K C (.type "object")=some true):rE K H (.ref a) (.ref C)
theorem aDg{x:V}{u t:Value}(I:Inv X pins σ H s)(rx:RelV x u)(ty:rE X.K H x t)(e:PySem.W.kitOne X.K t c=some b)(h:∀tk,Q (.bool b) {s with toks:=tk}):
  wpAny (model X.prog X.w) A (call (.builtin "isinstance") [u,c]) Q E s:=by
 cases ty with
 |non=>cases (show u=Value.none from rx);exact PySem.W.kia_one PySem.W.kitx_none I.kIn True.intro e (λ z=>nomatch z) h
 |bl y=>cases (show u=Value.bool y from rx);exact PySem.W.kia_one PySem.W.kitx_bool I.kIn True.intro e (λ z=>nomatch z) h
 |int i=>obtain⟨t,q⟩:=(show∃t,u=Value.int i t from rx);cases q;exact PySem.W.kia_one PySem.W.kitx_int I.kIn True.intro e (λ z=>nomatch z) h
 |str y=>obtain⟨t,q⟩:=(show∃t,u=Value.str y t from rx);cases q;exact PySem.W.kia_one PySem.W.kitx_str I.kIn True.intro e (λ z=>nomatch z) h
 |flt y=>obtain⟨t,q⟩:=(show∃t,u=Value.float y t from rx);cases q;exact PySem.W.kia_one PySem.W.kitx_float I.kIn True.intro e (λ z=>nomatch z) h
 |@lst a xs ea=>
  cases (show u=Value.ref a from rx);obtain⟨_,_,n,_,h1⟩:=(show bw X.prog X.w H s.heap a (.lst xs)from I.hok a _ ea);exact PySem.W.kia_one PySem.W.kitx_list I.kIn ⟨_,h1,rfl⟩ e (λ z=>nomatch z) h
 |@frz a ob xs ea=>
  cases (show u=Value.ref a from rx);obtain⟨_,_,_,n,_,h1⟩:=(show bw X.prog X.w H s.heap a (.frz ob (.lst xs))from I.hok a _ ea);exact PySem.W.kia_one PySem.W.kitx_list I.kIn ⟨_,h1,rfl⟩ e (λ z=>nomatch z) h
 |@tup a xs ea=>
  cases (show u=Value.ref a from rx);obtain⟨_,_,_,p⟩:=(show bw X.prog X.w H s.heap a (.tup xs)from I.hok a _ ea);obtain⟨o,h1,h2,_⟩:=p;exact PySem.W.kia_one PySem.W.kitx_tuple I.kIn ⟨o,h1,h2⟩ e (λ z=>nomatch z) h
 |@dK a kvs ea=>
  cases (show u=Value.ref a from rx);obtain⟨_,_,vs,_,p⟩:=(show bw X.prog X.w H s.heap a (.dK kvs)from I.hok a _ ea);obtain⟨o,es,ep,h1,h2,_⟩:=p;exact PySem.W.kia_one PySem.W.kitx_dict I.kIn ⟨o,h1,h2.1⟩ e (λ z=>nomatch z) h
 |@dT a kvs ea=>
  cases (show u=Value.ref a from rx);obtain⟨_,_,xs,_,o,es,ep,h1,h2,_⟩:=(show bw X.prog X.w H s.heap a (.dT kvs)from I.hok a _ ea);exact PySem.W.kia_one PySem.W.kitx_dict I.kIn ⟨o,h1,h2.1⟩ e (λ z=>nomatch z) h
 |@ins a C dx fs ea cl ha hn htk hm=>
  cases (show u=Value.ref a from rx);obtain⟨mA,O,_⟩:=tM I.hok ea;obtain⟨od,J,_⟩:=O.look;exact PySem.W.kia_one (PySem.W.kitx_own (cl.get _) cl.hd ha hn htk hm) I.kIn J e (λ z=>nomatch z) h
end
structure dg(k:Nat)(A:Around):Prop where
 hd:A.handled=none
 dp:A.depth+3*k+5<recursionLimit
 un:A.units+16*k+200<cLine
theorem dg.mono{j k:Nat}{A:Around}(r:dg k A)(h:j<=k):dg j A:=⟨r.hd,by have:=r.dp;omega,by have:=r.un;omega⟩
theorem dg.deeper{k:Nat}{A:Around}(r:dg (k+1) A)(env:Env):dg k (A.deeper env):=
 ⟨r.hd,by have:=r.dp;show A.depth+1+3*k+5<_;omega,by have:=r.un;show A.units+3+16*k+200<_;omega⟩
theorem dg.depth{k:Nat}{A:Around}(r:dg k A):A.depth<recursionLimit:=by have:=r.dp;omega
theorem dg.units{k:Nat}{A:Around}(r:dg k A):A.units+64<cLine:=by have:=r.un;omega
theorem dg.units0{k:Nat}{A:Around}(r:dg k A):A.units<cLine:=by have:=r.un;omega
def lV:TA:=λ _ H Q=>Q [] H
def iB(ta:TE)(tr:TA):TA:=λ σ H Q=>ta σ H λ x H1=>tr σ H1 λ xs H2=>Q (x::xs) H2
section
variable{X:Cx}{e:Expr}{es:List Expr}{te:TE}{t:TA}{pos:Pos}
theorem cP:PA X [] lV:=λ _ _ _ _ H Q I h=>Calls.spliced_nil ⟨[],H,I,.nil,h⟩
theorem aa(ha:PE X e te)(hr:PA X es t)(hs:starEach (e::es) X.env=(false,eval e X.env)::starEach es X.env:=by rfl):PA X (e::es) (iB te t):=by
 intro pos pins s σ H Q I h;rw[hs];show wpAny _ _ (spliced ((false,eval e X.env)::backTo pos (starEach es X.env))) _ _ s;refine Calls.spliced_cons (thn (ha pins s σ H _ I h) λ u s1 ⟨x,H1,I1,r1,q1⟩=>?_);exact thn (hr pos pins s1 σ H1 _ I1 q1) λ us s2 ⟨xs,H2,I2,r2,q2⟩=>⟨x::xs,H2,I2,.cons r1 r2,q2⟩
def aL1(t:TA):TE:=λ σ H Q=>t σ H λ xs H1=>xs.length<=sizeLine/\∀p,H1 p=none->Q (.ref p) (upd H1 p (.tup xs))
def aL5(t:TA):TE:=λ σ H Q=>t σ H λ xs H1=>xs.length<=sizeLine/\∀p,H1 p=none->Q (.ref p) (upd H1 p (.lst xs))
theorem aJM{x1}(h:PA X es t):PE X (.Tuple es x1 pos) (aL1 t):=by
 intro pins s σ H Q I hq;refine wpAny_Tuple_spliced (thn (h pos pins s σ H _ I hq) λ us s1 ⟨xs,H1,I1,r,z,q⟩=>⟨by rw[<-r.length];exact z,?_⟩);have hf:H1 s1.heap.objs.size=none:=I1.hok.fresh (Nat.le_refl _);refine⟨.ref s1.heap.objs.size,upd H1 s1.heap.objs.size (.tup xs),I1.laid (t':=s1.toks) (λ b u e=>Heap.get?_push_of_some _ e) (Nat.le_refl _) ?_,rfl,q _ hf⟩;exact⟨z,us,r,⟨_,Heap.get?_push_size _ rfl,rfl,_,rfl⟩⟩
theorem aJQ(h:PA X es t):PE X (.List es pos) (aL5 t):=by
 intro pins s σ H Q I hq;refine wpAny_List_spliced (thn (h pos pins s σ H _ I hq) λ us s1 ⟨xs,H1,I1,r,z,q⟩=>⟨by rw[<-r.length];exact z,?_⟩);have hf:H1 s1.heap.objs.size=none:=I1.hok.fresh (Nat.le_refl _);refine⟨.ref s1.heap.objs.size,upd H1 s1.heap.objs.size (.lst xs),I1.laid (t':=s1.toks) (λ b u e=>Heap.get?_push_of_some _ e) (Nat.le_refl _) ?_,rfl,q _ hf⟩;exact⟨z,us,0,r,Heap.get?_push_size _ rfl⟩
end
abbrev Sp:=List V->Hp->VK->XK->Prop
abbrev CXT:=List Env->Hp->Shared->XK->Value->Shared->Prop
structure aAz(P:Program)(w:World)(K:PySem.W.Frag)(mg:Str->Option Value)(base:Heap)(A:Around)(outer:List Env)(s:Shared)(H:Hp):Prop where
 frames:A.frames=some outer
 mod:Mod K mg base
 bs:∀b o,base.get? b=some o->s.heap.get? b=some o/\H b=none
 bsz:base.objs.size<=s.heap.objs.size
 funs:s.heap.FunFrames base outer
 frf:∀b∈frs outer,H b=none
 hok:HOk P w H s.heap
 bare:AllBare s.gens
def CE(outer:List Env)(P:Program)(w:World)(H:Hp)(s:Shared)(Q:VK)(u:Value)(s':Shared):Prop:=
 ∃v H',s'.os=s.os/\AllBare s'.gens/\Un (frs outer) [] H H' s.heap s'.heap/\HOk P w H' s'.heap/\RelV v u/\Q v H'
def CR(CX:CXT)(outer:List Env)(P:Program)(w:World)(H:Hp)(s:Shared)(Q:VK)(E:XK)(r:Result)(s':Shared):Prop:=
 match r with
 | .ok (.ret u)=>CE outer P w H s Q u s'
 | .ok _=>False
 | .error e=>CX outer H s E e s'
structure cY(P:Program)(w:World)(K:PySem.W.Frag)(mg:Str->Option Value)(base:Heap)(CX:CXT)(k:Nat)(f:Addr)(fd:FuncData)(ps:List Str)(sp:Sp):Prop where
 len:∀vs H Q E,sp vs H Q E->vs.length=ps.length
 run:∀(A:Around) (outer:List Env) (s:Shared) (H:Hp) (args:Args) (us:List Value) (vs:List V) (Q:VK) (E:XK),dg k A->aAz P w K mg base A outer s H->BindsTo s fd args (ps.zip us)->Vals vs us->sp vs H Q E->
  codeAny (model P w) A (.call (.ref f) args) (CR CX outer P w H s Q E) s
section
variable{X:Cx}{pins:List (Addr×Obj)}{σ:St}{H:Hp}{s s':Shared}
theorem Inv.env0(I:Inv X pins σ H s):aAz X.prog X.w X.K X.mg X.base X.A X.stack s H:=
 ⟨I.ok.frames,I.ok.mod,I.bs,Nat.le_trans I.ok.bsz I.sz,I.stack,I.stkFree,I.hok,I.bare⟩
theorem Inv.after{Q:VK}{u:Value}(I:Inv X pins σ H s)(h:CE X.stack X.prog X.w H s Q u s'):EP X pins σ Q u s':=by
 obtain⟨v,H',os,bare,un,hok,r,q⟩:=h;obtain⟨hh,g,d,t,os'⟩:=s';obtain rfl:os'=s.os:=os;exact⟨v,H',I.call (h':=hh) (g':=g) (d':=d) (t':=t) (ch:=[]) un hok bare (λ b z=>absurd z (by simp)),r,q⟩
end
def zZ(sp:Sp)(dvs:List V)(E:XK)(t:TA):TE:=λ σ H Q=>t σ H λ vs H1=>sp (vs++dvs) H1 Q E
def tMeth(C:Addr)(m:Str)(sp:Sp)(dvs:List V)(E:XK)(ta:TE)(t:TA):TE:=λ σ H Q=>ta σ H λ x H1=>∃a dx fs,x= .ref a/\H1 a=some (.ins C dx fs)/\fs.lookup m=none/\
 t σ H1 λ vs H2=>sp (x::(vs++dvs)) H2 Q E
def tMake(C:Addr)(sp:Sp)(dvs:List V)(E:XK)(t:TA):TE:=λ σ H Q=>t σ H λ vs H1=>∀x dx,H1 x=none->H1 dx=none->dx≠x->
 sp (.ref x::(vs++dvs)) (upd (upd H1 dx (.own x)) x (.ins C dx [])) (λ v H2=>v= .non/\Q (.ref x) H2) E
def Binds(K:PySem.W.Frag)(fd:FuncData)(ps:List Str)(ds:List Value):Prop:=
 ∀(s:Shared) (us:List Value),K.In s.heap->(us++ds).length=ps.length->BindsTo s fd ⟨us,[]⟩ (ps.zip (us++ds))
theorem Binds.all{K:PySem.W.Frag}{fd:FuncData}{ps:List Str}(h:∀us:List Value,us.length=ps.length->bindArgs fd ⟨us,[]⟩=pure (ps.zip us)):Binds K fd ps []:=λ s us _ hl=>by
 rw[List.append_nil]at hl ⊢;exact .of_eq (h us hl)
def o8(CX:CXT)(X:Cx)(E:XK):Prop:=∀(pins:List (Addr×Obj)) (σ:St) (H:Hp) (s:Shared) (e:Value) (s':Shared),Inv X pins σ H s->CX X.stack H s E e s'->X.xe e s'
section
variable{X:Cx}{CX:CXT}{k:Nat}{f C:Addr}{fd:FuncData}{ps:List Str}{sp:Sp}{dvs:List V}{ds:List Value}{E:XK}{x m:Str}{p pos apos:Pos}{e o:Expr}{es:List Expr}{ta:TE}{t:TA}
theorem aE1{pins:List (Addr×Obj)}{σ:St}{H:Hp}{s:Shared}{Q:VK}{us:List Value}{vs:List V}(F:cY X.prog X.w X.K X.mg X.base CX k f fd ps sp)(hr:dg k X.A)(hb:Binds X.K fd ps ds)(hd:Vals dvs ds)(hx:o8 CX X E)
  (I:Inv X pins σ H s)(r:Vals vs us)(h:sp (vs++dvs) H Q E):wpAny (model X.prog X.w) X.A (call (.ref f) us) (EP X pins σ Q) X.xe s:=by
 have r2:Vals (vs++dvs) (us++ds):=r.append hd;have hl:(us++ds).length=ps.length:=by rw[<-r2.length];exact F.len _ _ _ _ h
 refine wpAny_call (codeAny_mono (F.run X.A X.stack s H ⟨us,[]⟩ (us++ds) (vs++dvs) Q E hr I.env0 (hb s us I.kIn hl) r2 h) λ r s' hq=>?_);cases r with
 |error e=>exact hx pins σ H s e s' I hq
 |ok fl=>
  cases fl with
  |ret u=>exact I.after hq
  |next=>exact False.elim hq
  |brk=>exact False.elim hq
  |cont=>exact False.elim hq
theorem aGu(F:cY X.prog X.w X.K X.mg X.base CX k f fd ps sp)(hr:dg k X.A)(hg:Gl X x)(hm:X.mg x=some (.ref f))(hk:PySem.W.keepIn X.K (.ref f)=true)(hb:Binds X.K fd ps ds)(hd:Vals dvs ds)(hx:o8 CX X E)
  (ha:PA X (e::es) t)(hdb:(x==("__debug__":Str))=false:=by decide)(he:starEach (e::es) X.env=(false,eval e X.env)::starEach es X.env:=by rfl)(hpl:(backTo pos (starEach es X.env)).any (·.1)=false:=by rfl):
  PE X (.Call (.Name x p) (e::es) [] pos) (zZ sp dvs E t):=by
 intro pins s σ H Q I h;refine wpAny_Call_Name_kw (m6 I hg hm ?_ hdb);refine PySem.W.callWith_K (h₀:=X.base) I.ok.mod.kin hk (thn (ha pos pins s σ H _ I h) λ us s1 ⟨vs,H1,I1,r,q⟩=>⟨I1.kIn,?_⟩) he hpl;exact aE1 F hr hb hd hx I1 r q
end
section
variable{X:Cx}{CX:CXT}{k:Nat}{f C:Addr}{fd:FuncData}{ps ks:List Str}{sp:Sp}{E:XK}{x m:Str}{p pos apos kpos:Pos}{e o:Expr}{es:List Expr}{kws:List Keyword}{te ta:TE}{t tk:TA}{nm:Option Str}
variable{g:List Value->List Value->List Value}{gV:List V->List V->List V}
end
structure ak(N P:List Str)(sc:Scope):Prop where
 kind:sc.kind= .function
 co:sc.isCoroutine=false
 gen:sc.isGenerator=false
 nd:N.Nodup
 pre:N.take P.length=P
 par:∀x∈P,sc.names.lookup x=some .local\/sc.names.lookup x=some .cell
 nofree:∀y∈sc.names,y.2≠.free
theorem xY{kindOf:Str->Option NameKind}{x:Str}:∀{binds:List (Str×Value)} {m:Str->Option Value},(∀v,(x,v)∉binds)->bindL kindOf binds m x=m x
 |[],_,_=>rfl
 |(n,v)::r,m,h=>by
  unfold bindL;rw[xY λ w hw=>h w (List.mem_cons_of_mem _ hw)];split
  ·have:x≠n:=by rintro rfl;exact h v List.mem_cons_self
   simp[this]
  ·rfl
theorem xf{kindOf:Str->Option NameKind}{x:Str}:∀{binds:List (Str×Value)} {m:Str->Option Value},(∀v,(x,v)∉binds)->bindC kindOf binds m x=m x
 |[],_,_=>rfl
 |(n,v)::r,m,h=>by
  unfold bindC;rw[xf λ w hw=>h w (List.mem_cons_of_mem _ hw)];split
  ·rfl
  ·have:x≠n:=by rintro rfl;exact h v List.mem_cons_self
   simp[this]
theorem xZ{kindOf:Str->Option NameKind}{x:Str}{v:Value}:∀{P:List Str} {vs:List Value} {i:Nat} {m:Str->Option Value},P.Nodup->P[i]? =some x->vs[i]? =some v->kindOf x=some .local->
  bindL kindOf (P.zip vs) m x=some v
 |[],_,_,_,_,h,_,_=>by simp at h
 |_::_,[],_,_,_,_,h,_=>by simp at h
 |p::P,w::vs,0,m,nd,h1,h2,hk=>by
  simp at h1 h2;subst h1;subst h2;show bindL kindOf ((p,w)::P.zip vs) m p=_;unfold bindL;rw[xY λ v hv=>(List.nodup_cons.mp nd).1 (List.of_mem_zip hv).1,if_pos hk];simp
 |p::P,w::vs,i+1,m,nd,h1,h2,hk=>by
  show bindL kindOf ((p,w)::P.zip vs) m x=_;unfold bindL;exact xZ (i:=i) (List.nodup_cons.mp nd).2 (by simpa using h1) (by simpa using h2) hk
theorem xg{kindOf:Str->Option NameKind}{x:Str}{v:Value}:∀{P:List Str} {vs:List Value} {i:Nat} {m:Str->Option Value},P.Nodup->P[i]? =some x->vs[i]? =some v->kindOf x≠some .local->
  bindC kindOf (P.zip vs) m x=some v
 |[],_,_,_,_,h,_,_=>by simp at h
 |_::_,[],_,_,_,_,h,_=>by simp at h
 |p::P,w::vs,0,m,nd,h1,h2,hk=>by
  simp at h1 h2;subst h1;subst h2;show bindC kindOf ((p,w)::P.zip vs) m p=_;unfold bindC;rw[xf λ v hv=>(List.nodup_cons.mp nd).1 (List.of_mem_zip hv).1,if_neg hk];simp
 |p::P,w::vs,i+1,m,nd,h1,h2,hk=>by
  show bindC kindOf ((p,w)::P.zip vs) m x=_;unfold bindC;exact xg (i:=i) (List.nodup_cons.mp nd).2 (by simpa using h1) (by simpa using h2) hk
def start(N:List Str)(vs:List V):St:=vs.map some++List.replicate (N.length-vs.length) none
def sr(CX:CXT)(P:Program)(w:World)(K:PySem.W.Frag)(mg:Str->Option Value)(base:Heap)(N:List Str)(qual:Str)(scope:Scope)(f:Addr)(cd:Value)(A:Around)(outer:List Env)(s:Shared)(H:Hp)(E:XK):Cx where
 prog:=P
 w:=w
 K:=K
 mg:=mg
 base:=base
 A:=A.deeper (envOfC qual scope s.heap.objs.size f cd)
 N:=N
 s₀:=s
 H₀:=H
 env:=envOfC qual scope s.heap.objs.size f cd
 outer:=outer
 stack:=envOfC qual scope s.heap.objs.size f cd::outer
 ex:=[]
 calm:=true
 fn:=λ _=>true
 pn:=[]
 xe:=λ e s'=>wpAny (model P w) (A.deeper (envOfC qual scope s.heap.objs.size f cd)) (leaving (envOfC qual scope s.heap.objs.size f cd) e) (λ _ s''=>CX outer H s E e s'') (λ e' s''=>CX outer H s E e' s'') s'
theorem pZ{sc:Scope}{n:Nat}{x:Str}(h:sc.names.lookup x=some .cell):∃c,(cellsFrom n sc.names []).lookup x=some c:=by
 have q:=PySem.W.cellsFrom_some sc.names n [] (.inl h);exact Option.isSome_iff_exists.mp q
theorem qy{CX:CXT}{P:Program}{w:World}{K:PySem.W.Frag}{mg:Str->Option Value}{base:Heap}{N ps:List Str}{qual:Str}{scope:Scope}{f:Addr}{cd:Value}{A:Around}{outer:List Env}{s s1:Shared}{H:Hp}{E:XK}{us:List Value}{vs:List V}
  (S:ak N ps scope)(hd:A.handled=none)(e0:aAz P w K mg base A outer s H)(hl:vs.length=ps.length)(r:Vals vs us)
  (x:InCallC s s.heap.objs.size (bindL (envOfC qual scope s.heap.objs.size f cd).kindOf (ps.zip us) λ _=>none) (cellsFrom (s.heap.objs.size+1) scope.names []) (bindC (envOfC qual scope s.heap.objs.size f cd).kindOf (ps.zip us) λ _=>none) s1):
  Inv (sr CX P w K mg base N qual scope f cd A outer s H E) [] (start N vs) H s1:=by
 have hpl:ps.length<=N.length:=by have:=congrArg List.length S.pre;rw[List.length_take]at this;omega
 obtain⟨h1,tk,rfl,hk⟩:=x.done;have noA:∀b:Addr,b∉(sr CX P w K mg base N qual scope f cd A outer s H E).ex:=λ b z=>absurd (show b∈([]:List Addr)from z) (by simp)
 refine⟨⟨e0.mod,S.kind,rfl,rfl,Nat.le_refl _,λ y z c h1 h2=>?_,λ y hy=>?_,λ y c _ h=>?_,λ _=>hd,Around.frames_deeper e0.frames,.inr ⟨rfl,rfl⟩,λ b z=>absurd z (noA b),e0.bs,e0.bsz,λ b _ _=>noA b,λ b z=>absurd z (noA b),e0.funs,e0.frf⟩,
  rfl,e0.bare,Un.kept hk,⟨_,x.toInCall.ns,λ i y v h1 h2 h3=>?_⟩,λ y c h=>⟨_,x.cell y c h⟩,e0.hok.fresh (Nat.le_refl _),λ y c h=>?_,λ p hp=>absurd (show p∈([]:List (Addr×Obj))from hp) (by simp),e0.hok.kept hk,?_,λ p hp=>absurd (show p∈([]:List (Addr×Obj))from hp) (by simp)⟩
 ·exact name_of_addr x.apart (PySem.mem_of_lookup h1) (PySem.mem_of_lookup h2)
 ·have hy:scope.names.lookup y=some .cell\/scope.names.lookup y=some .free:=hy
  rcases hy with hy|hy
  ·exact pZ hy
  ·exact absurd rfl (S.nofree _ (PySem.mem_of_lookup hy))
 ·exact Nat.le_of_lt (x.above y c (PySem.mem_of_lookup h))
 ·have hi:i<vs.length:=by
   unfold start at h2;by_cases hi:i<vs.length
   ·exact hi
   ·rw[List.getElem?_append_right (by simpa using hi)]at h2
    rw[List.getElem?_replicate]at h2;split at h2<;>cases h2
  have ha:vs[i]? =some v:=by
   unfold start at h2;rw[List.getElem?_append_left (by simpa using hi),List.getElem?_map]at h2;cases e:vs[i]? with
   |none=>rw[e]at h2;cases h2
   |some a=>rw[e]at h2;cases h2;rfl
  obtain⟨u,hu,rv⟩:=r.get ha;have hp:ps[i]? =some y:=by
   rw[<-S.pre,List.getElem?_take_of_lt (by omega)];exact h1
  have ndP:ps.Nodup:=by rw[<-S.pre];exact S.nd.sublist (List.take_sublist _ _)
  refine⟨u,rv,?_⟩;rcases S.par y (List.mem_of_getElem? hp)with k|k
  ·exact .inl ⟨k,xZ ndP hp hu k⟩
  ·obtain⟨c,e⟩:=pZ (n:=s.heap.objs.size+1) k
   refine .inr ⟨.inl k,c,e,?_⟩;have q:=x.cell y c e;rw[xg ndP hp hu (by show scope.names.lookup y≠_;rw[k];decide)]at q;exact q
 ·exact e0.hok.fresh (Nat.le_of_lt (x.above y c (PySem.mem_of_lookup h)))
 ·unfold start
  show _=N.length;rw[List.length_append,List.length_map,List.length_replicate];omega
theorem aLK{CX:CXT}{P:Program}{w:World}{K:PySem.W.Frag}{mg:Str->Option Value}{base:Heap}{k:Nat}{f:Addr}{name qual:Str}{params:Arguments}{body:List Stmt}{scope:Scope}{dV kV doc pm cdv ct oc:Value}{an od:Option Addr}
  {osl:Array (Option Value)}{N ps:List Str}{sp:Sp}(lk:K.lookup f=some ⟨oc,od,.func (PySem.W.fnOf name qual params body scope dV kV doc pm an cdv ct),osl⟩)(hcd:PySem.W.codeIn K cdv qual=true)(S:ak N ps scope)
  (len:∀vs H Q E,sp vs H Q E->vs.length=ps.length)
  (hbody:∀(A:Around) (outer:List Env) (s:Shared) (H:Hp) (vs:List V) (Q:VK) (E:XK),dg k (A.deeper (envOfC qual scope s.heap.objs.size f cdv))->sp vs H Q E->
   ∃t,PSs (sr CX P w K mg base N qual scope f cdv A outer s H E) body t/\t {nx:=λ _ H'=>Q .non H',rt:=Q} (start N vs) H):
  cY P w K mg base CX (k+1) f (PySem.W.fnOf name qual params body scope dV kV doc pm an cdv ct) ps sp:=by
 refine⟨len,λ A outer s H args us vs Q E hr e0 hb r hsp=>?_⟩;have hl:=len _ _ _ _ hsp;have KX:K.In s.heap:=e0.mod.kin.keeps λ b o e=>(e0.bs b o e).1
 have lim:s.heap.NoLimit:=e0.mod.nolimit.keeps λ b o e=>(e0.bs b o e).1
 have hkind:∀y∈ps.zip us,scope.names.lookup y.1=some .local\/(scope.names.lookup y.1=some .cell/\((cellsFrom (s.heap.objs.size+1) scope.names []).lookup y.1).isSome=true):=λ⟨n,v⟩ hy=>by
  rcases S.par n (List.of_mem_zip hy).1 with q|q
  ·exact .inl q
  ·exact .inr ⟨q,PySem.W.cellsFrom_some _ _ _ (.inl q)⟩
 refine codeAny_call_function hr.depth (KX _ _ lk) rfl S.co S.gen rfl (PySem.W.codeRec_of KX hcd) (hb _ _ _ _ ?_);refine wpAny_newFunctionEnv_cells S.kind hkind λ env he s1 x=>?_
 subst he;refine⟨lim.keeps x.toInCall.keep,codeAny_func ?_⟩;obtain⟨t,ht,hq⟩:=hbody A outer s H vs Q E (hr.deeper _) hsp;have I:Inv (sr CX P w K mg base N qual scope f cdv A outer s H E) [] (start N vs) H s1:=qy S hr.hd e0 hl r x;refine wpAny_mono (ht [] s1 (start N vs) H _ I hq) (λ fl s' hs=>?_) λ e s' hs=>hs
 have fin:∀{σ':St} {H':Hp} {v:V} {u:Value},Inv (sr CX P w K mg base N qual scope f cdv A outer s H E) [] σ' H' s'->RelV v u->Q v H'->CE outer P w H s Q u s':=
  λ{σ' H' v u} J rv q=>⟨v,H',J.os,J.bare,J.base,J.hok,rv,q⟩
 cases fl with
 |ret u=>
  obtain⟨v,σ',H',J,rv,q⟩:=hs;exact fin J rv q
 |next=>
  obtain⟨σ',H',J,q⟩:=hs;exact fin (v:=V.non) (u:=Value.none) J rfl q
 |brk=>
  obtain⟨_,_,_,q⟩:=hs;exact False.elim q
 |cont=>
  obtain⟨_,_,_,q⟩:=hs;exact False.elim q
section
variable{X:Cx}{x:Str}{p pos:Pos}{e:Expr}{es:List Expr}{t:TA}{id T:String}{r:List V->Hp->VK->Prop}
def tCB(r:List V->Hp->VK->Prop)(t:TA):TE:=λ σ H Q=>t σ H λ vs H1=>r vs H1 Q
theorem lz(hc:cO X (.builtin id) r)(hg:Gl X x)(hm:X.mg x=none)(hv:bootBuiltins x=some (.builtin id))(ha:PA X (e::es) t)(hn:x≠"__name__":=by decide)(hdb:(x==("__debug__":Str))=false:=by decide)
  (he:starEach (e::es) X.env=(false,eval e X.env)::starEach es X.env:=by rfl)(hpl:(backTo pos (starEach es X.env)).any (·.1)=false:=by rfl):PE X (.Call (.Name x p) (e::es) [] pos) (tCB r t):=by
 intro pins s σ H Q I h;refine wpAny_Call_Name_kw (oX I hg hm hv ?_ hn hdb);exact PyProof.Rows.callWith_builtin1 (thn (ha pos pins s σ H _ I h) λ us s1 ⟨vs,H1,I1,r1,q1⟩=>hc pins s1 σ H1 vs us Q I1 r1 q1) he hpl
theorem mY(hc:cO X (.type T) r)(hg:Gl X x)(hm:X.mg x=none)(hv:bootBuiltins x=some (.type T))(ha:PA X (e::es) t)(hn:x≠"__name__":=by decide)(hdb:(x==("__debug__":Str))=false:=by decide)
  (he:starEach (e::es) X.env=(false,eval e X.env)::starEach es X.env:=by rfl)(hpl:(backTo pos (starEach es X.env)).any (·.1)=false:=by rfl):PE X (.Call (.Name x p) (e::es) [] pos) (tCB r t):=by
 intro pins s σ H Q I h;refine wpAny_Call_Name_kw (oX I hg hm hv ?_ hn hdb);exact PyProof.Rows.callWith_type1 (thn (ha pos pins s σ H _ I h) λ us s1 ⟨vs,H1,I1,r1,q1⟩=>hc pins s1 σ H1 vs us Q I1 r1 q1) he hpl
theorem aBd(hc:cO X (.type T) r)(hg:Gl X x)(hm:X.mg x=none)(hv:bootBuiltins x=some (.type T))(hn:x≠"__name__":=by decide)(hdb:(x==("__debug__":Str))=false:=by decide):
  PE X (.Call (.Name x p) [] [] pos) (tCB r lV):=by
 intro pins s σ H Q I h;refine wpAny_Call_Name_kw (oX I hg hm hv ?_ hn hdb);exact PyProof.Rows.callWith_type0 (hc pins s σ H [] [] Q I .nil h)
end
end L2
namespace HT
open PySem PyProof.Rows
def lexLt:List Int->List Int->Bool
 |[],[]=>false
 |[],_::_=>true
 |_::_,[]=>false
 |x::xs,y::ys=>if x=y then lexLt xs ys else decide (x<y)
theorem ik(x y:Int)(xs ys:List Int):lexLt (x::xs) (y::ys)=if x=y then lexLt xs ys else decide (x<y):=rfl
theorem vm:lexLt [] []=false:=rfl
theorem uh(y:Int)(ys:List Int):lexLt [] (y::ys)=true:=rfl
theorem ul(x:Int)(xs:List Int):lexLt (x::xs) []=false:=rfl
theorem aAf(A:Around)(s:Shared)(a:Int)(t:Tok)(c:Int)(u:Tok):∃e,SeqAt.EqAt A s (.int a t) (.int c u) e/\(e=true↔a=c):=
 ⟨(a==c),SeqAt.EqAt.int_int a t c u,by simp⟩
theorem aE8(A:Around)(s:Shared)(a:Int)(t:Tok)(c:Int)(u:Tok)(prog:Program)(w:World)(E:Value->Shared->Prop)(Q:Value->Shared->Prop)(h:Q (.bool (decide (a<c))) s):
  wpAny (model prog w) A (richCompare .Lt (.int a t) (.int c u)) Q E s:=
 (PyProof.Rows.lt_int h:wpAny (model prog w) A (compareOp .Lt (.int a t) (.int c u)) Q E s)
section
open PySem.SeqAt
open PySem.AutoSeq1(wpAny_loadPart')
open PySem.MeetsSeq PySem.MeetsSeq2 PySem.MeetsSeq3
theorem v5(l b:Addr)(items items2:Array Value)(n n2:Nat)(dd dd2:Option Addr)(sl sl2:Array (Option Value))(ns ms:List Int)(hi:IntsAre items.toList ns)(hj:IntsAre items2.toList ms):
  Meets (Builtin.«tuple.__lt__» ⟨[.ref l,.ref b],[]⟩)
   (λ _ R s=>s.heap.get? l=some {cls:=.type "tuple",dict:=dd,data:=.seq items n,slots:=sl}/\s.heap.get? b=some {cls:=.type "tuple",dict:=dd2,data:=.seq items2 n2,slots:=sl2}/\
    R (.ok (.ret (.bool (lexLt ns ms)))) s):=
 .of_wp λ prog w A R s h=>by
  obtain⟨hp,g,d,tk,os⟩:=s;obtain⟨hl,hb,h⟩:=h;have f2:=AutoSeq1.sub_tuple_tuple;have z1:items.size=ns.length:=by rw[<-hi.length];simp
  have z2:items2.size=ms.length:=by rw[<-hj.length];simp
  wp_walk using wpAny_loadPart' hl,wpAny_loadPart' hb,wpAny_forIn_list _ (λ rest b s'=>b.1=none/\s'=⟨hp,g,d,tk,os⟩/\∃(vs ws:List Value) (ns' ms':List Int),rest=vs.zip ws/\
   IntsAre vs ns'/\IntsAre ws ms'/\ns'.length+items2.size=ms'.length+items.size/\R (.ok (.ret (.bool (lexLt ns' ms')))) ⟨hp,g,d,tk,os⟩) _
  case turn=>
   rintro⟨y,x⟩ rest b s' ⟨hb',rfl,vs,ws,ns',ms',hz,hvi,hwi,hlen,hR⟩;cases hvi with
   |nil=>rw[List.zip_nil_left]at hz;cases hz
   |cons a t hvi'=>
    cases hwi with
    |nil=>rw[List.zip_nil_right]at hz;cases hz
    |cons c u hwi'=>
     rw[List.zip_cons_cons]at hz;injection hz with hyx hrest
     injection hyx with hy hx
     subst hy hx;rw[ik]at hR;simp only[List.length_cons]at hlen;obtain⟨e,he,hiff⟩:=aAf A.in1 ⟨hp,g,d,tk,os⟩ a t c u;refine wpAny_bind (he prog w _ _ ?_);cases e with
     |true=>
      rw[if_pos (hiff.mp rfl)]at hR;wp_walk;exact⟨rfl,rfl,_,_,_,_,hrest,hvi',hwi',by omega,hR⟩
     |false=>
      rw[if_neg (λ q=>absurd (hiff.mpr q) Bool.false_ne_true)]at hR;have hri:=aE8 A.in1 ⟨hp,g,d,tk,os⟩ a t c u prog w;wp_walk using hri;exact⟨_,rfl,by simpa using hR⟩
  case fin=>
   rintro⟨b1,b2⟩ s' ⟨hb',rfl,vs,ws,ns',ms',hz,hvi,hwi,hlen,hR⟩;simp only at hb';subst hb';have hv:lexLt ns' ms'=decide (items.size<items2.size):=by
    cases hvi with
    |nil=>
     cases hwi with
     |nil=>
      simp only[List.length_nil]at hlen;rw[vm];exact(decide_eq_false (by omega)).symm
     |cons c u hw=>
      simp only[List.length_nil,List.length_cons]at hlen;rw[uh];exact(decide_eq_true (by omega)).symm
    |cons a t hv=>
     cases hwi with
     |nil=>
      simp only[List.length_nil,List.length_cons]at hlen;rw[ul];exact(decide_eq_false (by omega)).symm
     |cons c u hw=>
      rw[List.zip_cons_cons]at hz;cases hz
   rw[hv]at hR;wp_walk;exact⟨_,rfl,by simpa[Builtin.Tuple.tupleCompareSizes]using hR⟩
  case h=>
   exact⟨rfl,rfl,items.toList,items2.toList,ns,ms,rfl,hi,hj,by omega,h⟩
end
section
variable{prog:Program}{w:World}{A:Around}{E:Value->Shared->Prop}{s:Shared}
theorem aBo{l b:Addr}{items items2:Array Value}{ns ms:List Int}{Q:Value->Shared->Prop}(hl:IsTup s.heap l items)(hb:IsTup s.heap b items2)(hi:IntsAre items.toList ns)(hj:IntsAre items2.toList ms)
  (hu:A.units<cLine)(h:Q (.bool (lexLt ns ms)) s):wpAny (model prog w) A (compareOp .Lt (.ref l) (.ref b)) Q E s:=by
 obtain⟨⟨cls,dd,data,sl⟩,ho,hc,n,hd⟩:=id hl;obtain⟨⟨cls2,dd2,data2,sl2⟩,ho2,hc2,n2,hd2⟩:=id hb;simp only at hc hd hc2 hd2;subst hc hd hc2 hd2;exact richCompare_meets_room (op:=.Lt) ⟨_,ho,rfl⟩ ⟨_,ho2,rfl⟩ PySem.F.slot_tuple_lt PySem.F.entry_tuple_lt (PySem.F.args_tuple_lt_2 _ _) (v5 l b items items2 n n2 dd dd2 sl sl2 ns ms hi hj)
  ⟨ho,ho2,show Value.bool (lexLt ns ms)≠Value.notImplemented/\Q (.bool (lexLt ns ms)) s from⟨(λ x=>nomatch x),h⟩⟩ hu
theorem aHq{t b:Addr}{vs ws:List Value}{Q:Value->Shared->Prop}(ht:IsTup s.heap t vs.toArray)(hb:IsTup s.heap b ws.toArray)(hv:vs≠[])
  (h1:ws=[]->Q (.ref t) s)(h2:ws≠[]->Q (.ref s.heap.objs.size) {s with heap:=s.heap.push {cls:=.type "tuple",data:=.seq (vs++ws).toArray}})
  (hsz:vs.length+ws.length<=sizeLine):wpAny (model prog w) A (binaryOp .Add (.ref t) (.ref b)) Q E s:=by
 obtain⟨⟨cls,dd,data,sl⟩,ho,hc,n,hd⟩:=id ht;obtain⟨⟨cls2,dd2,data2,sl2⟩,ho2,hc2,n2,hd2⟩:=id hb;simp only at hc hd hc2 hd2;subst hc hd hc2 hd2;have e:vs.toArray++ws.toArray=(vs++ws).toArray:=by simp
 by_cases hw:ws=[]
 ·exact concat_meets ⟨_,ho,rfl⟩ ⟨_,ho2,rfl⟩ noFill_tuple_add seq_tuple_add PySem.F.slot_tuple_add PySem.F.entry_tuple_add (PySem.F.args_tuple_add_2 _ _)
   (tuple_addW1 t b vs.toArray ws.toArray n n2 dd dd2 sl sl2 (by simpa using hv) (by simp[hw])) ⟨ho,ho2,h1 hw⟩
 ·refine concat_meets ⟨_,ho,rfl⟩ ⟨_,ho2,rfl⟩ noFill_tuple_add seq_tuple_add PySem.F.slot_tuple_add PySem.F.entry_tuple_add (PySem.F.args_tuple_add_2 _ _)
   (tuple_addW2 t b vs.toArray ws.toArray n n2 dd dd2 sl sl2 (by simpa using hv) (by simpa using hw) (by rw[List.size_toArray,List.size_toArray];exact hsz)) ⟨ho,ho2,?_⟩
  rw[e];exact h2 hw
end
end HT
namespace L2
open PySem PySem.Spec PyProof.Rows
abbrev TO:=St->Hp->(Option Int->Hp->Prop)->Prop
theorem intsAre_of{ns:List Int}:∀{us:List Value},Vals (ns.map V.int) us->IntsAre us ns:=by
 induction ns with
 |nil=>intro us r;rw[List.map_nil]at r;cases r;exact .nil
 |cons n ns ih=>
  intro us r;rw[List.map_cons]at r;cases r with
  |cons r1 r2=>
   obtain⟨t,e⟩:=r1;subst e;exact .cons n t (ih r2)
section
variable{X:Cx}{e:Expr}{te:TE}{lo hi:Option Expr}{tl th:TO}{pos p2:Pos}
def aGh(K:PySem.W.Frag):R2:=λ x y H Q=>∃a b ns ms,x= .ref a/\y= .ref b/\SqT K H a (ns.map V.int)/\SqT K H b (ms.map V.int)/\Q (.bl (HT.lexLt ns ms)) H
theorem aJ7(hu:X.A.units<cLine):OpR X (compareOp .Lt) (aGh X.K):=by
 intro pins s σ H x y v u Q I rx ry h;obtain⟨a,b,ns,ms,rfl,rfl,ha,hb,q⟩:=h;cases rx;cases ry;obtain⟨its,r1,p1,_⟩:=I.tuple ha;obtain⟨its2,r2,p2,_⟩:=I.tuple hb;have i1:IntsAre its.toArray.toList ns:=intsAre_of r1;have i2:IntsAre its2.toArray.toList ms:=intsAre_of r2;exact HT.aBo p1 p2 i1 i2 hu ⟨.bl (HT.lexLt ns ms),H,I,rfl,q⟩
def aKn(K:PySem.W.Frag):R2:=λ x y H Q=>∃a b xs ys,x= .ref a/\y= .ref b/\SqT K H a xs/\SqT K H b ys/\xs≠[]/\xs.length+ys.length<=sizeLine/\
 (ys=[]->Q (.ref a) H)/\(ys≠[]->∀p,H p=none->Q (.ref p) (upd H p (.tup (xs++ys))))
theorem Vals.nil_iff{xs:List V}{us:List Value}(r:Vals xs us):us=[]↔xs=[]:=by
 cases r with
 |nil=>simp
 |cons _ _=>simp
theorem aHE:OpR X (binaryOp .Add) (aKn X.K):=by
 intro pins s σ H x y v u Q I rx ry h;obtain⟨a,b,xs,ys,rfl,rfl,ha,hb,hx,hz,q1,q2⟩:=h;cases rx;cases ry;obtain⟨its,r1,p1,_⟩:=I.tuple ha;obtain⟨its2,r2,p2,_⟩:=I.tuple hb;refine HT.aHq p1 p2 (λ z=>hx (r1.nil_iff.mp z)) (λ z=>⟨.ref a,H,I,rfl,q1 (r2.nil_iff.mp z)⟩) (λ z=>?_) (by rw[<-r1.length,<-r2.length];exact hz);refine⟨.ref s.heap.objs.size,_,I.laid (t':=s.toks) (o:=.tup (xs++ys)) (λ b ob q=>Heap.get?_push_of_some _ q) (Nat.le_refl _) ?_,rfl,q2 (λ w=>z (r2.nil_iff.mpr w)) _ (I.hok.fresh (Nat.le_refl _))⟩;exact⟨by rw[List.length_append];exact hz,_,r1.append r2,IsTup.new _ _⟩
end
def ixN(n:Nat)(i:Int):Option Nat:=if 0<=i then(if i<n then some i.toNat else none)else if -(n:Int)<=i then some (i+n).toNat else none
def atI{α:Type}(xs:List α)(i:Int):Option α:=(ixN xs.length i).bind λ j=>xs[j]?
theorem aCs{n:Nat}{i:Int}{j:Nat}(h:ixN n i=some j):seqIndex? i n=some j/\j<n/\-(n:Int)<=i/\i<n:=by
 unfold ixN at h;by_cases h0:0<=i
 ·rw[if_pos h0]at h
  by_cases h1:i<n
  ·rw[if_pos h1]at h
   have e:i.toNat=j:=Option.some.inj h;exact⟨by rw[seqIndex_of h0 h1,e],by omega,by omega,h1⟩
  ·rw[if_neg h1]at h;cases h
 ·rw[if_neg h0]at h
  by_cases h1: -(n:Int)<=i
  ·rw[if_pos h1]at h
   have e:(i+n).toNat=j:=Option.some.inj h;exact⟨by rw[seqIndex_neg (by omega) h1,e],by omega,h1,by omega⟩
  ·rw[if_neg h1]at h;cases h
theorem zQ{α:Type}{xs:List α}{i:Int}{v:α}(h:atI xs i=some v):∃j,seqIndex? i xs.length=some j/\xs[j]? =some v/\j<xs.length/\-(xs.length:Int)<=i/\i<xs.length:=by
 unfold atI at h;cases e:ixN xs.length i with
 |none=>rw[e]at h;cases h
 |some j=>
  rw[e]at h;obtain⟨h1,h2,h3,h4⟩:=aCs e;exact⟨j,h1,h,h2,h3,h4⟩
def tR(b:Expr):Prop:=∀o i,subscripted b false o i=operate [o,i] (getItem o i)
def IxR(X:Cx)(r:R2):Prop:=
 ∀(value slice:Expr) (pins:List (Addr×Obj)) (s:Shared) (σ:St) (H:Hp) (x y:V) (v u:Value) (Q:VK),Inv X pins σ H s->RelV x v->RelV y u->r x y H Q->
  subscripted slice false v u=operate [v,u] (getItem v u)->wpAny (model X.prog X.w) X.A (subscriptTail value slice v u) (EP X pins σ Q) X.xe s
def MtR(X:Cx)(id:String)(r:V->List V->Hp->VK->Prop):Prop:=
 ∀(pins:List (Addr×Obj)) (s:Shared) (σ:St) (H:Hp) (x:V) (xs:List V) (v:Value) (us:List Value) (Q:VK),Inv X pins σ H s->RelV x v->Vals xs us->r x xs H Q->
  wpAny (model X.prog X.w) X.A (call (.builtin id) (v::us)) (EP X pins σ Q) X.xe s
section
variable{X:Cx}{a b:Expr}{ta tb:TE}{pos:Pos}
theorem IxR.or{r r':R2}(h:IxR X r)(h':IxR X r'):IxR X (λ x y H Q=>r x y H Q\/r' x y H Q):=by
 intro value slice pins s σ H x y v u Q I rx ry q hs;rcases q with q|q
 ·exact h value slice pins s σ H x y v u Q I rx ry q hs
 ·exact h' value slice pins s σ H x y v u Q I rx ry q hs
theorem aEt{r:R2}(hr:IxR X r)(ha:PE X a ta)(hb:PE X b tb)(hs:tR b):PE X (.Subscript a b pos) (tOp r ta tb):=by
 intro pins s σ H Q I h;exact Subscript_ (aKN ha hb I h λ v u s2 x y H2 I2 rx ry q=>hr a b pins s2 σ H2 x y v u Q I2 rx ry q (hs _ _))
def aIx(K:PySem.W.Frag):R2:=λ x y H Q=>∃p xs i v,x= .ref p/\y= .int i/\SqL K H p xs/\atI xs i=some v/\Q v H
def aKk(K:PySem.W.Frag):R2:=λ x y H Q=>∃p xs i v,x= .ref p/\y= .int i/\SqT K H p xs/\atI xs i=some v/\Q v H
def aKl:R2:=λ x y H Q=>∃z i c,x= .str z/\y= .int i/\z.length<=sizeLine/\atI z.cps.toList i=some c/\Q (.str ⟨#[c]⟩) H
theorem yq:IxR X (aIx X.K):=by
 intro value slice pins s σ H x y v u Q I rx ry h hs;obtain⟨p,xs,i,z,rfl,rfl,hq,he,q⟩:=h;cases rx;obtain⟨t,rfl⟩:=ry;obtain⟨its,r,pl,hz⟩:=I.list hq;obtain⟨j,h1,h2,h3,h4,h5⟩:=zQ he;obtain⟨w,ew,rw'⟩:=r.get h2;have hl:=r.length;have hn:=qt;have fin:EP X pins σ Q w s:=⟨z,H,I,rw',q⟩;by_cases h0:0<=i
 ·have hj:i.toNat=j:=by
   rw[seqIndex_of h0 h5]at h1;exact Option.some.inj h1
  exact item_listR pl.isList h0 (by omega) (by rw[hj];simpa using ew) fin hs
 ·have hj:(i+(its.toArray.size:Int)).toNat=j:=by
   rw[seqIndex_neg (by omega) h4]at h1;rw[List.size_toArray,<-hl];exact Option.some.inj h1
  exact subscriptTail_builtinR (x:=w) pl.isList.typeIs slot_list_getitem.lookup
   (wpAny_getItem_list_neg (Q:=λ r s'=>r=w/\EP X pins σ Q r s') pl.isList (by omega) (by rw[List.size_toArray]<;>omega) (by omega) (by rw[hj];simpa using ew) ⟨rfl,fin⟩) hs
theorem aJu:IxR X (aKk X.K):=by
 intro value slice pins s σ H x y v u Q I rx ry h hs;obtain⟨p,xs,i,z,rfl,rfl,hq,he,q⟩:=h;cases rx;obtain⟨t,rfl⟩:=ry;obtain⟨its,r,pl,hz⟩:=I.tuple hq;obtain⟨j,h1,h2,h3,h4,h5⟩:=zQ he;obtain⟨w,ew,rw'⟩:=r.get h2;have hl:=r.length;have hn:=qt;have fin:EP X pins σ Q w s:=⟨z,H,I,rw',q⟩;exact subscriptTail_builtinR (x:=w) pl.typeIs slot_tuple_getitem.lookup
  (getItem_tuple (j:=j) (Q:=λ r s'=>r=w/\EP X pins σ Q r s') pl (by omega) (by omega) (by rw[List.size_toArray,<-hl];exact h1) (by simpa using ew) ⟨rfl,fin⟩) hs
theorem aJv:IxR X aKl:=by
 intro value slice pins s σ H x y v u Q I rx ry h hs;obtain⟨z,i,c,rfl,rfl,hz,he,q⟩:=h;obtain⟨t,rfl⟩:=rx;obtain⟨t',rfl⟩:=ry;obtain⟨j,h1,h2,h3,h4,h5⟩:=zQ he;have hl:z.cps.toList.length=z.length:=by simp[Str.length]
 rw[hl]at h1 h4 h5;have hn:=qt;exact tail_any (typeIs_str s z t) slot_str_getitem.lookup (getItem_str (c:=c) (by
  have e1:decide (i < -(2^63:Int))=false:=decide_eq_false (by omega);have e2:decide (i ≥ 2^63)=false:=decide_eq_false (by omega);rw[e1,e2,Bool.or_false]) (by rw[h1];simpa using h2) ⟨.str ⟨#[c]⟩,H,I.tok _,⟨_,rfl⟩,q⟩) hs
def rIx(K:PySem.W.Frag):R2:=λ x y H Q=>aIx K x y H Q\/aKk K x y H Q\/aKl x y H Q
theorem aJw:IxR X (rIx X.K):=yq.or (aJu.or aJv)
theorem aBl(its:List Value)(n j:Nat)(u:Value):Obj.mapSeq (·.setIfInBounds j u) {cls:=.type "list",data:=.seq its.toArray n}={cls:=.type "list",data:=.seq (its.set j u).toArray n}:=by
 simp[Obj.mapSeq]
theorem Inv.lst{pins:List (Addr×Obj)}{σ:St}{H:Hp}{s:Shared}{p:Addr}{xs:List V}(I:Inv X pins σ H s)(h:H p=some (.lst xs)):
  ∃(its:List Value) (n:Nat),Vals xs its/\s.heap.get? p=some {cls:=.type "list",data:=.seq its.toArray n}/\xs.length<=sizeLine:=by
 obtain⟨z,its,n,r,e⟩:=I.hok p _ h;exact⟨its,n,r,e,z⟩
theorem Inv.lstUpd{pins:List (Addr×Obj)}{σ:St}{H:Hp}{s:Shared}{p:Addr}{xs ys:List V}{its its':List Value}{n n':Nat}{f:Obj->Obj}(I:Inv X pins σ H s)(h:H p=some (.lst xs))
  (ho:s.heap.get? p=some {cls:=.type "list",data:=.seq its.toArray n})(hf:f {cls:=.type "list",data:=.seq its.toArray n}={cls:=.type "list",data:=.seq its'.toArray n'})(r:Vals ys its')(hz:ys.length<=sizeLine)(t:Nat):
  Inv X pins σ (upd H p (.lst ys)) {s with heap:=s.heap.update p f,toks:=t}:=by
 have e:(s.heap.update p f).get? p=some {cls:=.type "list",data:=.seq its'.toArray n'}:=by
  rw[Heap.get?_update_self f ho (by rw[hf]<;>rfl),hf]
 refine I.write (x:=p) (e:=p) (by rw[h];trivial) (.inl rfl) (λ b u hb q=>(Heap.get?_update_other _ _ (Ne.symm hb)).trans q) ⟨_,e⟩ ?_;exact⟨hz,its',n',r,e⟩
def aIK:V->V->V->Hp->(Hp->Prop)->Prop:=λ o i v H Q=>∃p xs k j,o= .ref p/\i= .int k/\H p=some (.lst xs)/\ixN xs.length k=some j/\Q (upd H p (.lst (xs.set j v)))
theorem set_list:aLV X aIK:=by
 intro pins s σ H o i v ov iv u Q I ro ri rv h;obtain⟨p,xs,k,j,rfl,rfl,hp,hj,q⟩:=h;cases ro;obtain⟨t,rfl⟩:=ri;obtain⟨its,n,r,ho,hz⟩:=I.lst hp;obtain⟨h1,h2,h3,h4⟩:=aCs hj;have hl:=r.length;have hn:=qt;have I':Inv X pins σ (upd H p (.lst (xs.set j v))) {s with heap:=s.heap.update p (Obj.mapSeq (·.setIfInBounds j u))}:=
  I.lstUpd hp ho (aBl its n j u) (r.set rv j) (by rw[List.length_set];exact hz) s.toks
 by_cases h0:0<=k
 ·have hk:k.toNat=j:=by
   rw[seqIndex_of h0 h4]at h1;exact Option.some.inj h1
  exact PySem.W.ki_setAt ho h0 (by omega) (by rw[List.size_toArray,<-hl];exact h4) (by rw[hk];exact⟨_,I',q⟩)
 ·have hk:(k+(its.toArray.size:Int)).toNat=j:=by
   rw[seqIndex_neg (by omega) h3]at h1;rw[List.size_toArray,<-hl];exact Option.some.inj h1
  exact PySem.W.ki_setBack ho (by omega) (by rw[List.size_toArray,<-hl];exact h3) (by omega) (by rw[hk];exact⟨_,I',q⟩)
theorem zL:cO X (.builtin "len") (λ xs H Q=>∃p ys,xs=[.ref p]/\(SqL X.K H p ys\/SqT X.K H p ys)/\Q (.int ys.length) H):=by
 intro pins s σ H xs us Q I r h;obtain⟨p,ys,rfl,hq,q⟩:=h;obtain⟨u,rfl,rx⟩:=vals1 r;cases rx;have hn:=qt;rcases hq with hq|hq
 ·obtain⟨its,r',pl,hz⟩:=I.list hq
  have hlen:=r'.length;exact Calls.call_len_list pl.isList (by simp only[List.size_toArray]<;>omega) ⟨.int ys.length,H,I.tok _,⟨s.toks+1,by rw[List.size_toArray,hlen]⟩,q⟩
 ·obtain⟨its,r',pl,hz⟩:=I.tuple hq
  have hlen:=r'.length;exact len_tuple pl (by simp only[List.size_toArray]<;>omega) ⟨.int ys.length,H,I.tok _,⟨s.toks+1,by rw[List.size_toArray,hlen]⟩,q⟩
theorem cO.or{f:Value}{r r':List V->Hp->VK->Prop}(h:cO X f r)(h':cO X f r'):cO X f (λ xs H Q=>r xs H Q\/r' xs H Q):=by
 intro pins s σ H xs us Q I rs q;rcases q with q|q
 ·exact h pins s σ H xs us Q I rs q
 ·exact h' pins s σ H xs us Q I rs q
theorem wA:cO X (.type "tuple") (λ xs H Q=>∃p ys,xs=[.ref p]/\((SqL X.K H p ys/\∀l,H l=none->Q (.ref l) (upd H l (.tup ys)))\/(SqT X.K H p ys/\Q (.ref p) H))):=by
 intro pins s σ H xs us Q I r h;obtain⟨p,ys,rfl,h⟩:=h;obtain⟨u,rfl,rx⟩:=vals1 r;cases rx;rcases h with ⟨hq,q⟩|⟨hq,q⟩
 ·obtain⟨its,r',pl,hz⟩:=I.list hq
  have hlen:=r'.length;refine call_tuple_list pl.isList (λ h' kp=>?_) (by simp only[List.size_toArray]<;>omega);have I1:Inv X pins σ H {s with heap:=h'}:=I.kept (t':=s.toks) kp;have I2:Inv X pins σ (upd H h'.objs.size (.tup ys)) {s with heap:=h'.push {cls:=.type "tuple",data:=.seq its.toArray}}:=
   I1.laid (t':=s.toks) (λ b o e=>Heap.get?_push_of_some _ e) (Nat.le_refl _) (show bw X.prog X.w _ _ _ (.tup ys)from⟨hz,its,r',IsTup.new _ _⟩)
  exact⟨.ref h'.objs.size,_,I2,rfl,q _ (I1.hok.fresh (Nat.le_refl _))⟩
 ·obtain⟨its,r',pl,hz⟩:=I.tuple hq
  exact call_tuple_same pl ⟨.ref p,H,I,rfl,q⟩
def tyV(K:PySem.W.Frag)(T:String)(x:V)(H:Hp):Prop:=match x with
 | .str _=>T="str"
 | .int _=>T="int"
 | .ref p=>(T="list"/\∃xs,SqL K H p xs)\/(T="tuple"/\∃o,K.lookup p=some o/\o.cls= .type "tuple"/\o.dict=none)\/
   (T="dict"/\((∃kvs,H p=some (.dK kvs))\/∃kvs,H p=some (.dT kvs)))\/(T="set"/\∃S n,H p=some (.set S n))
 |_=>False
theorem aIa{pins:List (Addr×Obj)}{σ:St}{H:Hp}{s:Shared}{T:String}{x:V}{v:Value}(I:Inv X pins σ H s)(r:RelV x v)(ty:tyV X.K T x H):
  s.TypeIs v T/\∀a,v= .ref a->∃ob,s.heap.get? a=some ob/\ob.dict=none:=by
 cases x with
 |str z=>
  obtain⟨t,rfl⟩:=r;cases (show T="str" from ty);exact⟨typeIs_str s z t,λ _ e=>nomatch e⟩
 |int i=>
  obtain⟨t,rfl⟩:=r;cases (show T="int" from ty);exact⟨typeIs_int s i t,λ _ e=>nomatch e⟩
 |ref p=>
  cases r;rcases ty with ⟨rfl,xs,hq⟩|⟨rfl,o,hk,hc,hd⟩|⟨rfl,hk⟩|⟨rfl,S,n,hk⟩
  ·obtain⟨its,_,pl,_⟩:=I.list hq
   refine⟨pl.isList.typeIs,λ a e=>?_⟩;cases e;obtain⟨o,n,e,c,hd,_⟩:=pl;exact⟨o,e,hd⟩
  ·refine⟨⟨o,I.kIn p o hk,hc⟩,λ a e=>?_⟩
   cases e;exact⟨o,I.kIn _ o hk,hd⟩
  ·have z:∃o,s.heap.get? p=some o/\o.ExactDict:=by
    rcases hk with ⟨kvs,hk⟩|⟨kvs,hk⟩
    ·obtain⟨_,_,_,_,o,_,_,e,ex,_⟩:=I.hok p _ hk
     exact⟨o,e,ex⟩
    ·obtain⟨_,_,_,_,o,_,_,e,ex,_⟩:=I.hok p _ hk
     exact⟨o,e,ex⟩
   obtain⟨o,e,ex⟩:=z;refine⟨⟨o,e,ex.1⟩,λ a e2=>?_⟩;cases e2;exact⟨o,e,ex.2.1⟩
  ·obtain⟨o,_,_,_,e,ex,_⟩:=I.hok p _ hk
   refine⟨⟨o,e,ex.1⟩,λ a e2=>?_⟩;cases e2;exact⟨o,e,ex.2.1⟩
 |_=>exact False.elim ty
def tBM(K:PySem.W.Frag)(T:String)(r:V->List V->Hp->VK->Prop)(to:TE)(t:TA):TE:=λ σ H Q=>to σ H λ x H1=>tyV K T x H1/\t σ H1 λ xs H2=>r x xs H2 Q
variable{o e:Expr}{es:List Expr}{to:TE}{t:TA}{name:Str}{apos cpos:Pos}{T id:String}{r:V->List V->Hp->VK->Prop}
theorem wW(pa:PlainAttrs T)(slot:Slot T name id)(hty:typeOf (.builtin id)=pure (.type "method_descriptor"))(hm:MtR X id r)(ho:PE X o to)(ha:PA X (e::es) t)
  (hbase:attributeBase o name X.env (eval o X.env)=eval o X.env:=by rfl)
  (hfew:((backTo cpos (starEach (e::es) X.env)).all (λ x=>!x.1)&&(backToKw cpos (keywordEach [] X.env)).all (λ x=>x.1.isSome)
   &&decide ((e::es).length+([]:List Keyword).length+(if ([]:List Keyword).isEmpty then 0 else 1)<30))=true:=by rfl)
  (hline:(apos.endLine==cpos.line)=true:=by rfl)(hs:starEach (e::es) X.env=(false,eval e X.env)::starEach es X.env:=by rfl)(hplain:(backTo cpos (starEach es X.env)).any (·.1)=false:=by rfl):
  PE X (.Call (.Attribute o name apos) (e::es) [] cpos) (tBM X.K T r to t):=by
 intro pins s σ H Q I h;refine wpAny_Call_method_late hbase hfew hline rfl (thn (ho pins s σ H _ I h) λ v s1 ⟨x,H1,I1,r1,ty,q1⟩=>?_);obtain⟨h1,h2⟩:=aIa I1 r1 ty;refine⟨T,id,pa,slot,hty,h1,h2,?_⟩;have hA:=ha cpos pins s1 σ H1 _ I1 q1;rw[hs]at hA ⊢;refine Calls.callWith_builtin (by show(false||(backTo cpos (starEach es X.env)).any (·.1))=false;rw[hplain]<;>rfl) (Calls.evalArgs_plain ?_);exact thn hA λ us s2 ⟨vs,H2,I2,r2,q2⟩=>hm pins s2 σ H2 x vs v us Q I2 r1 r2 q2
end
def MtM(X:Cx)(id:String)(r:V->List V->Hp->VK->Prop):Prop:=
 ∀(pins:List (Addr×Obj)) (s:Shared) (σ:St) (H:Hp) (x:V) (xs:List V) (v:Value) (us:List Value) (Q:VK),Inv X pins σ H s->RelV x v->Vals xs us->r x xs H Q->
  wpAny (model X.prog X.w) X.A (call (.builtin id) (v::us)) (EP X pins σ Q) X.xe s
theorem Vals.one:∀{x:V} {us:List Value},Vals [x] us->∃u,us=[u]/\RelV x u
 |_,_,.cons r .nil=>⟨_,rfl,r⟩
theorem Vals.rep{xs:List V}{us:List Value}(h:Vals xs us):∀k:Nat,Vals (List.replicate k xs).flatten (List.replicate k us).flatten
 |0=>.nil
 |k+1=>by
  rw[List.replicate_succ,List.replicate_succ,List.flatten_cons,List.flatten_cons];exact Vals.append h (Vals.rep h k)
theorem foldl_rep(its:List Value):∀(k:Nat) (acc:List Value),
  List.foldl (λ x1 x2=>x1++x2) acc.toArray (List.replicate k its.toArray)=(acc++(List.replicate k its).flatten).toArray
 |0,acc=>by simp
 |k+1,acc=>by
  have e:acc.toArray++its.toArray=(acc++its).toArray:=by simp
  have e2:(acc++its)++(List.replicate k its).flatten=acc++(List.replicate (k+1) its).flatten:=by
   rw[List.replicate_succ,List.flatten_cons,List.append_assoc]
  rw[<-e2,<-foldl_rep its k (acc++its),<-e,List.replicate_succ,List.foldl_cons]
section
variable{X:Cx}{pins:List (Addr×Obj)}{σ:St}{H:Hp}{s:Shared}{l b:Addr}{xs ys zs:List V}
theorem Inv.lset{its its':List Value}{n:Nat}{f:Array Value->Array Value}{t':Nat}(I:Inv X pins σ H s)(hH:H l=some (.lst xs))
  (e:s.heap.get? l=some {cls:=.type "list",data:=.seq its.toArray n})(hf:f its.toArray=its'.toArray)(hv:Vals ys its')(hz:ys.length<=sizeLine):
  Inv X pins σ (upd H l (.lst ys)) {s with heap:=s.heap.update l (Obj.mapSeq f),toks:=t'}:=by
 have q:=PySem.IsL.update e f;rw[hf]at q;refine I.write (x:=l) (e:=l) (by rw[hH];exact trivial) (.inl rfl) (λ b' u hb hu=>(Heap.get?_update_other s.heap (Obj.mapSeq f) (Ne.symm hb)).trans hu) ⟨_,q⟩ ?_;exact⟨hz,its',_,hv,q⟩
theorem Inv.lnew{its:List Value}{t':Nat}(I:Inv X pins σ H s)(hv:Vals ys its)(hz:ys.length<=sizeLine):
  Inv X pins σ (upd H s.heap.objs.size (.lst ys)) {s with heap:=s.heap.push {cls:=.type "list",data:=.seq its.toArray},toks:=t'}:=
 I.laid (λ _ _ q=>Heap.get?_push_of_some _ q) (Nat.le_refl _) ⟨hz,its,0,hv,Heap.get?_push_size _ rfl⟩
theorem Inv.fresh(I:Inv X pins σ H s):H s.heap.objs.size=none:=I.hok.fresh (Nat.le_refl _)
theorem Inv.lstM(I:Inv X pins σ H s)(hH:H l=some (.lst xs)):xs.length<=sizeLine/\∃(its:List Value) (n:Nat),Vals xs its/\xs.length=its.length/\s.heap.get? l=some {cls:=.type "list",data:=.seq its.toArray n}:=by
 obtain⟨z,its,n,r,e⟩:=I.hok l _ hH;exact⟨z,its,n,r,r.length,e⟩
theorem aFH{n:Nat}(h:n<=sizeLine):Builtin.List.listTooLong n=false:=by
 unfold Builtin.List.listTooLong;exact decide_eq_false (by omega)
end
section
variable{X:Cx}
def aGk:V->List V->Hp->VK->Prop:=λ x vs H Q=>∃l xs y,x= .ref l/\vs=[y]/\H l=some (.lst xs)/\xs.length<sizeLine/\Q .non (upd H l (.lst (xs++[y])))
theorem wZ:MtM X "list.append" aGk:=by
 intro pins s σ H x vs v us Q I rx rv h;obtain⟨l,xs,y,rfl,rfl,hH,hz,q⟩:=h;cases rx;obtain⟨u,rfl,ru⟩:=rv.one;obtain⟨z,its,n,r,hl,e⟩:=I.lstM hH;refine call_meets F.slot_list_append ⟨_,e,rfl⟩ F.entry_list_append (F.args_list_append_2 _ _) (PySem.list_append l its.toArray n u (by rw[List.size_toArray];omega)) ⟨e,?_⟩;refine⟨.non,_,I.lset (its':=its++[u]) hH e (by simp) (r.append (.cons ru .nil)) ?_,rfl,q⟩;rw[List.length_append,List.length_singleton];omega
def aLe:R2:=λ x y H Q=>∃l b xs zs,x= .ref l/\y= .ref b/\H l=some (.lst xs)/\H b=some (.lst zs)/\xs.length+zs.length<=sizeLine/\∀p,H p=none->Q (.ref p) (upd H p (.lst (xs++zs)))
theorem aJd:OpR X (binaryOp .Add) aLe:=by
 intro pins s σ H x y v u Q I rx ry h;obtain⟨l,b,xs,zs,rfl,rfl,hH,hB,hz,q⟩:=h;cases rx;cases ry;obtain⟨z,its,n,r,hl,e⟩:=I.lstM hH;obtain⟨z2,its2,n2,r2,hl2,e2⟩:=I.lstM hB;refine PySem.P.add_list e e2 ?_ (by rw[List.size_toArray,List.size_toArray];omega);have ea:its.toArray++its2.toArray=(its++its2).toArray:=by simp
 rw[ea];exact⟨.ref _,_,I.lnew (t':=s.toks) (r.append r2) (by rw[List.length_append];omega),rfl,q _ I.fresh⟩
def aKj:R2:=λ x y H Q=>∃l k xs,x= .ref l/\y= .int k/\H l=some (.lst xs)/\-(2^63)<=k/\k<2^63/\xs.length*k.toNat<=sizeLine/\
 ∀p,H p=none->Q (.ref p) (upd H p (.lst (List.replicate k.toNat xs).flatten))
theorem len_rep{α:Type}(xs:List α)(k:Nat):(List.replicate k xs).flatten.length=k*xs.length:=by
 induction k with
 |zero=>simp
 |succ k ih=>rw[List.replicate_succ,List.flatten_cons,List.length_append,ih,Nat.succ_mul,Nat.add_comm]
theorem aJ1:OpR X (binaryOp .Mult) aKj:=by
 intro pins s σ H x y v u Q I rx ry h;obtain⟨l,k,xs,rfl,rfl,hH,h1,h2,hz,q⟩:=h;cases rx;obtain⟨t,rfl⟩:=ry;obtain⟨z,its,n,r,hl,e⟩:=I.lstM hH;have hlen:its.toArray.size*k.toNat<=sizeLine:=by rw[List.size_toArray,<-hl];exact hz
 have hcap:¬its.toArray.size*k.toNat>(2^63-1) / 8:=by
  have:(sizeLine:Nat)<=(2^63-1) / 8:=by decide
  omega
 have hfit:¬(!Builtin.List.listFitsIndex k)=true:=by
  rw[fitsIndex_both h1 h2];exact Bool.false_ne_true
 have hlong:¬Builtin.List.listTooLong (its.toArray.size*k.toNat)=true:=by
  rw[aFH hlen];exact Bool.false_ne_true
 have hnew:List.foldl (λ x1 x2=>x1++x2) #[] (List.replicate (if its.toArray.isEmpty=true then 0 else k.toNat) its.toArray)=(List.replicate k.toNat its).flatten.toArray:=by
  have f0:∀m:Nat,List.foldl (λ x1 x2=>x1++x2) #[] (List.replicate m its.toArray)=(List.replicate m its).flatten.toArray:=λ m=>by
   have:=foldl_rep its m []
   rw[List.nil_append]at this;exact this
  rw[f0];cases its with
  |nil=>simp
  |cons a r'=>rw[if_neg (by simp)]
 refine wpAny_binaryOp_repeat_ref (T:="list") (U:="int") (by decide) ⟨_,e,rfl⟩ (λ s'=>typeIs_int s' k t) noFill_list_mul F.fills_int_mul F.slot_int_rmul repeat_list F.slot_int_index.lookup
  (call_meets F.slot_int_rmul (typeIs_int s k t) F.entry_int_rmul (F.args_int_rmul_2 _ _) (int___rmul___int_list k t l its.toArray n)
   ⟨e,rfl,⟨_,e,rfl⟩,call_meets F.slot_list_mul ⟨_,e,rfl⟩ F.entry_list_mul (F.args_list_mul_2 _ _) (AutoListH.list___mul___list_int_3 l its.toArray n k t hfit hcap hlong) ⟨e,?_⟩⟩)
 rw[hnew];exact⟨.ref _,_,I.lnew (t':=s.toks) (r.rep k.toNat) (by rw[len_rep,Nat.mul_comm];exact hz),rfl,q _ I.fresh⟩
end
section
variable{prog:Program}{w:World}{A:Around}{E:Value->Shared->Prop}{s:Shared}
end
section
variable{X:Cx}
end
end L2
namespace Att
open PySem PySem.W PySem.Calls PyProof.Rows
theorem sY{P:Params}{h:Heap}:∀(ns:List Int) (vs:List Value),WellAll P h vs (ns.map WData.int)->IntsAre vs ns:=by
 intro ns;induction ns with
 |nil=>
  intro vs w;rw[List.map_nil]at w;cases w;exact .nil
 |cons n ns ih=>
  intro vs w;rw[List.map_cons]at w;cases w with
  |cons a b=>
   cases a;exact .cons _ _ (ih _ b)
theorem aDP{l:OpenLaw}{n:Nat}(hn:l.most=some n){P:Params}{h:Heap}{args:List WData}{vals:List Value}
  (hpre:l.row.toRowW.claim.pre args=true)(hwl:WellAll P h vals args):
  ∃a vs ns,vals=[Value.ref a]/\args=[WData.list (ns.map WData.int)]/\h.get? a=some {cls:=.type "list",data:=.seq vs.toArray}/\IntsAre vs ns/\ns.length<=n:=by
 have hsh:WShape.hasAll [] args [.list .int]=true:=(pre_splitW hpre).1;have hc:l.pre.holds [] {args:=args}=true:=(pre_splitW hpre).2;obtain⟨d,r,rfl,h1,h2⟩:=hasAllW_cons hsh;obtain rfl:=hasAllW_nil h2;obtain⟨xs,rfl,h3⟩:=hasW_list h1;obtain⟨ns,rfl⟩:=items_int h3;have hlen:ns.length<=n:=by
  unfold OpenLaw.pre at hc;have h4:(WTm.not (.lt (.lit (.int (n:Int))) (.len (.arg 0)))).holds [] {args:=[.list (ns.map .int)]}=true:=by
   have h4:=(holds_andW hc).1;rw[hn]at h4;exact h4
  have h5:=condW_of h4 (w_not (w_lt w_lit (w_len_list (w_arg rfl))));rw[List.length_map]at h5;refine Nat.le_of_not_lt λ q=>?_
  have q':(n:Int)<((ns.length:Nat):Int):=by omega
  first
   |(rw[decide_eq_true q']at h5;exact absurd h5 (by decide))
   |(simp at h5;omega)
 cases hwl with
 |cons w1 w2=>
  cases w2;cases w1 with
  |list ho hall=>exact⟨_,_,ns,rfl,rfl,ho,sY ns _ hall,hlen⟩
theorem aDU(l:OpenLaw)(args:List WData):l.row.toRowW.claim.post args (.bool true) args=true:=
 postW_of (r:=l.row.toRowW) (X:=(true==true))
  (show WShape.has [] (.bool true) .bool=true by first|rfl|decide|simp[WShape.has,WShape.arms,WShape.armsAll])
  (show(WTm.eq .res (.lit (.bool true))).value [] {args:=args,res:=some (.bool true),after:=args}=some (.bool (true==true))from w_eq_bool (w_res rfl) w_lit) rfl
theorem aAq{l:OpenLaw}{n:Nat}{q:Program}{loose:List Str}{XP:(Str->Option Value)->Heap->Prop}{YP:World->Heap->Prop}{d:DefRec}
  (hn:l.most=some n)(hdf:d.params.defaults=[])
  (call:∀(w:World) (s₀ s₁:Shared) (mg mb:Str->Option Value) (fa:Addr) (o:Obj) (pm cd doc:Value) (a:Addr) (vs:List Value) (ns:List Int),
   Ground q loose [] XP w s₀ mg mb s₁.heap->YP w s₁.heap->
   s₁.heap.get? fa=some o->o.data= .func (docDef d.name d.params d.body d.scope pm cd doc)->s₁.heap.CodeRec cd d.name->mg d.name=some (.ref fa)->
   s₁.heap.get? a=some {cls:=.type "list",data:=.seq vs.toArray}->IntsAre vs ns->ns.length<=n->s₁.gens=#[]->
   codeAny (model l.prog w) callerA (.call (.ref fa) ⟨[.ref a],[]⟩) (λ r s'=>r= .ok (.ret (.bool true))/\OldK s₁.heap s'.heap/\s'.os=s₁.os/\AllBare s'.gens) s₁):
  WalkO q loose XP YP l.row.toRowW d [] (λ f vs=>PySem.call f vs):=by
 intro w s₀ s₁ mg mb G Y fa o pm cd doc dV kV ho hd hcd hD hmg hg args vals as hpre hlay hrd hwl hlo;obtain rfl:dV= .none:=Dflts.none hD hdf;obtain rfl:kV= .none:=Dflts.noKw hD;obtain⟨a,vs,ns,rfl,rfl,hobj,hints,hlen⟩:=aDP hn hpre hwl;refine enter_call (codeAny_mono (call w s₀ s₁ mg mb fa o pm cd doc a vs ns G Y ho (fd_plain hd) hcd hmg hobj hints hlen hg) λ r s' hq=>?_);obtain⟨rfl,h2,h3,h4⟩:=hq;exact⟨.inl ⟨.bool true,.bool true,[],rfl,λ _=>rfl,.bool true,aDU l _,λ _=>⟨List.Pairwise.nil,λ _ hm=>(nomatch hm)⟩⟩,h2,h3,h4⟩
section
variable{prog:Program}{w:World}{A:Around}{E:Value->Shared->Prop}{s:Shared}{K:Frag}
theorem make_obj{R:Result->Shared->Prop}{C fI:Addr}{rest:List Value}{kw:List (Str×Value)}
  (X:K.In s.heap)(hm:makesIn K C=true)(hi:findIn K (.ref C) "__init__"=some (some (.ref fI)))(hf:isFn K (.ref fI)=true)
  (h:codeAny (model prog w) (A.under (.builtin "type.__call__" ⟨.ref C::rest,kw⟩)) (.call (.ref fI) ⟨.ref (s.heap.objs.size+1)::rest,kw⟩) (InitBack (s.heap.objs.size+1) R)
   {s with heap:=(s.heap.push emptyDict).push (instObj C s.heap.objs.size)}):codeAny (model prog w) A (.call (.ref C) ⟨rest,kw⟩) R s:=by
 obtain⟨hh,g,d,t,os⟩:=s;exact make_core (makes_of X hm) (looks_findIn X hi) (λ self=>bind_fn X self (beq_iff_eq.mp hf)) (.inl rfl) h
theorem get_field{x C:Addr}{ox:Obj}{es:List DictEntry}{n:Nat}{name:Str}{expr:Bool}{v:Value}{Q:Value->Shared->Prop}
  (X:K.In s.heap)(I:PySem.W.InstAt s.heap x ox C (some (dictOf es n)))(hg:plainGet K C name=true)(hh:hasDictIn K C=true)(ha:findIn K (.ref C) name=some none)
  (hl:getL name es=some (some v))(hv:handedIn v=true)(h:Q v {s with toks:=s.toks+1}):wpAny (model prog w) A (getAttr (.ref x) name expr) Q E s:=
 get_value X I (plainGet_of hg).1 (findObj_own hh ha rfl hl) hv h
def ledger(h:Heap)(L d:Addr):List (Addr×Obj):=(List.range h.objs.size).filterMap λ a=>if a=L\/a=d then none else(h.get? a).map λ o=>(a,o)
end
end Att
namespace L2
open PySem PySem.Spec PyProof.Rows
theorem wG:∀{vs:List Value} {ns:List Int},IntsAre vs ns->Vals (ns.map V.int) vs
 |_,_,.nil=>.nil
 |_,_,.cons n t h=>.cons ⟨t,rfl⟩ (wG h)
def Only(H:Hp):Prop:=∀b,H b=none\/∃o xs,H b=some (.frz o (.lst xs))
def nA(s:Stmt):Arguments:=match s with
 | .FunctionDef _ a _ _ _ _ _ _ _ _=>a
 |_=>{posonlyargs:=[],args:=[],vararg:=none,kwonlyargs:=[],kw_defaults:=[],kwarg:=none,defaults:=[]}
def cj(s:Stmt):List Stmt:=match s with
 | .FunctionDef _ _ b _ _ _ _ _ _ _=>b
 |_=>[]
def aF(s:Stmt):Scope:=match s with
 | .FunctionDef _ _ _ _ _ _ sc _ _ _=>sc
 |_=>{kind:=.function,names:=[],isGenerator:=false,isCoroutine:=false}
abbrev CX0:CXT:=λ _ _ _ _ _ _=>False
abbrev E0:XK:=λ _ _ _=>False
structure Fun(K:PySem.W.Frag)(x qual:Str)(st:Stmt)(f:Addr)(fd:FuncData):Prop where
 ex:∃(oc:Value) (od:Option Addr) (kV doc pm:Value) (an:Option Addr) (cdv ct:Value) (osl:Array (Option Value)),
  fd=PySem.W.fnOf x qual (nA st) (cj st) (aF st) .none kV doc pm an cdv ct/\K.lookup f=some ⟨oc,od,.func fd,osl⟩/\PySem.W.codeIn K cdv qual=true
 kp:PySem.W.keepIn K (.ref f)=true
section
variable{P:Program}{w:World}{K:PySem.W.Frag}{mg:Str->Option Value}{base:Heap}
theorem Fun.binds{x qual:Str}{st:Stmt}{f:Addr}{fd:FuncData}{ps:List Str}(F:Fun K x qual st f fd)
  (h:∀(kV doc pm:Value) (an:Option Addr) (cdv ct:Value) (us:List Value),us.length=ps.length->bindArgs (PySem.W.fnOf x qual (nA st) (cj st) (aF st) .none kV doc pm an cdv ct) ⟨us,[]⟩=pure (ps.zip us)):Binds K fd ps []:=by
 obtain⟨oc,od,kV,doc,pm,an,cdv,ct,osl,rfl,lk,hcd⟩:=F.ex;exact .all (h kV doc pm an cdv ct)
theorem aKF{x qual:Str}{st:Stmt}{f:Addr}{oc:Value}{od an:Option Addr}{osl:Array (Option Value)}{kV doc pm cdv ct:Value}(l:K.lookup f=some ⟨oc,od,.func (PySem.W.fnOf x qual (nA st) (cj st) (aF st) .none kV doc pm an cdv ct),osl⟩)
  (c:PySem.W.codeIn K cdv qual=true)(k:PySem.W.keepIn K (.ref f)=true):Fun K x qual st f (PySem.W.fnOf x qual (nA st) (cj st) (aF st) .none kV doc pm an cdv ct):=⟨⟨oc,od,kV,doc,pm,an,cdv,ct,osl,rfl,l,c⟩,k⟩
end
section
variable{X:Cx}
end
def aU(H H':Hp):Prop:=∀b o,H b=some o->H' b=some o
theorem aU.refl(H:Hp):aU H H:=λ _ _ h=>h
theorem aU.trans{H H1 H2:Hp}(a:aU H H1)(b:aU H1 H2):aU H H2:=λ c o h=>b c o (a c o h)
theorem aU.free{H H':Hp}(e:aU H H'){l:Addr}(h:H' l=Option.none):H l=Option.none:=by
 cases q:H l with
 |none=>rfl
 |some o=>
  rw[e l o q]at h;cases h
end L2
set_option maxHeartbeats 4000000
namespace HT
open PySem PyProof.Rows
def lexLe:List Int->List Int->Bool
 |[],_=>true
 |_::_,[]=>false
 |x::xs,y::ys=>if x=y then lexLe xs ys else decide (x<=y)
theorem aBs(x y:Int)(xs ys:List Int):lexLe (x::xs) (y::ys)=if x=y then lexLe xs ys else decide (x<=y):=rfl
theorem aE9(A:Around)(s:Shared)(a:Int)(t:Tok)(c:Int)(u:Tok)(prog:Program)(w:World)(E:Value->Shared->Prop)(Q:Value->Shared->Prop)(h:Q (.bool (decide (a<=c))) s):
  wpAny (model prog w) A (richCompare .LtE (.int a t) (.int c u)) Q E s:=
 (PyProof.Rows.le_int h:wpAny (model prog w) A (compareOp .LtE (.int a t) (.int c u)) Q E s)
section
open PySem.SeqAt
open PySem.AutoSeq1(wpAny_loadPart')
open PySem.MeetsSeq PySem.MeetsSeq2 PySem.MeetsSeq3
theorem v6(l b:Addr)(items items2:Array Value)(n n2:Nat)(dd dd2:Option Addr)(sl sl2:Array (Option Value))(ns ms:List Int)(hi:IntsAre items.toList ns)(hj:IntsAre items2.toList ms):
  Meets (Builtin.«tuple.__le__» ⟨[.ref l,.ref b],[]⟩)
   (λ _ R s=>s.heap.get? l=some {cls:=.type "tuple",dict:=dd,data:=.seq items n,slots:=sl}/\s.heap.get? b=some {cls:=.type "tuple",dict:=dd2,data:=.seq items2 n2,slots:=sl2}/\
    R (.ok (.ret (.bool (lexLe ns ms)))) s):=
 .of_wp λ prog w A R s h=>by
  obtain⟨hp,g,d,tk,os⟩:=s;obtain⟨hl,hb,h⟩:=h;have f2:=AutoSeq1.sub_tuple_tuple;have z1:items.size=ns.length:=by rw[<-hi.length];simp
  have z2:items2.size=ms.length:=by rw[<-hj.length];simp
  wp_walk using wpAny_loadPart' hl,wpAny_loadPart' hb,wpAny_forIn_list _ (λ rest b s'=>b.1=none/\s'=⟨hp,g,d,tk,os⟩/\∃(vs ws:List Value) (ns' ms':List Int),rest=vs.zip ws/\
   IntsAre vs ns'/\IntsAre ws ms'/\ns'.length+items2.size=ms'.length+items.size/\R (.ok (.ret (.bool (lexLe ns' ms')))) ⟨hp,g,d,tk,os⟩) _
  case turn=>
   rintro⟨y,x⟩ rest b s' ⟨hb',rfl,vs,ws,ns',ms',hz,hvi,hwi,hlen,hR⟩;cases hvi with
   |nil=>rw[List.zip_nil_left]at hz;cases hz
   |cons a t hvi'=>
    cases hwi with
    |nil=>rw[List.zip_nil_right]at hz;cases hz
    |cons c u hwi'=>
     rw[List.zip_cons_cons]at hz;injection hz with hyx hrest
     injection hyx with hy hx
     subst hy hx;rw[aBs]at hR;simp only[List.length_cons]at hlen;obtain⟨e,he,hiff⟩:=aAf A.in1 ⟨hp,g,d,tk,os⟩ a t c u;refine wpAny_bind (he prog w _ _ ?_);cases e with
     |true=>
      rw[if_pos (hiff.mp rfl)]at hR;wp_walk;exact⟨rfl,rfl,_,_,_,_,hrest,hvi',hwi',by lia,hR⟩
     |false=>
      rw[if_neg (λ q=>absurd (hiff.mpr q) Bool.false_ne_true)]at hR;have hri:=aE9 A.in1 ⟨hp,g,d,tk,os⟩ a t c u prog w;wp_walk using hri;exact⟨_,rfl,by simpa using hR⟩
  case fin=>
   rintro⟨b1,b2⟩ s' ⟨hb',rfl,vs,ws,ns',ms',hz,hvi,hwi,hlen,hR⟩;simp only at hb';subst hb';have hv:lexLe ns' ms'=decide (items.size<=items2.size):=by
    cases hvi with
    |nil=>
     simp only[List.length_nil]at hlen;have e:lexLe [] ms'=true:=by cases ms'<;>rfl
     rw[e];exact(decide_eq_true (by lia)).symm
    |cons a t hv=>
     cases hwi with
     |nil=>
      simp only[List.length_nil,List.length_cons]at hlen;show false=_;exact(decide_eq_false (by lia)).symm
     |cons c u hw=>
      rw[List.zip_cons_cons]at hz;cases hz
   rw[hv]at hR;wp_walk;exact⟨_,rfl,by simpa[Builtin.Tuple.tupleCompareSizes]using hR⟩
  case h=>
   exact⟨rfl,rfl,items.toList,items2.toList,ns,ms,rfl,hi,hj,by lia,h⟩
end
section
variable{prog:Program}{w:World}{A:Around}{E:Value->Shared->Prop}{s:Shared}
theorem aBt(hl:IsTup s.heap l items)(hb:IsTup s.heap b items2)(hi:IntsAre items.toList ns)(hj:IntsAre items2.toList ms)
  (hu:A.units<cLine)(h:Q (.bool (lexLe ns ms)) s):wpAny (model prog w) A (compareOp .LtE (.ref l) (.ref b)) Q E s:=by
 obtain⟨⟨cls,dd,data,sl⟩,ho,hc,n,hd⟩:=id hl;obtain⟨⟨cls2,dd2,data2,sl2⟩,ho2,hc2,n2,hd2⟩:=id hb;simp only at hc hd hc2 hd2;subst hc hd hc2 hd2;exact richCompare_meets_room (op:=.LtE) ⟨_,ho,rfl⟩ ⟨_,ho2,rfl⟩ PySem.F.slot_tuple_le PySem.F.entry_tuple_le (PySem.F.args_tuple_le_2 _ _) (v6 l b items items2 n n2 dd dd2 sl sl2 ns ms hi hj)
  ⟨ho,ho2,show Value.bool (lexLe ns ms)≠Value.notImplemented/\Q (.bool (lexLe ns ms)) s from⟨(λ x=>nomatch x),h⟩⟩ hu
theorem aGF{ws:List Value}(ht:IsTup s.heap t #[])(hb:IsTup s.heap b ws.toArray)(h1:Q (.ref b) s):wpAny (model prog w) A (binaryOp .Add (.ref t) (.ref b)) Q E s:=by
 obtain⟨⟨cls,dd,data,sl⟩,ho,hc,n,hd⟩:=id ht;obtain⟨⟨cls2,dd2,data2,sl2⟩,ho2,hc2,n2,hd2⟩:=id hb;simp only at hc hd hc2 hd2;subst hc hd hc2 hd2;exact concat_meets ⟨_,ho,rfl⟩ ⟨_,ho2,rfl⟩ noFill_tuple_add seq_tuple_add PySem.F.slot_tuple_add PySem.F.entry_tuple_add (PySem.F.args_tuple_add_2 _ _)
   (tuple_addW0 t b #[] ws.toArray n n2 dd dd2 sl sl2 (by simp)) ⟨ho,ho2,h1⟩
end
end HT
namespace L2
open PySem PySem.Spec PyProof.Rows
def aHZ(t T:String):Bool:=decide (t=T)||(decide (t="bool")&&decide (T="int"))
theorem aHW{K:PySem.W.Frag}(ht:t∈["NoneType","bool","int","str","list","tuple","dict"])(hT:T∈["bool","int","str","list","tuple","dict"]):
  PySem.W.kitOne K (.type t) (.type T)=some (aHZ t T):=by
 simp only[List.mem_cons,List.not_mem_nil,or_false]at ht hT;rcases ht with rfl|rfl|rfl|rfl|rfl|rfl|rfl<;>rcases hT with rfl|rfl|rfl|rfl|rfl|rfl<;>kernel_rfl
def nZ(t T:String)(b:Bool):Bool:=decide (t∈["NoneType","bool","int","str","list","tuple","dict"])&&decide (T∈["bool","int","str","list","tuple","dict"])&&(aHZ t T==b)
theorem aBz{K:PySem.W.Frag}(h:nZ t T b=true):PySem.W.kitOne K (.type t) (.type T)=some b:=by
 unfold nZ at h;rw[Bool.and_eq_true,Bool.and_eq_true]at h;rw[aHW (of_decide_eq_true h.1.1) (of_decide_eq_true h.1.2),eq_of_beq h.2]
theorem bT(h:H p=none)(o:HO):aU H (upd H p o):=λ b u q=>by rw[aV (bD q h)];exact q
section
variable{X:Cx}
def aLc(K:PySem.W.Frag):List V->Hp->VK->Prop:=λ xs H Q=>∃x T t b,xs=[x,.ty T]/\rE K H x (.type t)/\nZ t T b=true/\Q (.bl b) H
theorem jq:cO X (.builtin "isinstance") (aLc X.K):=by
 intro pins s σ H xs us Q I r h;obtain⟨x,T,t,b,rfl,ty,ok,q⟩:=h;obtain⟨u,w',rfl,r1,r2⟩:=vals2 r;obtain rfl:w'=Value.type T:=r2;exact aDg I r1 ty (aBz ok) λ tk=>⟨.bl b,H,I.tok tk,rfl,q⟩
def aGi(K:PySem.W.Frag):R2:=λ x y H Q=>∃a b ns ms,x= .ref a/\y= .ref b/\SqT K H a (ns.map V.int)/\SqT K H b (ms.map V.int)/\Q (.bl (HT.lexLe ns ms)) H
theorem aJ9(hu:X.A.units<cLine):OpR X (compareOp .LtE) (aGi X.K):=by
 intro pins s σ H x y v u Q I rx ry h;obtain⟨a,b,ns,ms,rfl,rfl,ha,hb,q⟩:=h;cases rx;cases ry;obtain⟨its,r1,p1,_⟩:=I.tuple ha;obtain⟨its2,r2,p2,_⟩:=I.tuple hb;have i1:IntsAre its.toArray.toList ns:=intsAre_of r1;have i2:IntsAre its2.toArray.toList ms:=intsAre_of r2;exact HT.aBt p1 p2 i1 i2 hu ⟨.bl (HT.lexLe ns ms),H,I,rfl,q⟩
theorem Inv.big'(I:Inv X pins σ H s):sysModules<s.heap.objs.size:=by
 have h:mainGlobals<s.heap.objs.size:=(I.mod.glob.keeps I.bk).lt;exact Nat.lt_trans (by decide) h
def aK4:TE:=λ _ H Q=>∀p,H p=none->Q (.ref p) (upd H p (.dK []))
theorem aGr:PE X (.Dict [] [] pos) aK4:=λ pins s σ H Q I h=>
 wpAny_Dict_empty ⟨.ref s.heap.objs.size,_,I.laid (a:=s.heap.objs.size) (o:=.dK []) (t':=s.toks) (λ _ _ q=>Heap.get?_push_of_some _ q) (Nat.le_refl _)
  ⟨Nat.zero_le _,beq_eq_false_iff_ne.mpr (Ne.symm (Nat.ne_of_lt I.big')),[],.nil,Heap.DictOf.new s.heap⟩,rfl,h _ (I.hok.fresh (Nat.le_refl _))⟩
end
def lJ(l:Addr)(H H':Hp):Prop:=∀b o,b≠l->H b=some o->H' b=some o
theorem aU.sqt{K:PySem.W.Frag}(e:aU H H')(h:SqT K H a xs):SqT K H' a xs:=by
 rcases h with (h|⟨o,h⟩)|h
 ·exact .inl (.inl (e _ _ h))
 ·exact .inl (.inr ⟨o,e _ _ h⟩)
 ·exact .inr h
inductive D where
 |non|bl (b:Bool)|int (i:Int)|str (x:Str)|tup (l:List D)|lst (l:List D)|dct
mutual
inductive Rep(H:Hp):V->D->Prop where
 |non:Rep H .non .non
 |bl (b:Bool):Rep H (.bl b) (.bl b)
 |int (i:Int):Rep H (.int i) (.int i)
 |str (x:Str):Rep H (.str x) (.str x)
 |tup {a:Addr} {xs:List V} {ds:List D} (h:H a=some (.tup xs)) (r:fB H xs ds):Rep H (.ref a) (.tup ds)
 |lst {a:Addr} {xs:List V} {ds:List D} (h:H a=some (.lst xs)) (r:fB H xs ds):Rep H (.ref a) (.lst ds)
 |dct {a:Addr} (h:H a=some (.dK [])):Rep H (.ref a) .dct
inductive fB(H:Hp):List V->List D->Prop where
 |nil:fB H [] []
 |cons {x:V} {d:D} {xs:List V} {ds:List D} (h:Rep H x d) (r:fB H xs ds):fB H (x::xs) (d::ds)
end
mutual
theorem Rep.mono(s:aU H H'):∀{x:V} {d:D},Rep H x d->Rep H' x d
 |_,_,.non=>.non
 |_,_,.bl b=>.bl b
 |_,_,.int i=>.int i
 |_,_,.str x=>.str x
 |_,_,.tup h r=>.tup (s _ _ h) (fB.mono s r)
 |_,_,.lst h r=>.lst (s _ _ h) (fB.mono s r)
 |_,_,.dct h=>.dct (s _ _ h)
theorem fB.mono(s:aU H H'):∀{xs:List V} {ds:List D},fB H xs ds->fB H' xs ds
 |_,_,.nil=>.nil
 |_,_,.cons h r=>.cons (Rep.mono s h) (fB.mono s r)
end
theorem fB.length:∀{xs:List V} {ds:List D},fB H xs ds->xs.length=ds.length
 |_,_,.nil=>rfl
 |_,_,.cons _ r=>by rw[List.length_cons,List.length_cons,fB.length r]
theorem fB.get:∀{xs:List V} {ds:List D} {i:Nat} {x:V},fB H xs ds->xs[i]? =some x->∃d,ds[i]? =some d/\Rep H x d
 |_,_,_,_,.nil,e=>by simp at e
 |_,_,0,_,.cons h _,e=>by simp at e;subst e;exact⟨_,rfl,h⟩
 |_,_,i+1,x,.cons _ r,e=>by
  obtain⟨d,h1,h2⟩:=fB.get (i:=i) (x:=x) r (by simpa using e);exact⟨d,by simpa using h1,h2⟩
def tyD:D->String
 | .non=>"NoneType"| .bl _=>"bool"| .int _=>"int"| .str _=>"str"| .tup _=>"tuple"| .lst _=>"list"| .dct=>"dict"
theorem PE.weaken(h:PE X e t)(imp:∀σ H Q,t' σ H Q->t σ H Q):PE X e t':=λ pins s σ H Q I q=>h pins s σ H Q I (imp σ H Q q)
theorem OpR.weaken(h:OpR X f r)(imp:∀x y H Q,r' x y H Q->r x y H Q):OpR X f r':=λ pins s σ H x y v u Q I rx ry q=>h pins s σ H x y v u Q I rx ry (imp x y H Q q)
def New(H:Hp)(o:HO)(Q:VK):Prop:=∀p H',aU H H'->H' p=some o->H p=none->Q (.ref p) H'
theorem New.at(n:New H o Q)(hp:H p=none):Q (.ref p) (upd H p o):=n p _ (bT hp o) au hp
section
variable{X:Cx}{e:Expr}{es:List Expr}{te:TE}{t:TA}{pos:Pos}
def aK0(t:TA):TE:=λ σ H Q=>t σ H λ xs H1=>xs.length<=sizeLine/\New H1 (.tup xs) Q
def aEF(t:TA):TE:=λ σ H Q=>t σ H λ xs H1=>xs.length<=sizeLine/\New H1 (.lst xs) Q
theorem aGq{x1}(h:PA X es t):PE X (.Tuple es x1 pos) (aK0 t):=by
 have h':PA X es (λ σ H Q=>∃R:List V->Hp->Prop,t σ H R/\∀xs H',R xs H'->Q xs H'):=by
  intro pos pins s σ H Q I ⟨R,q,imp⟩;exact thn (h pos pins s σ H R I q) λ us s' ⟨vs,H',I',r,q'⟩=>⟨vs,H',I',r,imp _ _ q'⟩
 exact(aJM h').weaken λ σ H Q q=>⟨_,q,λ xs H' ⟨z,n⟩=>⟨z,λ p hp=>n.at hp⟩⟩
theorem kj(h:PA X es t):PE X (.List es pos) (aEF t):=by
 have h':PA X es (λ σ H Q=>∃R:List V->Hp->Prop,t σ H R/\∀xs H',R xs H'->Q xs H'):=by
  intro pos pins s σ H Q I ⟨R,q,imp⟩;exact thn (h pos pins s σ H R I q) λ us s' ⟨vs,H',I',r,q'⟩=>⟨vs,H',I',r,imp _ _ q'⟩
 exact(aJQ h').weaken λ σ H Q q=>⟨_,q,λ xs H' ⟨z,n⟩=>⟨z,λ p hp=>n.at hp⟩⟩
def aIj:TE:=λ _ H Q=>New H (.dK []) Q
theorem aEv:PE X (.Dict [] [] pos) aIj:=aGr.weaken λ σ H Q n p hp=>n.at hp
def aEc:R2:=λ x y H Q=>∃l b xs zs,x= .ref l/\y= .ref b/\H l=some (.lst xs)/\H b=some (.lst zs)/\xs.length+zs.length<=sizeLine/\New H (.lst (xs++zs)) Q
theorem yV:OpR X (binaryOp .Add) aEc:=aJd.weaken λ x y H Q ⟨l,b,xs,zs,e1,e2,h1,h2,z,n⟩=>⟨l,b,xs,zs,e1,e2,h1,h2,z,λ p hp=>n.at hp⟩
def uR:V->List V->Hp->VK->Prop:=λ x vs H Q=>∃l xs y,x= .ref l/\vs=[y]/\H l=some (.lst xs)/\xs.length<sizeLine/\∀H',lJ l H H'->H' l=some (.lst (xs++[y]))->Q .non H'
theorem ud:MtM X "list.append" uR:=λ pins s σ H x xs v us Q I rx rv ⟨l,ys,y,e1,e2,h,z,n⟩=>
 wZ pins s σ H x xs v us Q I rx rv ⟨l,ys,y,e1,e2,h,z,n _ (λ b o ne hb=>by rw[aV ne];exact hb) au⟩
end
section
variable{X:Cx}{a b c:Expr}{ta tb:TE}{tt:TT}{pos:Pos}
end
def aq(scope:Scope)(env:Env):List (Str×Addr):=(scope.names.filterMap λ y=>if y.2== .free then(env.cells.lookup y.1).map λ c=>(y.1,c)else none).reverse
theorem vR(env:Env):∀(names:List (Str×NameKind)) (acc:List (Str×Addr)),(∀y∈names,y.2= .free->∃c,env.cells.lookup y.1=some c)->
  (forIn names acc λ(x:Str×NameKind) r=>if (x.2== .free)=true then do let c <-cellOf env x.1;pure (ForInStep.yield ((x.1,c)::r))else pure (ForInStep.yield r):Sem (List (Str×Addr)))=
   pure ((names.filterMap λ y=>if y.2== .free then(env.cells.lookup y.1).map λ c=>(y.1,c)else none).reverse++acc)
 |[],acc,_=>rfl
 |(n,k)::r,acc,h=>by
  rw[List.forIn_cons];have ih:=λ acc'=>vR env r acc' λ y hy=>h y (List.mem_cons_of_mem _ hy)
  by_cases hk:k= .free
  ·subst hk
   obtain⟨c,hc⟩:=h (n,.free) List.mem_cons_self rfl;have hc':env.cells.lookup n=some c:=hc;simp only[beq_self_eq_true,if_true,cellOf,hc',List.filterMap_cons,Option.map_some,List.reverse_cons,List.append_assoc,List.singleton_append];exact ih _
  ·have hb:(k==NameKind.free)=false:=by simpa using hk
   simp only[hb,Bool.false_eq_true,if_false,List.filterMap_cons];exact ih _
theorem gW(h:∀y∈scope.names,y.2= .free->∃c,env.cells.lookup y.1=some c):closureFor scope env=pure (aq scope env):=by
 have e:=vR env scope.names [] h;rw[List.append_nil]at e;have e2:closureFor scope env=((forIn scope.names ([]:List (Str×Addr)) λ(x:Str×NameKind) r=>if (x.2== .free)=true then do let c <-cellOf env x.1;pure (ForInStep.yield ((x.1,c)::r))else pure (ForInStep.yield r):Sem (List (Str×Addr)))>>=λ r=>pure r):=rfl;rw[e2,e];rfl
theorem fK(h:(aq scope env).lookup x=some c):env.cells.lookup x=some c:=by
 have hm:=PySem.mem_of_lookup h;unfold aq at hm;rw[List.mem_reverse,List.mem_filterMap]at hm;obtain⟨y,hy,e⟩:=hm;split at e
 ·cases q:env.cells.lookup y.1 with
  |none=>rw[q]at e;cases e
  |some c'=>
   rw[q]at e;have e':=Option.some.inj e;injection e' with e1 e2
   subst e1 e2;exact q
 ·cases e
theorem pY(hx:scope.names.lookup x=some .free)(h:env.cells.lookup x=some c):(aq scope env).lookup x=some c:=by
 have hm:(x,NameKind.free)∈scope.names:=PySem.mem_of_lookup hx
 have:(x,c)∈aq scope env:=by
  unfold aq;rw[List.mem_reverse,List.mem_filterMap];exact⟨_,hm,by simp[h]⟩
 cases q:(aq scope env).lookup x with
 |none=>
  exact absurd this (by
   intro hm'
   have:=List.lookup_eq_none_iff.mp q _ hm'
   simp at this)
 |some c'=>
  have:=fK q
  rw[h]at this;exact this.symm▸rfl
def sW(scope:Scope)(C:Addr):List (Str×Addr):=cellsFrom (C+1) scope.names []
theorem jo:∀(names:List (Str×NameKind)) (n:Nat) (acc:List (Str×Addr)),cellsFrom n names acc=cellsFrom n names []++acc
 |[],_,_=>rfl
 |(x,k)::r,n,acc=>by
  unfold cellsFrom;split
  ·rw[jo r (n+1) ((x,n)::acc),jo r (n+1) [(x,n)],List.append_assoc];rfl
  ·exact jo r n acc
theorem o7:∀{names:List (Str×NameKind)} {n:Nat} {x:Str} {c:Addr},(x,c)∈cellsFrom n names []->(x,NameKind.cell)∈names
 |(y,k)::r,n,x,c,h=>by
  unfold cellsFrom at h;split at h
  ·rename_i hk
   rw[jo,List.mem_append]at h;rcases h with h|h
   ·exact List.mem_cons_of_mem _ (o7 h)
   ·have e:=List.mem_singleton.mp h
    cases e;rw[eq_of_beq hk];exact List.mem_cons_self
  ·exact List.mem_cons_of_mem _ (o7 h)
 |[],_,_,_,h=>by cases h
theorem jg{l m:List (Str×Addr)}(h:(l++m).lookup x=some c):l.lookup x=some c\/(l.lookup x=none/\m.lookup x=some c):=by
 rw[List.lookup_append]at h;cases e:l.lookup x with
 |some c'=>rw[e]at h;exact .inl h
 |none=>rw[e]at h;exact .inr ⟨rfl,h⟩
theorem aCk{M:Model}{A:Around}{E:Value->Shared->Prop}{s:Shared}{scope:Scope}{globals:Addr}{cl:List (Str×Addr)}{qual:Str}{env:Env}{Q:Env->Shared->Prop}
  (h:∀h':Heap,h'.Ns s.heap.objs.size (λ _=>none)->(∀b o,s.heap.get? b=some o->h'.get? b=some o)->CellsOk h' (s.heap.objs.size+1) (sW scope s.heap.objs.size)->
   Q {scope:=scope,locals:=s.heap.objs.size,globals:=globals,cells:=sW scope s.heap.objs.size++cl,qual:=qual,func:=none,code:=env.code,frame:=env.frame,builtins:=env.builtins} {s with heap:=h'}):
  wpAny M A (newFunctionEnv scope globals cl [] qual none .none (some env)) Q E s:=by
 simp only[newFunctionEnv,Option.isSome_some,if_true];refine wpAny_bind (wpAny_alloc ?_);refine wpAny_bind (wpAny_layCells _ (λ name kind cells=>by cases hkc:kind==NameKind.cell<;>simp[hkc]) _ _ _ _ ?_);have ok:=cellsFrom_ok scope.names (s.heap.push {cls:=.type "dict",data:=.dict #[]}) (s.heap.objs.size+1) [] ⟨λ _ _ hm=>(nomatch hm),List.Pairwise.nil⟩ (by rw[Heap.size_push];exact Nat.le_refl _);rw[Heap.size_push]at ok;rw[show({s with heap:=s.heap.push {cls:=.type "dict",data:=.dict #[]}}:Shared).heap.objs.size=s.heap.objs.size+1 from Heap.size_push ..,jo];refine wpAny_pure ?_;exact h _ ((Heap.Ns.new s.heap (.type "dict")).keeps (pushCells_keeps _ _)) (λ b o e=>pushCells_keeps _ _ b o (Heap.get?_push_of_some _ e)) ok
def Cx.block(X:Cx)(scope:Scope)(C:Addr)(N:List Str)(fp:List Addr)(s₀:Shared)(H₀:Hp):Cx:=
  {prog:=X.prog,w:=X.w,K:=X.K,mg:=X.mg,base:=X.base,A:=X.A,N:=N,s₀:=s₀,H₀:=H₀,env:=compEnvC scope (sW scope C++aq scope X.env) C X.env,outer:=X.stack,stack:=X.stack,ex:=fp,
    fn:=λ x=>scope.names.lookup x==some .cell,calm:=X.calm,pn:=[],xe:=λ _ _=>False}
structure dX(X:Cx)(scope:Scope)(N:List Str)(st:St->St)(ks:List Nat):Prop where
 kind:scope.kind= .function
 sep:∀y∈scope.names,y.2= .cell->scope.names.lookup y.1=some .cell
 loc:∀y∈scope.names,y.2= .local->scope.names.lookup y.1=some .local
 free:∀y∈scope.names,y.2= .free->X.env.kindOf y.1=some .cell\/X.env.kindOf y.1=some .free
 len:∀σ,(st σ).length=N.length
 val:∀σ (i:Nat) x v,N[i]? =some x->(st σ)[i]? =some (some v)->scope.names.lookup x=some .free/\i∉ks/\∃j:Nat,X.N[j]? =some x/\σ[j]? =some (some v)
theorem yO(h:(relabel scope env).names.lookup x=some .cell\/(relabel scope env).names.lookup x=some .free):scope.names.lookup x=some .free\/scope.names.lookup x=some .cell:=by
 have go:∀names:List (Str×NameKind),((names.map λ(n,k)=>if (k==NameKind.free&&env.scope.kind== .function&&env.kindOf n==some .cell)then(n,NameKind.cell)else(n,k)).lookup x=some .cell\/
   (names.map λ(n,k)=>if (k==NameKind.free&&env.scope.kind== .function&&env.kindOf n==some .cell)then(n,NameKind.cell)else(n,k)).lookup x=some .free)->names.lookup x=some .free\/names.lookup x=some .cell:=by
  intro names;induction names with
  |nil=>intro h;simp at h
  |cons y r ih=>
   obtain⟨n,k⟩:=y;intro h;rw[List.map_cons]at h;by_cases hx:x==n
   ·rw[List.lookup_cons,hx]
    show some k=some .free\/some k=some .cell;by_cases hcc:(k==NameKind.free&&env.scope.kind== .function&&env.kindOf n==some .cell)=true
    ·rw[Bool.and_eq_true,Bool.and_eq_true]at hcc
     rw[eq_of_beq hcc.1.1];exact .inl rfl
    ·simp only[if_neg hcc,List.lookup_cons,hx]at h
     exact h.elim .inr .inl
   ·have hx':(x==n)=false:=by simpa using hx
    rw[List.lookup_cons,hx'];refine ih ?_;by_cases hcc:(k==NameKind.free&&env.scope.kind== .function&&env.kindOf n==some .cell)=true
    ·simp only[if_pos hcc,List.lookup_cons,hx']at h
     exact h
    ·simp only[if_neg hcc,List.lookup_cons,hx']at h
     exact h
 exact go scope.names h
theorem yP(h:scope.names.lookup x=some .free):(relabel scope env).names.lookup x=some .cell\/(relabel scope env).names.lookup x=some .free:=by
 have go:∀names:List (Str×NameKind),names.lookup x=some .free->((names.map λ(n,k)=>if (k==NameKind.free&&env.scope.kind== .function&&env.kindOf n==some .cell)then(n,NameKind.cell)else(n,k)).lookup x=some .cell\/
   (names.map λ(n,k)=>if (k==NameKind.free&&env.scope.kind== .function&&env.kindOf n==some .cell)then(n,NameKind.cell)else(n,k)).lookup x=some .free):=by
  intro names;induction names with
  |nil=>intro h;simp at h
  |cons y r ih=>
   obtain⟨n,k⟩:=y;intro h;rw[List.map_cons];by_cases hx:x==n
   ·rw[List.lookup_cons,hx]at h
    have hk:k= .free:=Option.some.inj h;by_cases hcc:(k==NameKind.free&&env.scope.kind== .function&&env.kindOf n==some .cell)=true
    ·simp only[if_pos hcc,List.lookup_cons,hx]
     exact .inl trivial
    ·simp only[if_neg hcc,List.lookup_cons,hx]
     exact .inr (by rw[hk])
   ·have hx':(x==n)=false:=by simpa using hx
    rw[List.lookup_cons,hx']at h;by_cases hcc:(k==NameKind.free&&env.scope.kind== .function&&env.kindOf n==some .cell)=true
    ·simp only[if_pos hcc,List.lookup_cons,hx']
     exact ih h
    ·simp only[if_neg hcc,List.lookup_cons,hx']
     exact ih h
 exact go scope.names h
section
variable{X:Cx}{pins:List (Addr×Obj)}{σ:St}{H H':Hp}{s:Shared}
theorem Inv.block{st:St->St}{D C:Addr}(I:Inv X pins σ H s)(B:dX X scope N st ks)
  (hfp:∀b∈fp,qJ X pins H b)(hob:∀b∈fp,∃ob,s.heap.get? b=some ob)
  (hD:s.heap.objs.size<=D)(hC:s.heap.objs.size<=C)(hDC:D≠C)(keep:∀b u,s.heap.get? b=some u->h'.get? b=some u)(hns:h'.Ns C λ _=>none)(hcs:CellsOk h' (C+1) (sW scope C))(hDo:∀c,C<c->D≠c)(hacc:bw X.prog X.w (upd H D o) h' D o):
  Inv (X.block scope C N fp s H) [] (st σ) (upd H D o) {s with heap:=h',toks:=tk}:=by
 have hHD:H D=none:=I.hok.fresh hD;have hcl:∀x c,(aq scope X.env).lookup x=some c->X.env.cells.lookup x=some c:=λ x c e=>fK e
 have hol:∀x c,(sW scope C).lookup x=some c->C<c/\h'.IsCell c none:=λ x c e=>let⟨q1,q2⟩:=hcs.empty x c (PySem.mem_of_lookup e);⟨q2,q1⟩
 have hlt:∀x c,(aq scope X.env).lookup x=some c->c<s.heap.objs.size:=λ x c e=>let⟨v,ic⟩:=I.cell x c (hcl x c e);ic.lt
 have hfresh:∀b∈fp,b<s.heap.objs.size:=λ b hb=>by
  obtain⟨ob,e⟩:=hob b hb;exact Heap.lt_size e
 refine⟨⟨I.mod,?_,I.ok.glob,I.ok.blt,hC,λ x y c e1 e2=>?_,λ x hx=>?_,λ x c hf e=>?_,I.ok.hd,I.ok.frames,.inl rfl,λ b hb=>⟨?_,λ x c e z=>?_⟩,
  I.bs,?_,λ b ob e hb=>?_,λ b hb hs=>?_,I.stack,I.stkFree⟩,rfl,I.bare,Un.laid keep hD hHD,⟨_,hns,λ i x v e1 e2 hv=>?_⟩,λ x c e=>?_,?_,λ x c e=>?_,λ p hp=>absurd (show p∈([]:List (Addr×Obj))from hp) (by simp),I.hok.laid keep hD hacc,B.len σ,λ p hp=>absurd (show p∈([]:List (Addr×Obj))from hp) (by simp)⟩
 ·show(relabel scope X.env).kind= .function
  exact B.kind
 ·rcases jg e1 with a1|⟨_,a1⟩<;>rcases jg e2 with a2|⟨_,a2⟩
  ·exact PySem.name_of_addr hcs.apart (PySem.mem_of_lookup a1) (PySem.mem_of_lookup a2)
  ·exact absurd (hlt y c a2) (Nat.not_lt.mpr (Nat.le_trans hC (Nat.le_of_lt (hol x c a1).1)))
  ·exact absurd (hlt x c a1) (Nat.not_lt.mpr (Nat.le_trans hC (Nat.le_of_lt (hol y c a2).1)))
  ·exact I.ok.inj x y c (hcl x c a1) (hcl y c a2)
 ·show∃c,(sW scope C++aq scope X.env).lookup x=some c
  rw[List.lookup_append];cases e:(sW scope C).lookup x with
  |some c=>exact⟨c,rfl⟩
  |none=>
   rcases yO hx with hfree|hcell
   ·obtain⟨c,hc⟩:=I.ok.has x (B.free (x,.free) (PySem.mem_of_lookup hfree) rfl)
    exact⟨c,pY hfree hc⟩
   ·obtain⟨c,hc⟩:=pZ (n:=C+1) hcell
    rw[show(sW scope C).lookup x=some c from hc]at e;cases e
 ·rcases jg e with a1|⟨a0,_⟩
  ·exact Nat.le_trans hC (Nat.le_of_lt (hol x c a1).1)
  ·obtain⟨c',hc'⟩:=pZ (n:=C+1) (eq_of_beq hf)
   rw[show(sW scope C).lookup x=some c' from hc']at a0;cases a0
 ·exact Nat.ne_of_lt (Nat.lt_of_lt_of_le (hfresh b hb) hC)
 ·rcases jg e with a1|⟨_,a1⟩
  ·exact absurd (hfresh b hb) (Nat.not_lt.mpr (by rw[<-z];exact Nat.le_trans hC (Nat.le_of_lt (hol x c a1).1)))
  ·exact(hfp b hb).2.2.2.2.1 x c (hcl x c a1) z
 ·exact Nat.le_trans I.ok.bsz I.sz
 ·rcases(hfp b hb).2.2.2.1 with z|z
  ·exact I.ok.noex b ob e z
  ·exact absurd (Nat.lt_of_lt_of_le (Heap.lt_size (I.ok.bs b ob e).1) z) (Nat.lt_irrefl _)
 ·rcases List.mem_cons.mp (I.stkSub b hs)with z|z
  ·exact(hfp b hb).2.1 z
  ·exact(hfp b hb).2.2.1 z
 ·obtain⟨hfree,_,j,f1,f2⟩:=B.val σ i x v e1 e2
  obtain⟨m,hn,hl⟩:=I.loc;have hk:=B.free (x,.free) (PySem.mem_of_lookup hfree) rfl;obtain⟨u,ru,hu⟩:=hl j x v f1 f2 (hk.elim (λ z=>.inr (.inl z)) λ z=>.inr (.inr z));rcases hu with ⟨k,_⟩|⟨_,c,ec,ic⟩
  ·rcases hk with z|z
   ·exact absurd (k.symm.trans z) (by decide)
   ·exact absurd (k.symm.trans z) (by decide)
  ·have hno:(sW scope C).lookup x=none:=by
    cases e:(sW scope C).lookup x with
    |none=>rfl
    |some c'=>
     have:=B.sep _ (o7 (PySem.mem_of_lookup e)) rfl
     rw[hfree]at this;cases this
   refine⟨u,ru,.inr ⟨?_,c,by show(sW scope C++aq scope X.env).lookup x=some c;rw[List.lookup_append,hno];exact pY hfree ec,ic.keeps keep⟩⟩;rcases hv with z|z|z
   ·have z':(relabel scope X.env).names.lookup x=some .local:=z
    rcases yP (env:=X.env) hfree with y|y
    ·exact absurd (z'.symm.trans y) (by decide)
    ·exact absurd (z'.symm.trans y) (by decide)
   ·exact .inl z
   ·exact .inr z
 ·rcases jg e with a1|⟨_,a1⟩
  ·exact⟨_,(hol x c a1).2⟩
  ·obtain⟨v,ic⟩:=I.cell x c (hcl x c a1)
   exact⟨v,ic.keeps keep⟩
 ·show upd H D o C=none
  rw[aV (Ne.symm hDC)];exact I.hok.fresh hC
 ·show upd H D o c=none
  rcases jg e with a1|⟨_,a1⟩
  ·rw[aV (Ne.symm (hDo c (hol x c a1).1))]
   exact I.hok.fresh (Nat.le_trans hC (Nat.le_of_lt (hol x c a1).1))
  ·obtain⟨v,ic⟩:=I.cell x c (hcl x c a1)
   rw[aV (Nat.ne_of_lt (Nat.lt_of_lt_of_le ic.lt hD))];exact I.freeC x c (hcl x c a1)
end
section
variable{prog:Program}{w:World}{A:Around}{R:Result->Shared->Prop}{s:Shared}
theorem zE(I:Nat->Shared->Prop)
  (turn:∀n s,I n s->wpAny (model prog w) A (pyNext it) (λ r s₁=>match r with
   |none=>R (.ok .next) s₁
   |some v=>wpAny (model prog w) A (letOwnedTupleGo target it v) (λ _ s₁=>wpAny (model prog w) A (assign target env v) (λ _ s₂=>
     wpAny (model prog w) A (forIn ifs true λ c r=>if r=true then do let ok <-isTrue c env (eval c env);pure (ForInStep.yield ok)else pure (ForInStep.yield r)) (λ ok s₃=>
      if ok=true then wpAny (model prog w) A (eval elt env) (λ x s₄=>
       wpAny (model prog w) A (call (.builtin "list.append") [acc,x]) (λ _ s₅=>∃m,m<n/\I m s₅) (λ _ _=>False) s₄) (λ _ _=>False) s₃
      else∃m,m<n/\I m s₃) (λ _ _=>False) s₂) (λ _ _=>False) s₁) (λ _ _=>False) s₁) (λ _ _=>False) s)
  (n:Nat)(h:I n s):codeAny (model prog w) A (.compLoop (.ListComp elt [⟨target,iter,ifs,0⟩] scope pos) 0 it acc env) R s:=by
 refine codeAny_loop rfl I (λ n s hI=>?_) n h;show wpAny _ A ((compTurn (.ListComp elt [⟨target,iter,ifs,0⟩] scope pos) 0 it acc env).onRaise (λ x=>do noteFrame x env;theTreesLotGoes x)) _ _ s;refine wpAny_noted ?_;rw[compTurn_list];refine wpAny_bind (wpAny_standAt (wpAny_bind (wpAny_mono (turn n s hI) (λ r s₁ h₁=>?_) λ _ _ h'=>h'.elim)));cases r with
 |none=>exact wpAny_pure h₁
 |some v=>
  refine wpAny_bind (wpAny_mono h₁ (λ _ s₁ h₁=>?_) λ _ _ h'=>h'.elim);refine wpAny_bind (wpAny_mono h₁ (λ _ s₂ h₂=>wpAny_bind (wpAny_mono h₂ (λ ok s₃ h₃=>?_) λ _ _ h'=>h'.elim)) λ _ _ h'=>h'.elim);cases ok with
  |false=>exact wpAny_pure ⟨rfl,h₃⟩
  |true=>
   exact wpAny_bind (wpAny_bind (wpAny_mono h₃ (λ x s₄ h₄=>wpAny_bind (wpAny_mono h₄ (λ _ s₅ h₅=>wpAny_pure (wpAny_pure ⟨rfl,h₅⟩)) λ _ _ h'=>h'.elim)) λ _ _ h'=>h'.elim))
end
def qI(g:TG)(ks:List Nat):Prop:=∀v σ H (Q:St->Hp->Prop),g v σ H Q->g v σ H (λ σ' H'=>Q σ' H'/\σ'.length=σ.length/\∀k,k∉ks->σ'[k]? =σ[k]?)
def vY(g:TGs)(ks:List Nat):Prop:=∀vs σ H (Q:St->Hp->Prop),g vs σ H Q->g vs σ H (λ σ' H'=>Q σ' H'/\σ'.length=σ.length/\∀k,k∉ks->σ'[k]? =σ[k]?)
theorem aHc(h:i∈ks):qI (n8 i) ks:=λ v σ H Q q=>⟨q,List.length_set,λ k hk=>List.getElem?_set_ne (λ(e:i=k)=>hk (e▸h))⟩
theorem aHb:vY aKE ks:=λ vs σ H Q ⟨e,q⟩=>⟨e,q,rfl,λ _ _=>rfl⟩
def aAy(g:TG):Prop:=∀v σ H (Q Q':St->Hp->Prop),(∀σ' H',Q σ' H'->Q' σ' H')->g v σ H Q->g v σ H Q'
def rF(g:TGs):Prop:=∀v σ H (Q Q':St->Hp->Prop),(∀σ' H',Q σ' H'->Q' σ' H')->g v σ H Q->g v σ H Q'
theorem aHe:aAy (n8 i):=λ v σ H Q Q' imp q=>imp _ _ q
theorem aHd:rF aKE:=λ v σ H Q Q' imp ⟨e,q⟩=>⟨e,imp _ _ q⟩
theorem aFq(h1:aAy t)(h2:rF u):rF (aFs t u):=λ vs σ H Q Q' imp ⟨v,r,e,q⟩=>⟨v,r,e,h1 _ _ _ _ _ (λ σ' H' q'=>h2 _ _ _ _ _ imp q') q⟩
theorem aFl(h1:qI t ks)(m1:aAy t)(h2:vY u ks)(m2:rF u):vY (aFs t u) ks:=λ vs σ H Q ⟨v,r,e,q⟩=>
 ⟨v,r,e,m1 _ _ _ _ _ (λ σ' H' ⟨q',l',k'⟩=>m2 _ _ _ _ _ (λ σ2 H2 ⟨q2,l2,k2⟩=>⟨q2,l2.trans l',λ k hk=>(k2 k hk).trans (k' k hk)⟩) (h2 _ _ _ _ q')) (h1 _ _ _ _ q)⟩
theorem aKC{K:PySem.W.Frag}(h:vY t ks):qI (aHf K n t) ks:=λ v σ H Q ⟨a,xs,e1,e2,e3,q⟩=>⟨a,xs,e1,e2,e3,h _ _ _ _ q⟩
theorem aKD{K:PySem.W.Frag}(h:rF t):aAy (aHf K n t):=λ v σ H Q Q' imp ⟨a,xs,e1,e2,e3,q⟩=>⟨a,xs,e1,e2,e3,h _ _ _ _ _ imp q⟩
def aAv(X:Cx)(ifs:List Expr)(t:TT):Prop:=
 ∀(pins:List (Addr×Obj)) (s:Shared) (σ:St) (H:Hp) (Q:Bool->Hp->Prop),Inv X pins σ H s->t σ H Q->
  wpAny (model X.prog X.w) X.A (forIn ifs true λ c r=>if r=true then do let ok <-isTrue c X.env (eval c X.env);pure (ForInStep.yield ok)else pure (ForInStep.yield r)) (TP X pins σ Q) X.xe s
def aL0:TT:=λ _ H Q=>Q true H
theorem aJL:aAv X [] aL0:=λ _ _ _ H _ I h=>wpAny_tests_nil ⟨H,I,h⟩
theorem aJK(h:PT X c t):aAv X [c] t:=λ pins s σ H Q I q=>wpAny_tests_one (h pins s σ H Q I q)
def tLC(wi:TI)(st:St->St)(g:TG)(tt:TT)(te:TE):TE:=λ σ H Q=>wi σ H λ J H1=>∀l,H1 l=none->∃W:Nat->Nat->List V->Hp->Prop,(∃m,W 0 m [] (upd H1 l (.lst [])))/\
 ∀i m acc H2,W i m acc H2->H2 l=some (.lst acc)/\acc.length<sizeLine/\((J.stop i H2/\Q (.ref l) H2)\/(J.go i H2/\∀x H3,J.yld i H2 x H3->g x (st σ) H3 λ σ4 H4=>tt σ4 H4 λ ok H5=>
  if ok=true then te σ4 H5 λ y H6=>H6 l=some (.lst acc)/\∃m',m'<m/\W (i+1) m' (acc++[y]) (upd H6 l (.lst (acc++[y])))else∃m',m'<m/\W (i+1) m' acc H5))
section
variable{X:Cx}{elt tg iter:Expr}{ifs:List Expr}{scope:Scope}{pos:Pos}{N:List Str}{st:St->St}{ks:List Nat}{wi:TI}{g:TG}{tt:TT}{te:TE}
theorem aAX(B:dX X scope N st ks)(hc:X.calm=true)(hg:∀C fp s₀ H₀,PG (X.block scope C N fp s₀ H₀) tg g)(hgo:qI g ks)(ht:∀C fp s₀ H₀,aAv (X.block scope C N fp s₀ H₀) ifs tt)
  (he:∀C fp s₀ H₀,PE (X.block scope C N fp s₀ H₀) elt te){H1:Hp}{Q:VK}{RR:Value->Addr->Result->Shared->Prop}
  (I:Inv X pins σ H1 s₂)(T:Turn X.prog X.w X.K tg J fp it tn)(h0:tn 0 s₂.heap)(hfp:∀b∈fp,qJ X pins H1 b)
  (h:∀l,H1 l=none->∃W:Nat->Nat->List V->Hp->Prop,(∃m,W 0 m [] (upd H1 l (.lst [])))/\
   ∀i m acc H2,W i m acc H2->H2 l=some (.lst acc)/\acc.length<sizeLine/\((J.stop i H2/\Q (.ref l) H2)\/(J.go i H2/\∀x H3,J.yld i H2 x H3->g x (st σ) H3 λ σ4 H4=>tt σ4 H4 λ ok H5=>
    if ok=true then te σ4 H5 λ y H6=>H6 l=some (.lst acc)/\∃m',m'<m/\W (i+1) m' (acc++[y]) (upd H6 l (.lst (acc++[y])))else∃m',m'<m/\W (i+1) m' acc H5)))
  (hRR:∀D C H' s',(∃σ',Inv (X.block scope C N fp s₂ H1) [] σ' H' s')->s₂.heap.objs.size<=C->Q (.ref D) H'->RR (.ref D) C (.ok .next) s'):
  wpAny (model X.prog X.w) X.A (newList []) (λ acc s₃=>wpAny (model X.prog X.w) X.A (newFunctionEnv scope X.env.globals (aq scope X.env) [] X.env.qual none .none (some X.env)) (λ cenv s₄=>
   codeAny (model X.prog X.w) X.A (.compStart (.ListComp elt [⟨tg,iter,ifs,0⟩] scope pos) 0 (.ref it) acc {cenv with scope:=relabel scope X.env}) (RR acc cenv.locals) s₄) E s₃) E s₂:=by
 refine wpAny_newObj_type (aCk λ h₁ hns₁ hold₁ hcs₁=>?_);dsimp only at hns₁ hold₁ hcs₁ ⊢;generalize hH2:s₂.heap.push {cls:=.type "list",dict:=none,data:=.seq ([]:List Value).toArray}=P2 at hns₁ hold₁ hcs₁ ⊢;have hC:P2.objs.size=s₂.heap.objs.size+1:=by rw[<-hH2,Heap.size_push]
 have hDC:s₂.heap.objs.size≠P2.objs.size:=by rw[hC];exact Nat.ne_of_lt (Nat.lt_succ_self _)
 have hCle:s₂.heap.objs.size<=P2.objs.size:=by rw[hC];exact Nat.le_succ _
 have old:∀b o,s₂.heap.get? b=some o->h₁.get? b=some o:=λ b o e=>hold₁ b o (hH2▸Heap.get?_push_of_some _ e)
 have hacc:h₁.get? s₂.heap.objs.size=some {cls:=.type "list",dict:=none,data:=.seq ([]:List Value).toArray}:=hold₁ _ _ (hH2▸Heap.get?_push_size _ rfl);generalize hCe:P2.objs.size=C at hns₁ hold₁ hcs₁ hDC hCle hC ⊢;have hHD:H1 s₂.heap.objs.size=none:=I.hok.fresh (Nat.le_refl _);have I0:Inv (X.block scope C N fp s₂ H1) [] (st σ) (upd H1 s₂.heap.objs.size (.lst [])) {s₂ with heap:=h₁,toks:=s₂.toks}:=
  I.block B hfp (λ b hb=>by obtain⟨o,e,_⟩:=T.obj 0 _ h0 b hb;exact⟨o,e⟩) (Nat.le_refl _) hCle hDC old hns₁ hcs₁ (λ c hc=>Nat.ne_of_lt (Nat.lt_of_le_of_lt hCle hc)) ⟨Nat.zero_le _,[],0,.nil,hacc⟩
 obtain⟨W,⟨m0,w0⟩,step⟩:=h _ hHD;have h01:tn 0 h₁:=T.keep 0 _ _ h0 λ b _ o e=>old b o e
 have stat:∀{H':Hp},(∀b∈fp,H' b=none)->∀b∈fp,qJ (X.block scope C N fp s₂ H1) [] H' b:=λ{H'} hn b hb=>
  ⟨hn b hb,(I0.ok.exf b hb).1,I0.ok.exfs b hb,.inl hb,λ x c e=>(I0.ok.exf b hb).2 x c e,λ p hp=>absurd (show p∈([]:List (Addr×Obj))from hp) (by simp)⟩
 have fr0:∀b∈fp,upd H1 s₂.heap.objs.size (.lst []) b=none:=λ b hb=>by
  obtain⟨o,e,_⟩:=T.obj 0 _ h0 b hb;rw[aV (Nat.ne_of_lt (Heap.lt_size e))];exact(hfp b hb).1
 have loop:∀s₃:Shared,s₃={s₂ with heap:=h₁,toks:=s₂.toks}->
   codeAny (model X.prog X.w) X.A (.compLoop (.ListComp elt [⟨tg,iter,ifs,0⟩] scope pos) 0 (.ref it) (.ref s₂.heap.objs.size) (X.block scope C N fp s₂ H1).env) (RR (.ref s₂.heap.objs.size) C) s₃:=by
  rintro s₃ rfl;refine zE (λ n s'=>∃i acc H2,Inv (X.block scope C N fp s₂ H1) [] (st σ) H2 s'/\tn i s'.heap/\(∀b∈fp,H2 b=none)/\W i n acc H2) ?_ m0 ⟨0,[],_,I0,h01,fr0,w0⟩;rintro n s3 ⟨i,acc,H2,I2,st2,fr2,w2⟩;obtain⟨hl,hz,alt⟩:=step i n acc H2 w2;rcases alt with ⟨stop,q⟩|⟨go,nxt⟩
  ·refine thn (T.done (X.block scope C N fp s₂ H1) rfl rfl rfl hc i [] s3 (st σ) H2 _ I2 (stat fr2) st2 stop) λ r s4 ⟨hr,I4⟩=>?_
   subst hr;exact hRR _ C H2 s4 ⟨_,I4⟩ hCle q
  ·refine thn (T.item (X.block scope C N fp s₂ H1) rfl rfl rfl hc i [] s3 (st σ) H2 _ I2 (stat fr2) st2 go) λ r s4 ⟨u,hr,h4⟩=>?_
   subst hr;refine thn h4 λ _ s5 ⟨x,H5,I5,r5,y5,st5,fr5⟩=>?_
   have I5':=I5.pinned (stat fr5) (T.obj _ _ st5);refine thn (hg C fp s₂ H1 _ s5 (st σ) H5 x u _ I5' r5 (hgo _ _ _ _ (nxt x H5 y5))) λ _ s6 ⟨σ6,H6,I6,q6,aHR,ag6⟩=>?_
   refine thn (ht C fp s₂ H1 _ s6 σ6 H6 _ I6 q6) λ ok s7 ⟨H7,I7,q7⟩=>?_
   have again:∀{H9:Hp} {s9:Shared} {acc':List V},Inv (X.block scope C N fp s₂ H1) ([]++qe fp s5.heap) σ6 H9 s9->(∃m',m'<n/\W (i+1) m' acc' H9)->
     ∃m,m<n/\∃i acc H2,Inv (X.block scope C N fp s₂ H1) [] (st σ) H2 s9/\tn i s9.heap/\(∀b∈fp,H2 b=none)/\W i m acc H2:=λ{H9 s9 acc'} I9 ⟨m',hm,w9⟩=>by
    have pin9:∀b∈fp,∀o,s5.heap.get? b=some o->s9.heap.get? b=some o/\H9 b=none:=λ b hb o e=>by
     have z:=I9.pin (b,o) (List.mem_append_right _ (List.mem_append_right _ (lA hb e)));exact⟨z.1,z.2.1⟩
    refine⟨m',hm,i+1,acc',H9,I9.unpinned.weak (by rw[aHR]) (λ k v e=>?_),T.keep _ _ _ st5 λ b hb o e=>(pin9 b hb o e).1,λ b hb=>?_,w9⟩
    ·have hk:k<(st σ).length:=(List.getElem?_eq_some_iff.mp e).1
     have hkN:k<N.length:=by rw[<-B.len σ];exact hk
     obtain⟨_,hks,_⟩:=B.val σ k _ v (List.getElem?_eq_getElem hkN) e;rw[ag6 k hks];exact e
    ·obtain⟨o,e,_⟩:=T.obj _ _ st5 b hb
     exact(pin9 b hb o e).2
   cases ok with
   |false=>
    rw[if_neg Bool.false_ne_true]at q7 ⊢;exact again I7 q7
   |true=>
    rw[if_pos rfl]at q7 ⊢;refine thn (he C fp s₂ H1 _ s7 σ6 H7 _ I7 q7) λ u8 s8 ⟨y,H8,I8,r8,hl8,q8⟩=>?_
    refine thn (wZ _ s8 σ6 H8 (.ref s₂.heap.objs.size) [y] (.ref s₂.heap.objs.size) [u8] (λ _ H9=>H9=upd H8 s₂.heap.objs.size (.lst (acc++[y]))) I8 rfl (.cons r8 .nil) ⟨_,acc,y,rfl,rfl,hl8,hz,rfl⟩) λ _ s9 ⟨_,H9,I9,_,e9⟩=>?_
    subst e9;exact again I9 q8
 exact codeAny_compStart_list (loop _ rfl) (T.self X.A 0 _ _ _ h01 (loop _ rfl))
theorem zP(I:Inv X pins σ H1 s₂)(hfp:∀b∈fp,qJ X pins H1 b)(h:∃σ',Inv (X.block scope C N fp s₂ H1) [] σ' H' s'):Inv X pins σ H' s':=by
 obtain⟨σ',J⟩:=h;exact I.call' (ch:=fp) J.os J.base J.hok J.bare λ b hb=>⟨(hfp b hb).2.2.2.1,(hfp b hb).2.1,(hfp b hb).2.2.2.2.1,(hfp b hb).2.2.2.2.2⟩
theorem aKp(B:dX X scope N st ks)(hc:X.calm=true)(hi:PI X tg iter wi)(hg:∀C fp s₀ H₀,PG (X.block scope C N fp s₀ H₀) tg g)(hgo:qI g ks)(ht:∀C fp s₀ H₀,aAv (X.block scope C N fp s₀ H₀) ifs tt)
  (he:∀C fp s₀ H₀,PE (X.block scope C N fp s₀ H₀) elt te)(hs:∀x,foldedSetIterable iter X.env x=pure x:=by intro _;rfl):PE X (.ListComp elt [⟨tg,iter,ifs,0⟩] scope pos) (tLC wi st g tt te):=by
 intro pins s σ H Q I h;have hcl:closureFor scope X.env=pure (aq scope X.env):=gW λ y hy hk=>I.ok.has _ (B.free y hy hk)
 rw[eval_ListComp];refine wpAny_comprehension_free (use:=none) rfl hs hcl B.kind B.loc (thn (hi pins s σ H _ I h) λ v s1 h1=>thn h1 λ itv s2 h2=>?_);obtain⟨it,fp,tn,J,H2,e,I2,T,st2,f2,hq⟩:=h2;subst e;refine aAX (RR:=λ acc C=>compPost (model X.prog X.w) X.A X.xe none (EP X pins σ Q) acc C) B hc hg hgo ht he I2 T st2 f2 hq ?_;intro D C H' s' hJ hCle q;have I3:=zP I2 f2 hJ;obtain⟨σ',J'⟩:=hJ;obtain⟨m,hn,_⟩:=id J'.loc;have hHC:H' C=none:=J'.free;refine⟨m,hn,λ h'' hs''=>⟨.ref D,H',?_,rfl,q⟩⟩;exact I3.turned (t':=s'.toks) (λ b o ne e=>(hs''.2 b ne).trans e) hHC (Nat.ne_of_gt (Nat.lt_of_lt_of_le I2.lt hCle)) (.inr (Nat.le_trans I2.sz hCle))
  (λ x c e z=>by obtain⟨v,ic⟩:=I2.cell x c e;exact absurd (Nat.lt_of_lt_of_le ic.lt (by rw[z];exact hCle)) (Nat.lt_irrefl _))
  (λ p hp z=>absurd (Nat.lt_of_lt_of_le (I2.pinL hp) (by rw[z];exact hCle)) (Nat.lt_irrefl _))
theorem zy(hN:X.N.Nodup)(hx1:X.N[i]? =some x)(hx2:Loc X.env.scope x)(B:dX X scope N st ks)(hc:X.calm=true)(hi:PI X tg iter wi)(hg:∀C fp s₀ H₀,PG (X.block scope C N fp s₀ H₀) tg g)(hgo:qI g ks)
  (ht:∀C fp s₀ H₀,aAv (X.block scope C N fp s₀ H₀) ifs tt)(he:∀C fp s₀ H₀,PE (X.block scope C N fp s₀ H₀) elt te)(hsw:swapsWith (.ListComp elt [⟨tg,iter,ifs,0⟩] scope pos) (some (.Name x pos')) spos.line X.env=pure true)
  (hs:∀x,foldedSetIterable iter X.env x=pure x:=by intro _;rfl)(hf:X.fn x=true\/X.env.scope.names.lookup x=some .local:=by first|exact .inl rfl|exact .inr rfl|assumption):
  PS X (.Assign [.Name x pos'] (.ListComp elt [⟨tg,iter,ifs,0⟩] scope pos) spos) (z6 (tLC wi st g tt te) (n8 i)):=by
 intro pins s σ H D I h;have hcl:closureFor scope X.env=pure (aq scope X.env):=gW λ y hy hk=>I.ok.has _ (B.free y hy hk)
 rw[exec_Assign_Name_used _ _ _ _ hsw];refine wpAny_bind (wpAny_standAt (wpAny_bind ?_));show wpAny _ _ (do let _ <-comprehension (.ListComp elt [⟨tg,iter,ifs,0⟩] scope pos) scope X.env _ (newList []) false (eval iter X.env) (some (assign (.Name x pos') X.env))) _ _ s;refine wpAny_bind (wpAny_mono (wpAny_comprehension_free (use:=some (assign (.Name x pos') X.env)) (Q:=λ _ s'=>SP X pins D .next s') rfl hs hcl B.kind B.loc (thn (hi pins s σ H _ I h) λ v s1 h1=>thn h1 λ itv s2 h2=>?_)) (λ _ s' hq=>wpAny_pure (wpAny_pure hq)) λ _ _ e=>e);obtain⟨it,fp,tn,J,H2,e,I2,T,st2,f2,hq⟩:=h2;subst e;refine aAX (Q:=λ x H1=>n8 i x σ H1 D.nx) (RR:=λ acc C=>compPost (model X.prog X.w) X.A X.xe (some (assign (.Name x pos') X.env)) (λ _ s'=>SP X pins D .next s') acc C) B hc hg hgo ht he I2 T st2 f2 hq ?_;intro DD C H' s' hJ hCle q;have I3:=zP I2 f2 hJ;obtain⟨σ',J'⟩:=hJ;obtain⟨m,hn,_⟩:=id J'.loc;have hHC:H' C=none:=J'.free;have neL:C≠X.env.locals:=Nat.ne_of_gt (Nat.lt_of_lt_of_le I2.lt hCle);have neC:∀x c,X.env.cells.lookup x=some c->c≠C:=λ x c e z=>by obtain⟨v,ic⟩:=I2.cell x c e;exact absurd (Nat.lt_of_lt_of_le ic.lt (by rw[z];exact hCle)) (Nat.lt_irrefl _)
 show wpAny _ _ (assign (.Name x pos') X.env (.ref DD)) _ _ _;refine wpAny_assign_Name ?_;refine wL I3 hN hx1 hx2 (show RelV (.ref DD) (.ref DD)from rfl) (λ s4 I4 ⟨a,hsa,ha⟩=>?_) hf;have nea:C≠a:=by
  rcases ha with z|z
  ·rw[z];exact neL
  ·exact Ne.symm (neC _ _ z)
 refine⟨m,hn.sameBut hsa nea,λ h'' hs''=>⟨_,H',?_,q⟩⟩;exact I4.turned (t':=s4.toks) (λ b o ne e=>(hs''.2 b ne).trans e) hHC neL (.inr (Nat.le_trans I2.sz hCle)) neC
  (λ p hp z=>absurd (Nat.lt_of_lt_of_le (I2.pinL hp) (by rw[z];exact hCle)) (Nat.lt_irrefl _))
end
def CX1(P:Program)(w:World):CXT:=λ outer H s E e s'=>∃(ea:Addr) (cls a0:Value) (B:Heap) (H':Hp),e= .ref ea/\s'.os=s.os/\AllBare s'.gens/\Un (frs outer) [] H H' s.heap s'.heap/\HOk P w H' B/\Heap.FlyingW B outer ea cls a0 s'.heap/\
 (∀b o,s.heap.get? b=some o->H b=none->b∉frs outer->B.get? b=some o)/\(∀b o,s.heap.get? b=some o->b∉frs outer->∃o',B.get? b=some o')/\E cls none H'
structure dB(X:Cx)(E:XK):Prop where
 stk:X.stack=X.env::X.outer
 fr:X.env.frame=some X.env.locals
 ex:X.ex=[]
 xe:X.xe=λ e s'=>wpAny (model X.prog X.w) X.A (leaving X.env e) (λ _ s''=>CX1 X.prog X.w X.outer X.H₀ X.s₀ E e s'') (λ e' s''=>CX1 X.prog X.w X.outer X.H₀ X.s₀ E e' s'') s'
theorem dB.of{K:PySem.W.Frag}:
  dB (sr (CX1 P w) P w K mg base N qual scope f cd A outer s₀ H₀ E) E:=⟨rfl,rfl,rfl,rfl⟩
section
variable{X:Cx}{E:XK}
theorem aFt{B h':Heap}(hX:X.ex=[])(I:Inv X pins σ H s)
  (a1:∀b o,s.heap.get? b=some o->H b=none->b∉frs X.stack->B.get? b=some o)(a2:∀b o,s.heap.get? b=some o->b∉frs X.stack->∃o',B.get? b=some o')
  (a3:B.StaysIn h')(a4:∀b o,b∈frs X.outer->s.heap.get? b=some o->H b=none->(∀vs,o.data≠.fields vs)->∃sl,h'.get? b=some {o with slots:=sl})
  (a5:∀b o,s.heap.get? b=some o->H b=none->H' b=none)(a6:∀b xs,H b=some (.tup xs)->H' b=some (.tup xs))(a7:∀b o u,H b=some (.frz o u)->H' b=some (.frz o u))(a8:∀b ps,H b=some (.tbl ps)->∃more,H' b=some (.tbl (ps++more))):
  Un (frs X.outer) [] X.H₀ H' X.s₀.heap h'/\(∀b o,X.s₀.heap.get? b=some o->X.H₀ b=none->b∉frs X.outer->B.get? b=some o)/\(∀b o,X.s₀.heap.get? b=some o->b∉frs X.outer->∃o',B.get? b=some o'):=by
 have nx:∀b,b∉X.ex:=λ b z=>by rw[hX]at z;cases z
 have noS:∀b o,X.s₀.heap.get? b=some o->b∉frs X.outer->b∉frs X.stack:=λ b o e nf hb=>by
  rcases List.mem_cons.mp (I.stkSub b hb)with z|z
  ·exact absurd z (Nat.ne_of_lt (Nat.lt_of_lt_of_le (Heap.lt_size e) I.ok.above))
  ·exact nf z
 have bk:∀b o,X.s₀.heap.get? b=some o->X.H₀ b=none->b∉frs X.outer->B.get? b=some o:=λ b o e n nf=>
  a1 b o (I.base.keep b o e n nf (nx b)) (I.base.free b o e n (nx b)) (noS b o e nf)
 have ba:∀b o,X.s₀.heap.get? b=some o->b∉frs X.outer->∃o',B.get? b=some o':=λ b o e nf=>by
  obtain⟨o1,e1⟩:=I.base.there b o e (nx b);exact a2 b o1 e1 (noS b o e nf)
 have sl:∀b o,X.s₀.heap.get? b=some o->X.H₀ b=none->b∈frs X.outer->∃sl,h'.get? b=some {o with slots:=sl}:=λ b o e n hb=>by
  obtain⟨sl1,e1⟩:=I.base.slot b o e n hb (nx b);obtain⟨_,o2,ho2,hnf⟩:=I.ok.funs.mem hb;rw[e]at ho2;cases ho2;obtain⟨sl2,e2⟩:=a4 b _ hb e1 (I.base.free b o e n (nx b)) hnf;exact⟨sl2,e2⟩
 refine⟨⟨λ b o e n nf _=>a3 b o (bk b o e n nf),λ b o e n hb _=>sl b o e n hb,λ b o e n _=>?_,λ b o e _=>?_,λ b xs e=>a6 b xs (I.base.tups b xs e),λ b o u e=>a7 b o u (I.base.frzs b o u e),λ b ps e=>?_⟩,bk,ba⟩
 ·obtain⟨o1,e1⟩:=I.base.there b o e (nx b)
  exact a5 b o1 e1 (I.base.free b o e n (nx b))
 ·by_cases hb:b∈frs X.outer
  ·obtain⟨s2,e2⟩:=sl b o e (I.ok.frf b hb) hb
   exact⟨_,e2⟩
  ·obtain⟨o',e'⟩:=ba b o e hb
   exact⟨o',a3 b o' e'⟩
 ·obtain⟨m1,e1⟩:=I.base.tbls b ps e
  obtain⟨m2,e2⟩:=a8 b _ e1;exact⟨m1++m2,by rw[e2,Array.append_assoc]⟩
theorem dB.pass(D:dB X E):o8 (CX1 X.prog X.w) X E:=by
 intro pins σ H s e s' I h;obtain⟨ea,cls,a0,B,H',rfl,os,bare,un,hok,fly,bk,ba,hE⟩:=h;rw[D.xe];have fly':=fly;rw[D.stk]at fly';have hfr:=I.ok.frames;rw[D.stk]at hfr;refine wpAny_leaves_onW (L:=X.env.locals) hfr D.fr fly' λ h' fl up=>?_
 have a4:∀b o,b∈frs X.outer->s.heap.get? b=some o->H b=none->(∀vs,o.data≠.fields vs)->∃sl,h'.get? b=some {o with slots:=sl}:=λ b o hb e n nf=>by
  have hb':b∈frs X.stack:=by
   rw[D.stk];unfold frs;rw[List.filterMap_cons,D.fr];exact List.mem_cons_of_mem _ hb
  obtain⟨s1,e1⟩:=un.slot b o e n hb' (λ z=>nomatch z);obtain⟨s2,e2⟩:=up b _ e1 nf;exact⟨s2,e2⟩
 obtain⟨u1,u2,u3⟩:=aFt (B:=B) (h':=h') (H':=H') D.ex I bk ba fl.1 a4 (λ b o e n=>un.free b o e n (λ z=>nomatch z)) un.tups un.frzs un.tbls;exact⟨ea,cls,a0,B,H',rfl,os.trans I.os,bare,u1,hok,fl,u2,u3,hE⟩
theorem dB.raise(D:dB X E){ea:Addr}(I:Inv X pins σ H s)
  (hx:Heap.MadeExcOf s.heap h1 ea cls vs)(hE:E cls none H):X.xe (.ref ea) {s with heap:=h1}:=by
 rw[D.xe];have stk:s.heap.FunFrames X.base X.stack:=I.stack;have hin:∀env∈X.stack,∀a,env.frame=some a->a∈frs X.stack:=λ env he a ha=>List.mem_filterMap.mpr ⟨env,he,ha⟩
 have stk2:=PySem.W.funFrames_hide stk hin;have hfr:=I.ok.frames;rw[D.stk]at hfr;have stk3:s.heap.FunFrames (PySem.W.hideAll s.heap (frs X.stack)) (X.env::X.outer):=by rw[<-D.stk];exact stk2
 refine wpAny_leaves_madeW (L:=X.env.locals) (base:=PySem.W.hideAll s.heap (frs X.stack)) hfr D.fr (λ b o q=>PySem.W.of_hideAll _ q) stk3 hx λ h' t fl tup bn up=>?_
 have hok:HOk X.prog X.w H (PySem.W.hideAll s.heap (frs X.stack)):=λ a o e=>by
  refine(I.hok a o e).stay (λ b u hb q=>PySem.W.hideAll_get _ q λ hm=>?_) (λ _ z=>z) λ _ _ z=>z
  have hn:=I.stkFree b hm;rcases hb with z|z
  ·rw[z,e]at hn;cases hn
  ·rw[z]at hn;cases hn
 obtain⟨u1,u2,u3⟩:=aFt (B:=PySem.W.hideAll s.heap (frs X.stack)) (h':=h') (H':=H) D.ex I (λ b o e n nf=>PySem.W.hideAll_get _ e nf) (λ b o e nf=>⟨o,PySem.W.hideAll_get _ e nf⟩) fl.1
  (λ b o hb e n nf=>up b o (hx.keeps b o e) nf) (λ b o e n=>n) (λ _ _ e=>e) (λ _ _ _ e=>e) (λ b ps e=>⟨#[],by rw[e];simp⟩)
 exact⟨ea,cls,.ref t,_,H,rfl,I.os,I.bare,u1,hok,fl,u2,u3,hE⟩
theorem dB.own(D:dB X E):PassesOwn (model X.prog X.w) X.A X.env X.xe:=λ e s' h=>by
 rw[D.xe]at h ⊢;exact wpAny_leaving_again (SameStack.refl _) h
end
section
variable{P:Program}{w:World}{K:PySem.W.Frag}{mg:Str->Option Value}{base:Heap}
theorem Fun.okX{st:Stmt}(F:Fun K x q st f fd)(S:ak N ps (aF st))(len:∀vs H Q E,sp vs H Q E->vs.length=ps.length)
  (hbody:∀(cdv:Value) (A:Around) (outer:List Env) (s:Shared) (H:Hp) (vs:List V) (Q:VK) (E:XK),dg k (A.deeper (envOfC q (aF st) s.heap.objs.size f cdv))->sp vs H Q E->
   ∃t,PSs (sr (CX1 P w) P w K mg base N q (aF st) f cdv A outer s H E) (cj st) t/\t {nx:=λ _ H'=>Q .non H',rt:=Q} (start N vs) H):cY P w K mg base (CX1 P w) (k+1) f fd ps sp:=by
 obtain⟨oc,od,kV,doc,pm,an,cdv,ct,osl,rfl,lk,hcd⟩:=F.ex;exact aLK lk hcd S len λ A outer s H vs Q E hr hsp=>hbody cdv A outer s H vs Q E hr hsp
end
def gk(K:PySem.W.Frag)(C:Addr):Prop:=PySem.W.excIn K C [.type "ValueError",.type "Exception",.type "BaseException",.type "object"] "ValueError.__new__"=true
theorem qg{K:PySem.W.Frag}(X:K.In h)(hm:mg x=some (.ref C))(q:gk K C):OwnCls x C [.type "ValueError",.type "Exception",.type "BaseException",.type "object"] "ValueError.__new__" mg h:=by
 refine⟨hm,?_⟩;unfold gk PySem.W.excIn at q;split at q
 ·rename_i dd cd sl ho
  split at q
  ·rename_i C' bm k0 k1 k2 k3 n k5 hm' hs
   simp only[Bool.and_eq_true,beq_iff_eq,Bool.not_eq_true']at q;obtain⟨⟨⟨⟨⟨rfl,rfl⟩,hdel⟩,ht⟩,hok⟩,hni⟩:=q;obtain⟨nm,bs,mro,ns,qn,hd,sn,sub,ab,col,del⟩:=cd;dsimp only at hm' hdel hok hni;subst hm' hdel;have hsl:sl=#[k0,k1,k2,k3,some (.builtin "ValueError.__new__"),k5]:=by
    obtain⟨l⟩:=sl;simp only at hs;rw[hs]
   subst hsl;exact⟨bm,ns,nm,qn,bs,hd,sn,sub,ab,col,dd,k0,k1,k2,k3,k5,_,X _ _ ho,.of_isNs (PySem.W.isNs_of_in X hok),PySem.W.nsMap_none_of_in X hok hni,PySem.W.tail_of_in X ht⟩
  ·cases q
 ·cases q
def aIi(C:Addr)(E:XK)(ta:TA):TS:=λ _ σ H=>ta σ H λ vs H1=>vs.length<=sizeLine/\E (.ref C) none H1
section
variable{X:Cx}{E:XK}
theorem aEk(D:dB X E)(hc:X.calm=true){rest:List Expr}(hm:X.mg x=some (.ref C))(hC:gk X.K C)(hg:Gl X x)
  (ha:PA X (e₀::rest) ta)(he:starEach (e₀::rest) X.env=(false,eval e₀ X.env)::starEach rest X.env:=by rfl)
  (hplain:(backTo cpos (starEach rest X.env)).any (·.1)=false:=by rfl)(hd:(x==("__debug__":Str))=false:=by decide):
  PS X (.Raise (some (.Call (.Name x np) (e₀::rest) [] cpos)) none pos) (aIi C E ta):=by
 intro pins s σ H DD I h;obtain⟨tl,NN,nm,q,bs,hdct,sn,sub,ab,col,dd,k0,k1,k2,k3,k5,mN,hCo,hN,hni,T⟩:=(qg (h:=X.base) I.mod.kin hm hC).obj;have FB:=PySem.F.excBase_ValueError;refine wpAny_Raise_call_subU (C:=C) (nm:=nm) (q:=q) (N:=NN) (bs:=bs) (bm:=tl) (hdct:=hdct) (sn:=sn) (sub:=sub) (ab:=ab) (col:=col) (dd:=dd) (k0:=k0) (k1:=k1) (k2:=k2) (k3:=k3) (k5:=k5)
  FB FB.hasB FB (mN:=mN) (T.hasType FB.hasBase) (I.ok.hd hc) (by rw[he];show(false||(backTo cpos (starEach rest X.env)).any (·.1))=false;rw[hplain];rfl) hni
  (m6 I hg hm ⟨rfl,?_⟩ hd)
 have harg:=ha cpos pins s σ H _ I h;rw[he]at harg ⊢;refine Calls.evalArgs_plain (wpAny_mono harg (λ vs s₂ h₂=>?_) λ _ _ y=>y);obtain⟨xs,H2,I2,rv,hz,hE⟩:=h₂;refine⟨rfl,by show vs.length<=sizeLine;rw[<-rv.length];exact hz,I2.bk _ _ hCo,hN.keeps I2.bk,T.keeps I2.bk,λ h' ea hx=>D.raise I2 hx hE⟩
end
section
variable(P:Program)(w:World)
end
section
variable{P:Program}{w:World}{H H':Hp}{h h':Heap}{a:Addr}{o:HO}
end
section
variable{P:Program}{w:World}{H:Hp}{h h':Heap}{x e:Addr}{o':HO}
end
section
variable{fs fs' ex ex':List Addr}{H H1 H2:Hp}{h h1 h2 h':Heap}{a x e:Addr}{o:HO}
end
section
variable{X:Cx}{pins:List (Addr×Obj)}{σ:List (Option V)}{H H':Hp}{s:Shared}{h':Heap}
end
section
variable{X:Cx}
variable{a b:Expr}{ta tb:TE}{pos:Pos}
variable{tA tB':TT}{rest:List Expr}
end
section
variable{X:Cx}{pins:List (Addr×Obj)}{σ:St}{H:Hp}{s:Shared}{a:Addr}{xs ys:List V}
end
section
variable{X:Cx}{pins:List (Addr×Obj)}{σ:St}{H:Hp}{s:Shared}{E:Value->Shared->Prop}
end
section
variable{X:Cx}{st:Stmt}{rest:List Stmt}{t u:TS}{e:Expr}{te:TE}{pos:Pos}
end
section
variable{X:Cx}{pos:Pos}
end
section
variable{X:Cx}{pos:Pos}
end
section
variable{X:Cx}{tg:Expr}
end
section
variable{X:Cx}{a b c:Expr}{ta tb tc:TE}{pos:Pos}
end
section
variable{X:Cx}{a b c:Expr}{ta tb tc:TE}{pos:Pos}
end
section
variable{prog:Program}{w:World}{A:Around}{E:Value->Shared->Prop}{s:Shared}{K:PySem.W.Frag}{x dx C f:Addr}{mA:Str->Option Value}{name:Str}{v:Value}
end
section
variable{P:Program}{w:World}{H H':Hp}{h h':Heap}{a C dx:Addr}{fs fs':List (Str×V)}
end
section
variable{X:Cx}{pins:List (Addr×Obj)}{σ:St}{H:Hp}{s:Shared}{a C dx:Addr}{fs:List (Str×V)}{f:Str}{v:V}{A:Around}{E:Value->Shared->Prop}
end
section
variable{X:Cx}{o e value:Expr}{f:Str}{pos pos' tpos:Pos}{ta tv:TE}
end
section
variable{X:Cx}{pins:List (Addr×Obj)}{σ:St}{H:Hp}{s:Shared}{A:Around}{E:Value->Shared->Prop}{Q:Value->Shared->Prop}{c:Value}{b:Bool}
end
section
variable{X:Cx}{e:Expr}{es:List Expr}{te:TE}{t:TA}{pos:Pos}
end
section
variable{X:Cx}{pins:List (Addr×Obj)}{σ:St}{H:Hp}{s s':Shared}
end
section
variable{X:Cx}{CX:CXT}{k:Nat}{f C:Addr}{fd:FuncData}{ps:List Str}{sp:Sp}{dvs:List V}{ds:List Value}{E:XK}{x m:Str}{p pos apos:Pos}{e o:Expr}{es:List Expr}{ta:TE}{t:TA}
end
section
variable{X:Cx}{CX:CXT}{k:Nat}{f C:Addr}{fd:FuncData}{ps ks:List Str}{sp:Sp}{E:XK}{x m:Str}{p pos apos kpos:Pos}{e o:Expr}{es:List Expr}{kws:List Keyword}{te ta:TE}{t tk:TA}{nm:Option Str}
variable{g:List Value->List Value->List Value}{gV:List V->List V->List V}
end
section
variable{X:Cx}{x:Str}{p pos:Pos}{e:Expr}{es:List Expr}{t:TA}{id T:String}{r:List V->Hp->VK->Prop}
end
section
variable{κ:Type}[DecidableEq κ]
def sO(kvs:List (κ×V))(k:κ):Option V:=(kvs.find? λ kv=>decide (kv.1=k)).map (·.2)
def putK(kvs:List (κ×V))(k:κ)(v:V):List (κ×V):=
 if (kvs.any λ kv=>decide (kv.1=k))=true then kvs.map (λ kv=>if kv.1=k then(kv.1,v)else kv)else kvs++[(k,v)]
theorem tV{p:κ×V}{r:List (κ×V)}{k:κ}(e:p.1=k):sO (p::r) k=some p.2:=by simp[sO,List.find?_cons,e]
theorem tW{p:κ×V}{r:List (κ×V)}{k:κ}(e:¬p.1=k):sO (p::r) k=sO r k:=by simp[sO,List.find?_cons,e]
theorem rP(kvs:List (κ×V))(k:κ)(v:V):(putK kvs k v).length<=kvs.length+1:=by
 unfold putK;split
 ·rw[List.length_map];omega
 ·rw[List.length_append,List.length_cons,List.length_nil];omega
theorem qH.isSome_eq{o:Option V}{u:Option Value}(r:qH o u):o.isSome=u.isSome:=by
 cases o with
 |none=>cases u with
  |none=>rfl
  |some _=>exact(show False from r).elim
 |some _=>cases u with
  |none=>exact(show False from r).elim
  |some _=>rfl
theorem KV.val{kvs:List (κ×V)}{vs:List (κ×Value)}(r:KV kvs vs)(k:κ):qH (sO kvs k) (valueAt vs k):=by
 unfold KV at r;induction r with
 |nil=>exact True.intro
 |@cons p q ps qs h t ih=>
  obtain⟨h1,h2⟩:=h;by_cases e:p.1=k
  ·have e':q.1=k:=h1.symm.trans e
   have b:valueAt (q::qs) k=some q.2:=by simp[valueAt,List.find?_cons,e']
   rw[tV e,b];exact h2
  ·have e':¬q.1=k:=λ z=>e (h1.trans z)
   have b:valueAt (q::qs) k=valueAt qs k:=by simp[valueAt,List.find?_cons,e']
   rw[tW e,b];exact ih
theorem KV.any{kvs:List (κ×V)}{vs:List (κ×Value)}(r:KV kvs vs)(k:κ):(kvs.any λ kv=>decide (kv.1=k))=vs.any λ kv=>decide (kv.1=k):=by
 unfold KV at r;induction r with
 |nil=>rfl
 |cons h t ih=>rw[List.any_cons,List.any_cons,ih,h.1]
theorem KV.repl{kvs:List (κ×V)}{vs:List (κ×Value)}(r:KV kvs vs)(k:κ){y:V}{u:Value}(ry:RelV y u):
  KV (kvs.map λ kv=>if kv.1=k then(kv.1,y)else kv) (vs.map λ kv=>if kv.1=k then(kv.1,u)else kv):=by
 unfold KV at r ⊢;induction r with
 |nil=>exact .nil
 |@cons p q ps qs h t ih=>
  rw[List.map_cons,List.map_cons];refine .cons ?_ ih;obtain⟨h1,h2⟩:=h;by_cases e:p.1=k
  ·rw[if_pos e,if_pos (h1.symm.trans e)];exact⟨h1,ry⟩
  ·rw[if_neg e,if_neg (λ z=>e (h1.trans z))];exact⟨h1,h2⟩
theorem KV.put{kvs:List (κ×V)}{vs:List (κ×Value)}(r:KV kvs vs)(k:κ){y:V}{u:Value}(ry:RelV y u):KV (putK kvs k y) (stored vs k u):=by
 unfold putK stored;rw[r.any k];by_cases e:(vs.any λ kv=>decide (kv.1=k))=true
 ·rw[if_pos e,if_pos e];exact r.repl k ry
 ·rw[if_neg e,if_neg e];exact Paired.snoc r ⟨rfl,ry⟩
theorem KV.length{kvs:List (κ×V)}{vs:List (κ×Value)}(r:KV kvs vs):kvs.length=vs.length:=Paired.length r
end
theorem aCq{P:Program}{w:World}{k:Key}{u:Value}(r:RelV (kV k) u):(dJ P w).is k u=true:=by
 cases k with
 |inl i=>obtain⟨t,e⟩:=(show∃t,u=Value.int i t from r);subst e;exact aAM P w i t
 |inr x=>obtain⟨t,e⟩:=(show∃t,u=Value.str x t from r);subst e;exact aAL P w x t
theorem wj{P:Program}{w:World}:∀{ks:List Key} {us:List Value},Vals (ks.map kV) us->ItemsAre (dJ P w) ks us
 |[],_,r=>by rw[List.map_nil]at r;cases r;exact .nil
 |k::ks,_,r=>by
  rw[List.map_cons]at r;cases r with
  |cons h t=>exact .cons (aCq h) (wj t)
abbrev KT(H:Hp):List (List Key×V)->List (List Key×Addr×Value)->Prop:=Paired λ p q=>p.1=q.1/\H q.2.1=some (.tup (p.1.map kV))/\RelV p.2 q.2.2
theorem KT.val{H:Hp}{kvs:List (List Key×V)}{xs:List (List Key×Addr×Value)}(r:KT H kvs xs)(k:List Key):qH (sO kvs k) ((atKey xs k).map (·.2)):=by
 induction r with
 |nil=>exact True.intro
 |@cons p q ps qs h t ih=>
  obtain⟨h1,_,h2⟩:=h;by_cases e:p.1=k
  ·have e':q.1=k:=h1.symm.trans e
   have b:atKey (q::qs) k=some q.2:=by simp[atKey,List.find?_cons,e']
   rw[tV e,b];exact h2
  ·have e':¬q.1=k:=λ z=>e (h1.trans z)
   have b:atKey (q::qs) k=atKey qs k:=by simp[atKey,List.find?_cons,e']
   rw[tW e,b];exact ih
section
variable{P:Program}{w:World}{H:Hp}{h:Heap}{a:Addr}
theorem aIJ{u:HO}(ok:HOk P w H h)(e:Rd H a u):bw P w H h a u:=e.ok ok
theorem aDB{kvs:List (Key×V)}(ok:HOk P w H h)(e:Rd H a (.dK kvs)):kvs.length<=sizeLine/\(a==sysModules)=false/\∃vs,KV kvs vs/\h.DictOf (dJ P w) a vs:=
 show bw P w H h a (.dK kvs)from aIJ ok e
theorem aLL{kvs:List (Key×V)}(ok:HOk P w H h)(e:H a=some (.dK kvs)):kvs.length<=sizeLine/\(a==sysModules)=false/\∃vs,KV kvs vs/\h.DictOf (dJ P w) a vs:=aDB ok (.inl e)
theorem aCA{ks:List Key}(ok:HOk P w H h)(e:H a=some (.tup (ks.map kV))):(tupleKind (dJ P w)).is h ks a:=by
 obtain⟨_,its,r,o,h1,h2,n,h3⟩:=(show bw P w H h a (.tup (ks.map kV))from ok a _ e);exact⟨o,its.toArray,n,h1,h2,h3,by simpa using wj r⟩
theorem aFw{kvs:List (List Key×V)}(ok:HOk P w H h)(e:Rd H a (.dT kvs)):kvs.length<=sizeLine/\(a==sysModules)=false/\
  ∃xs,KT H kvs xs/\h.DictOfH (tupleKind (dJ P w)) a xs:=by
 obtain⟨z,y,xs,r,o,es,ep,h1,h2,h3,h4,h5⟩:=(show bw P w H h a (.dT kvs)from aIJ ok e);refine⟨z,y,xs,r,o,es,ep,h1,h2,h3,h4,λ x hx=>?_,h5⟩;have all:∀{l:List (List Key×V)} {m:List (List Key×Addr×Value)},KT H l m->∀x∈m,(tupleKind (dJ P w)).is h x.1 x.2.1:=by
  intro l m q;induction q with
  |nil=>intro x hx;exact nomatch hx
  |@cons p q ps qs hq t ih=>
   intro x hx;rcases List.mem_cons.mp hx with e|hx
   ·subst e
    exact aCA ok (by rw[<-hq.1];exact hq.2.1)
   ·exact ih x hx
 exact all r x hx
end
def vZ(H:Hp)(a:Addr)(y:V)(r:Option V):Prop:=
 (∃kvs k,Rd H a (.dK kvs)/\y=kV k/\r=sO kvs k)\/∃kvs k b,Rd H a (.dT kvs)/\y= .ref b/\H b=some (.tup (k.map kV))/\r=sO kvs k
theorem vZ.k{H:Hp}{a:Addr}{kvs:List (Key×V)}{k:Key}(e:H a=some (.dK kvs)):vZ H a (kV k) (sO kvs k):=.inl ⟨kvs,k,.inl e,rfl,rfl⟩
section
variable{X:Cx}{pins:List (Addr×Obj)}{σ:St}{H:Hp}{s:Shared}{a:Addr}{y v:V}{u r:Value}{o:Option V}{A:Around}{E:Value->Shared->Prop}
theorem aDn{Q:Value->Shared->Prop}(hu:A.units+1<cLine)(I:Inv X pins σ H s)(g:vZ H a y (some v))(ry:RelV y u)(h:∀w' s',Inv X pins σ H s'->RelV v w'->Q w' s'):
  wpAny (model X.prog X.w) A (getItem (.ref a) u) Q E s:=by
 rcases g with ⟨kvs,k,e,ey,l⟩|⟨kvs,k,b,e,ey,eb,l⟩
 ·subst ey
  obtain⟨z,hd,vs,rel,dd⟩:=aDB I.hok e;obtain⟨w',hw,rw'⟩:=qH.some_of (v:=v) (o:=valueAt vs k) (by rw[l];exact rel.val k);exact wpAny_getItem_of (aCq ry) dd.mapOf hw (h w' _ (I.tok _) rw')
 ·subst ey
  cases (show u=Value.ref b from ry);obtain⟨z,hd,xs,rel,dd⟩:=aFw I.hok e;obtain⟨w',hw,rw'⟩:=qH.some_of (v:=v) (o:=(atKey xs k).map (·.2)) (by rw[l];exact rel.val k);obtain⟨p,hp,hp2⟩:=Option.map_eq_some_iff.mp hw;refine wpAny_getItem_heap (tupleKind_room_in1 hu) (aCA I.hok eb) dd hp ?_;rw[hp2];exact h w' _ (I.tok _) rw'
theorem aLg{Q:Value->Shared->Prop}(hu:A.units+1<cLine)(I:Inv X pins σ H s)(g:vZ H a y o)(ry:RelV y u)(h:∀s',Inv X pins σ H s'->Q (.bool o.isSome) s'):
  wpAny (model X.prog X.w) A (compareOp .In u (.ref a)) Q E s:=by
 rcases g with ⟨kvs,k,e,ey,l⟩|⟨kvs,k,b,e,ey,eb,l⟩
 ·subst ey
  obtain⟨z,hd,vs,rel,dd⟩:=aDB I.hok e;refine wpAny_in_of (aCq ry) hd dd.mapOf ?_;rw[<-(rel.val k).isSome_eq,<-l];exact h _ (I.tok _)
 ·subst ey
  cases (show u=Value.ref b from ry);obtain⟨z,hd,xs,rel,dd⟩:=aFw I.hok e;refine wpAny_in_heap (tupleKind_room_in1 hu) (aCA I.hok eb) hd dd ?_;have q:=(rel.val k).isSome_eq;rw[Option.isSome_map]at q;rw[<-q,<-l];exact h _ (I.tok _)
theorem aHn{h':Heap}{t':Nat}{ob:HO}(I:Inv X pins σ H s)(mu:Mut (H a))(hs:Heap.SameBut a s.heap h')(he:∃q,h'.get? a=some q)(new:bw X.prog X.w (upd H a ob) h' a ob):
  Inv X pins σ (upd H a ob) {s with heap:=h',toks:=t'}:=
 I.write (x:=a) (e:=a) mu (.inl rfl) (λ b q hb z=>(hs.2 b hb).trans z) he new
theorem aKH{P:Program}{w:World}{H':Hp}{h':Heap}{kvs:List (Key×V)}{vs:List (Key×Value)}(z:kvs.length<=sizeLine)(hd:(a==sysModules)=false)(rel:KV kvs vs)(dd:h'.DictOf (dJ P w) a vs):
  bw P w H' h' a (.dK kvs):=⟨z,hd,vs,rel,dd⟩
end
section
variable{X:Cx}{pins:List (Addr×Obj)}{σ:St}{H:Hp}{s:Shared}{a:Addr}{kvs:List (Key×V)}{k:Key}{u:Value}{A:Around}{E:Value->Shared->Prop}
end
def aLW(i:Expr):Prop:=∀ov iv,subscripted i false ov iv=operate [ov,iv] (getItem ov iv)
theorem aGX{prog:Program}{w:World}{A:Around}{E:Value->Shared->Prop}{s:Shared}{env:Env}{value slice:Expr}{pos:Pos}{T id:String}{Q:Value->Shared->Prop}
  (hl:typeLookup (.type T) "__getitem__"=pure (some (.builtin id)))(hs:aLW slice)
  (h:wpAny (model prog w) A (eval value env) (λ o s₁=>wpAny (model prog w) A (eval slice env) (λ i s₂=>s₂.TypeIs o T/\wpAny (model prog w) A (getItem o i) Q E s₂) E s₁) E s):
  wpAny (model prog w) A (eval (.Subscript value slice pos) env) Q E s:=by
 refine Subscript_ (wpAny_mono h (λ o s₁ h₁=>wpAny_mono h₁ (λ i s₂ h₂=>?_) λ _ _ x=>x) λ _ _ x=>x);obtain⟨hT,h₂⟩:=h₂;unfold subscriptTail;refine wpAny_bind ?_;rw[getitemInPython_of_ne hT.not_modules];refine wpAny_bind (wpAny_specialOf hT hl ?_);have fin:wpAny (model prog w) A (subscripted slice false o i) (λ r s₃=>wpAny (model prog w) A (letTemporaryGo value o r>>=λ _=>pure r) Q E s₃) E s₂:=by
  rw[hs o i];exact wpAny_operating (wpAny_mono h₂ (λ r s₃ h₃=>wpAny_bind (wpAny_letTemporaryGo (wpAny_pure h₃))) λ _ _ x=>x)
 first
  |exact wpAny_pure (wpAny_bind fin)
  |exact wpAny_bind (wpAny_pure (wpAny_bind fin))
  |exact wpAny_bind fin
theorem aAi{X:Cx}{pins:List (Addr×Obj)}{σ:St}{H:Hp}{s:Shared}{a:Addr}{y:V}{o:Option V}(I:Inv X pins σ H s)(g:vZ H a y o):s.TypeIs (.ref a) "dict":=by
 rcases g with ⟨kvs,k,e,_,_⟩|⟨kvs,k,b,e,_,_,_⟩
 ·obtain⟨_,_,vs,_,dd⟩:=aDB I.hok e
  exact dd.typeIs
 ·obtain⟨_,_,xs,_,dd⟩:=aFw I.hok e
  exact dd.typeIs
def aK5(td ty:TE):TE:=λ σ H Q=>td σ H λ x H1=>ty σ H1 λ y H2=>∃a v,x= .ref a/\vZ H2 a y (some v)/\Q v H2
section
variable{X:Cx}{o i e value:Expr}{pos pos' tpos:Pos}{td ty tv:TE}
theorem aGs(hu:X.A.units+1<cLine)(ho:PE X o td)(hi:PE X i ty)(hs:aLW i):PE X (.Subscript o i pos) (aK5 td ty):=by
 intro pins s σ H Q I h;refine aGX PySem.F.slot_dict_getitem.lookup hs (thn (ho pins s σ H _ I h) λ u s1 ⟨x,H1,I1,rx,q1⟩=>thn (hi pins s1 σ H1 _ I1 q1) λ iv s2 ⟨y,H2,I2,ry,a,v,ex,g,q2⟩=>?_);subst ex;obtain rfl:u=Value.ref a:=rx;exact⟨aAi I2 g,aDn hu I2 g ry λ w' s3 I3 rw'=>⟨v,H2,I3,rw',q2⟩⟩
end
section
variable{X:Cx}{pos:Pos}
end
section
variable{X:Cx}{pins:List (Addr×Obj)}{σ:St}{H:Hp}{s:Shared}{a:Addr}{y d:V}{u r:Value}{o:Option V}{A:Around}{E:Value->Shared->Prop}
end
section
variable{X:Cx}{o e f:Expr}{apos cpos:Pos}{td ty tx:TE}
end
section
variable{X:Cx}{pins:List (Addr×Obj)}{σ:St}{H:Hp}{s:Shared}{a:Addr}{kvs:List (Key×V)}{A:Around}{E:Value->Shared->Prop}
end
section
variable{X:Cx}{pins:List (Addr×Obj)}{σ:St}{H:Hp}{s:Shared}{a:Addr}{y:V}{u:Value}{A:Around}{E:Value->Shared->Prop}
end
end L2
namespace Att
open PySem PySem.W PySem.Calls PyProof.Rows
section
variable{prog:Program}{w:World}{A:Around}{E:Value->Shared->Prop}{s:Shared}{K:Frag}
end
end Att
namespace L2
open PySem PySem.Spec PyProof.Rows
section
variable{P:Program}{w:World}{K:PySem.W.Frag}{mg:Str->Option Value}{base:Heap}
end
section
variable{X:Cx}
end
section
variable{κ:Type}[DecidableEq κ]
end
theorem vy{pos:Pos}{a b:Int}{c cv:Value}(l:List Value)(h:TriplesOk l)(e:codeAmong pos (l++[rawInt a,rawInt b,c])=some cv):codeAmong pos l=some cv\/cv=c:=by
 fun_induction TriplesOk l with
 |case1=>
  simp only[List.nil_append,codeAmong,rawInt]at e;split at e
  ·exact .inr (Option.some.inj e).symm
  ·cases e
 |case2 a' t b' u x rest ih=>
  simp only[List.cons_append,codeAmong]at e ⊢;split at e
  ·rename_i hc;rw[if_pos hc];exact .inl e
  ·rename_i hc;rw[if_neg hc];exact ih h e
 |case3 l h1 h2=>exact h.elim
abbrev Cx.noT(X:Cx):Cx:={X with ta:=[]}
section
variable{X:Cx}{pins:List (Addr×Obj)}{σ:St}{H:Hp}{s:Shared}
theorem Inv.noT(I:Inv X pins σ H s):Inv X.noT pins σ H s:=
 ⟨⟨I.ok.mod,I.ok.kind,I.ok.glob,I.ok.blt,I.ok.above,I.ok.inj,I.ok.has,I.ok.cab,I.ok.hd,I.ok.frames,I.ok.stk,I.ok.exf,I.ok.bs,I.ok.bsz,I.ok.noex,I.ok.exfs,I.ok.funs,I.ok.frf⟩,
  I.os,I.bare,I.base,I.loc,I.cell,I.free,I.freeC,I.pin,I.hok,I.len,λ p hp=>absurd (show p∈([]:List (Addr×Obj))from hp) (by simp)⟩
theorem Inv.ofT{H':Hp}{s':Shared}(I:Inv X pins σ H s)(J:Inv X.noT pins σ H' s')(t:∀p∈X.ta,H' p.1=none/\p.1≠X.env.locals/\p.1∉X.fs/\(∀q∈X.pn++pins,q.1≠p.1)/\∃ps,s'.heap.get? p.1=some {cls:=.none,data:=.fields ps}/\TabOk X.tq H' ps):Inv X pins σ H' s':=
 ⟨I.ok,J.os,J.bare,J.base,J.loc,J.cell,J.free,J.freeC,J.pin,J.hok,J.len,t⟩
structure sJ(X:Cx)(P:Addr):Prop where
 ta:∃o,X.ta=[(P,o)]
 ex:P∈X.ex
 tq:X.tq=X.env.qual++"<lambda>"
 code:∃c,X.env.code= .ref c/\PySem.W.CodeHd X.base c P
 blt:X.base.BuiltinsAt X.mg P
 gne:mainGlobals≠P
def aAw(q:Str)(params:Arguments)(body:Expr)(scope:Scope)(cl:List (Str×Addr))(pm:Value)(H:Hp)(f c':Addr)(ctv:Value):Prop:=
 H f=some (.frz (PySem.W.kla_obj "<lambda>" q params body scope cl pm c' ctv) (.own f))/\∃oc,H c'=some (.frz oc (.own c'))/\aI6 q oc
theorem aFV{P:Addr}{params:Arguments}{body:Expr}{scope:Scope}{pos:Pos}{Q:Value->Shared->Prop}{E:Value->Shared->Prop}(Lx:sJ X P)(I:Inv X pins σ H s)(hdef:defaultsOf params X.env=([],[]))
  (hfree:∀y∈scope.names,y.2= .free->X.env.kindOf y.1=some .cell\/X.env.kindOf y.1=some .free)
  (h:∀(f c':Addr) (ctv:Value) (H':Hp) (s':Shared),Inv X pins σ H' s'->aU H H'->aAw X.tq params body scope (aq scope X.env) ((X.mg "__name__").getD .none) H' f c' ctv->Q (.ref f) s'):
  wpAny (model X.prog X.w) X.A (eval (.Lambda params body scope pos) X.env) Q E s:=by
 obtain⟨o0,hta⟩:=Lx.ta;obtain⟨c,hcode,hC⟩:=Lx.code;obtain⟨hPn,hPL,hPf,hPp,ps,hP,ht⟩:=I.tab (P,o0) (by rw[hta];exact List.mem_cons_self);dsimp only at hPn hPL hPf hPp hP;have hcl:closureFor scope X.env=pure (aq scope X.env):=gW λ y hy hk=>I.ok.has _ (hfree y hy hk)
 have hgs:s.heap.Ns mainGlobals X.mg:=by
  obtain⟨o,es,ep,e,r⟩:=I.ok.mod.glob;exact⟨o,es,ep,I.bk _ _ e,r⟩
 have hC':PySem.W.CodeHd s.heap c P:=hC.keeps I.bk;have hb:s.heap.BuiltinsAt X.mg P:=by
  obtain⟨bm,ob,b1,b2,b3,b4,b5,b6⟩:=Lx.blt;exact⟨bm,ob,b1,b2,b3,b4,I.bk _ _ b5,b6⟩
 refine PySem.W.kla_eval hdef ?_;rw[<-Lx.tq];cases hf:codeAmong pos ps.toList with
 |some cv=>
  obtain⟨c',oc,rfl,hc',hco⟩:=ht.2 pos cv hf;refine PySem.W.kla_makeFunctionHit hcl I.ok.glob hgs hcode hC' hP ht.1 hf hb λ ctv h' tk k hsz=>?_
  have hfr:H h'.objs.size=none:=I.hok.fresh hsz;have sm:aU H (upd H h'.objs.size (.frz (PySem.W.kla_obj "<lambda>" X.tq params body scope (aq scope X.env) ((X.mg "__name__").getD .none) c' ctv) (.own h'.objs.size))):=λ b u e=>by rw[aV (bD e hfr)];exact e
  have I':=I.laid (h':=h'.push (PySem.W.kla_obj "<lambda>" X.tq params body scope (aq scope X.env) ((X.mg "__name__").getD .none) c' ctv)) (t':=tk) (a:=h'.objs.size) (o:=.frz (PySem.W.kla_obj "<lambda>" X.tq params body scope (aq scope X.env) ((X.mg "__name__").getD .none) c' ctv) (.own h'.objs.size)) (λ b u e=>Heap.get?_push_of_some _ (k b u e)) hsz
   ⟨Heap.get?_push_size _ rfl,_,Heap.get?_push_size _ rfl⟩
  exact h _ c' ctv _ _ I' sm ⟨au,oc,sm _ _ hc',hco⟩
 |none=>
  refine PySem.W.kla_makeFunction hcl I.ok.glob hgs hcode hC' hP ht.1 hf Lx.gne hb λ c' ctv h' tk hx hge hlt hrec htb=>?_
  obtain⟨c2,oc,vs,t,e2,hoc,hd,hv⟩:=hrec;cases e2;have hcn:H c'=none:=I.hok.fresh hge;have hfn:H h'.objs.size=none:=I.hok.fresh (Nat.le_trans hge (Nat.le_of_lt hlt));have neT:∀b u,H b=some u->b≠c':=λ b u e=>bD e hcn
  have neP:∀b u,H b=some u->b≠P:=λ b u e=>bD e hPn
  have sm:aU H (upd H c' (.frz oc (.own c'))):=λ b u e=>by rw[aV (neT b u e)];exact e
  have hcne:∀x a,X.env.cells.lookup x=some a->a≠P:=λ x a e z=>by
   obtain⟨v,o,ho,hdd⟩:=I.cell x a e;rw[z,hP]at ho;cases ho;cases hdd
  have J:Inv X.noT pins σ (upd H c' (.frz oc (.own c'))) {s with heap:=h',toks:=tk}:=by
   refine I.noT.step (g':=s.gens) (d':=s.drawn) (ch:=[P]) (λ b hb'=>?_) (λ b o _ _ hc e _=>hx b o (λ z=>hc (by simp[z])) e) (λ b o _ _ hc e _=>⟨o.slots,hx b o (λ z=>hc (by simp[z])) e⟩)
    (λ b o _ e n=>by rw[aV (Nat.ne_of_lt (Nat.lt_of_lt_of_le (Heap.lt_size e) hge))];exact n) (λ b o hc e=>⟨o,hx b o (λ z=>hc (by simp[z])) e⟩)
    (λ b xs e=>sm _ _ e) (λ b o u e=>sm _ _ e) (λ b ps e=>⟨#[],by rw[sm _ _ e];simp⟩) (λ m hm=>hm.extBut hx (λ z=>hPL z.symm)) (λ b u e=>?_) I.bare
   ·have e:b=P:=by simpa using hb'
    subst e;exact⟨.inl Lx.ex,hPL,λ x c e=>hcne x c e,λ p hp=>hPp p hp⟩
   ·by_cases hbc:b=c'
    ·subst hbc
     rw[au]at e;cases e;exact⟨hoc,oc,hoc⟩
    ·rw[aV hbc]at e
     refine(I.hok b u e).stay (λ d v hd' q=>hx d v ?_ q) (λ d q=>sm _ _ q) λ d xs q=>sm _ _ q
     rcases hd' with z|z
     ·rw[z];exact neP b u e
     ·exact neP d _ z
  have I':=I.ofT J λ p hp=>by
   rw[hta]at hp;have e:p=(P,o0):=by simpa using hp
   subst e;refine⟨by rw[aV (Nat.ne_of_lt (Nat.lt_of_lt_of_le (Heap.lt_size hP) hge))];exact hPn,hPL,hPf,hPp,_,htb,?_⟩;refine⟨?_,λ pos2 cv e=>?_⟩
   ·rw[Array.toList_append]
    exact TriplesOk_snoc _ _ _ _ ht.1
   ·rw[Array.toList_append]at e
    rcases vy _ ht.1 e with z|z
    ·obtain⟨c2,oc2,z1,z2,z3⟩:=ht.2 pos2 cv z
     exact⟨c2,oc2,z1,sm _ _ z2,z3⟩
    ·exact⟨c',oc,z,au,vs,t,hd,hv⟩
  have hfr:upd H c' (.frz oc (.own c')) h'.objs.size=none:=by rw[aV (Nat.ne_of_gt hlt)];exact hfn
  have sm2:aU (upd H c' (.frz oc (.own c'))) (upd (upd H c' (.frz oc (.own c'))) h'.objs.size (.frz (PySem.W.kla_obj "<lambda>" X.tq params body scope (aq scope X.env) ((X.mg "__name__").getD .none) c' ctv) (.own h'.objs.size))):=λ b u e=>by rw[aV (bD e hfr)];exact e
  have I2:=I'.laid (h':=h'.push (PySem.W.kla_obj "<lambda>" X.tq params body scope (aq scope X.env) ((X.mg "__name__").getD .none) c' ctv)) (t':=tk) (a:=h'.objs.size) (o:=.frz (PySem.W.kla_obj "<lambda>" X.tq params body scope (aq scope X.env) ((X.mg "__name__").getD .none) c' ctv) (.own h'.objs.size)) (λ b u e=>Heap.get?_push_of_some _ e) (Nat.le_refl _)
   ⟨Heap.get?_push_size _ rfl,_,Heap.get?_push_size _ rfl⟩
  exact h _ c' ctv _ _ I2 (sm.trans sm2) ⟨au,oc,sm2 _ _ au,vs,t,hd,hv⟩
def aL6(q:Str)(params:Arguments)(body:Expr)(scope:Scope)(cl:List (Str×Addr))(pm:Value):TE:=λ σ H Q=>∀f c' ctv H',aU H H'->aAw q params body scope cl pm H' f c' ctv->Q (.ref f) H'
theorem aJR{P:Addr}{params:Arguments}{body:Expr}{scope:Scope}{pos:Pos}(Lx:sJ X P)(hdef:defaultsOf params X.env=([],[]))
  (hfree:∀y∈scope.names,y.2= .free->X.env.kindOf y.1=some .cell\/X.env.kindOf y.1=some .free):PE X (.Lambda params body scope pos) (aL6 X.tq params body scope (aq scope X.env) ((X.mg "__name__").getD .none)):=
 λ pins s σ H Q I h=>aFV Lx I hdef hfree λ f c' ctv H' s' I' sm l=>⟨.ref f,H',I',rfl,h f c' ctv H' sm l⟩
end
def aBJ(X:Cx)(k0:Nat)(i:Nat)(E:XK):TE:=λ σ H Q=>∃f cls dd sl fd k sp,σ[i]? =some (some (.ref f))/\H f=some (.frz ⟨cls,dd,.func fd,sl⟩ (.own f))/\cY X.prog X.w X.K X.mg X.base (CX1 X.prog X.w) k f fd [] sp/\k<=k0/\Binds X.K fd [] []/\sp [] H Q E
theorem aEr{X:Cx}{k0 i:Nat}{y:Str}{p pos:Pos}{E:XK}(hr:dg k0 X.A)(hx:o8 (CX1 X.prog X.w) X E)(hN:X.N[i]? =some y)(hv:Vis X.env.scope y)(hd:(y==("__debug__":Str))=false:=by decide)(hcd:(y==("__classdict__":Str))=false:=by decide):
  PE X (.Call (.Name y p) [] [] pos) (aBJ X k0 i E):=by
 intro pins s σ H Q I ⟨f,cls,dd,sl,fd,k,sp,hs,hf,F,hk,hb,h⟩;have fin:wpAny (model X.prog X.w) X.A (eval (.Name y p) X.env) (λ v s'=>v= .ref f/\s'=s) X.xe s:=by
  obtain⟨mm,hnn,hl⟩:=I.loc;obtain⟨u,ru,l⟩:=hl i y _ hN hs hv;cases ru;rcases l with ⟨hk2,hm⟩|⟨hk2,c,hc,hcell⟩
  ·exact wpAny_Name (wpAny_loadName_local I.ok.kind hk2 hnn hm ⟨rfl,rfl⟩) hd
  ·rcases hk2 with hk2|hk2
   ·exact wpAny_Name (wpAny_loadName_cell I.ok.kind hk2 hc hcell ⟨rfl,rfl⟩) hd
   ·exact wpAny_Name (wpAny_loadName_free I.ok.kind hk2 hc hcell ⟨rfl,rfl⟩ hcd) hd
 refine wpAny_Call_Name_kw (thn fin λ v s' ⟨ev,es'⟩=>?_);subst ev es';obtain⟨ho,_⟩:s'.heap.get? f=some _/\_:=I.hok f _ hf;have KX:PySem.W.Frag.In [(f,⟨cls,dd,.func fd,sl⟩)] s'.heap:=λ b o e=>by
  rw[List.lookup_cons]at e;by_cases hbf:b=f
  ·subst hbf
   simp only[beq_self_eq_true]at e;cases e;exact ho
  ·simp only[beq_eq_false_iff_ne.mpr hbf]at e
   cases e
 exact PySem.W.callWith_K0 (K:=[(f,⟨cls,dd,.func fd,sl⟩)]) KX (by simp[PySem.W.keepIn,List.lookup_cons]) (aE1 (us:=[]) F (hr.mono hk) hb .nil hx I .nil h)
def cxL(P:Program)(w:World)(K:PySem.W.Frag)(mg:Str->Option Value)(base:Heap)(N:List Str)(q:Str)(scope:Scope)(cl:List (Str×Addr))(f:Addr)(cd:Value)(A:Around)(outer:List Env)(s:Shared)(H:Hp)(E:XK):Cx where
 prog:=P
 w:=w
 K:=K
 mg:=mg
 base:=base
 A:=A.deeper (PySem.W.envX q scope s.heap.objs.size f cd cl)
 N:=N
 s₀:=s
 H₀:=H
 env:=PySem.W.envX q scope s.heap.objs.size f cd cl
 outer:=outer
 stack:=PySem.W.envX q scope s.heap.objs.size f cd cl::outer
 ex:=[]
 calm:=true
 fn:=λ _=>false
 pn:=[]
 xe:=λ e s'=>wpAny (model P w) (A.deeper (PySem.W.envX q scope s.heap.objs.size f cd cl)) (leaving (PySem.W.envX q scope s.heap.objs.size f cd cl) e) (λ _ s''=>CX1 P w outer H s E e s'') (λ e' s''=>CX1 P w outer H s E e' s'') s'
theorem dB.ofL{P:Program}{w:World}{K:PySem.W.Frag}{mg:Str->Option Value}{base:Heap}{N:List Str}{q:Str}{scope:Scope}{cl:List (Str×Addr)}{f:Addr}{cd:Value}{A:Around}{outer:List Env}{s:Shared}{H:Hp}{E:XK}:
  dB (cxL P w K mg base N q scope cl f cd A outer s H E) E:=⟨rfl,rfl,rfl,rfl⟩
structure vX(scope:Scope):Prop where
 kind:scope.kind= .function
 co:scope.isCoroutine=false
 gen:scope.isGenerator=false
 cell:∀y∈scope.names,y.2≠.cell
 loc:∀y∈scope.names,y.2≠.local
structure aGS(base:Heap)(N:List Str)(σ:St)(scope:Scope)(cl:List (Str×Addr)):Prop where
 inj:∀x y c,cl.lookup x=some c->cl.lookup y=some c->x=y
 has:∀x,scope.names.lookup x=some .free->∃c,cl.lookup x=some c
 cell:∀x c,cl.lookup x=some c->∃v,base.IsCell c v
 val:∀(i:Nat) x v,N[i]? =some x->σ[i]? =some (some v)->scope.names.lookup x=some .free->∃c u,cl.lookup x=some c/\RelV v u/\base.IsCell c (some u)
 len:σ.length=N.length
theorem aJk{P:Program}{w:World}{K:PySem.W.Frag}{mg:Str->Option Value}{base:Heap}{N:List Str}{q:Str}{params:Arguments}{scope:Scope}{cl:List (Str×Addr)}{f c':Addr}{pm ctv:Value}{body:Expr}{k:Nat}{σ:St}{H1:Hp}{sp:Sp}
  (la:aAw q params body scope cl pm H1 f c' ctv)(S:vX scope)(cp:aGS base N σ scope cl)
  (len:∀vs H Q E,sp vs H Q E->vs=[]/\aU H1 H)
  (hbody:∀(A:Around) (outer:List Env) (s:Shared) (H:Hp) (Q:VK) (E:XK),dg k (A.deeper (PySem.W.envX q scope s.heap.objs.size f (.ref c') cl))->sp [] H Q E->∃te,PE (cxL P w K mg base N q scope cl f (.ref c') A outer s H E) body te/\te σ H Q):
  cY P w K mg base (CX1 P w) (k+1) f (PySem.W.kla_fn "<lambda>" q params body scope cl pm (.ref c') ctv) [] sp:=by
 refine⟨λ vs H Q E h=>by rw[(len vs H Q E h).1];rfl,λ A outer s H args us vs Q E hr e0 hb r hsp=>?_⟩;obtain⟨rfl,hsm⟩:=len _ _ _ _ hsp;obtain⟨te,hpe,hte⟩:=hbody A outer s H Q E (hr.deeper _) hsp;have hlim:s.heap.NoLimit:=e0.mod.nolimit.keeps λ b o e=>(e0.bs b o e).1
 obtain⟨hf,oc,hc,hco⟩:=la;obtain⟨ho,_⟩:s.heap.get? f=some _/\_:=e0.hok f _ (hsm _ _ hf);obtain⟨hoc,_⟩:s.heap.get? c'=some oc/\_:=e0.hok c' _ (hsm _ _ hc);obtain⟨vs,t,hd,hv⟩:=hco;refine PySem.W.kla_callFunE hr.depth ho rfl S.co S.gen rfl ⟨c',oc,vs,t,rfl,hoc,hd,hv⟩ (hb _ _ _ _ ?_);refine wpAny_newFunctionEnv S.cell (by intro y hy;simp at hy) (λ h₁ hns hsb=>?_) S.kind;have hk₁:∀b o,s.heap.get? b=some o->h₁.get? b=some o:=λ b o e=>hsb.extBut b o (Nat.ne_of_lt (Heap.lt_size e)) (Heap.get?_push_of_some _ e)
 refine⟨hlim.keeps hk₁,?_⟩;show codeAny _ _ (.expr body (PySem.W.envX q scope s.heap.objs.size f (.ref c') cl)) _ _;have kb:∀b o,base.get? b=some o->h₁.get? b=some o:=λ b o e=>hk₁ b o (e0.bs b o e).1
 have I:Inv (cxL P w K mg base N q scope cl f (.ref c') A outer s H E) [] σ H {s with heap:=h₁,toks:=s.toks+(([]:List Str).zip us).length}:=by
  refine⟨⟨e0.mod,S.kind,rfl,rfl,Nat.le_refl _,cp.inj,λ x hx=>?_,λ x c z=>absurd z Bool.false_ne_true,λ _=>hr.hd,Around.frames_deeper e0.frames,.inr ⟨rfl,rfl⟩,λ b z=>(nomatch z),e0.bs,e0.bsz,λ b _ _=>λ z=>(nomatch z),λ b z=>(nomatch z),e0.funs,e0.frf⟩,
   rfl,e0.bare,Un.kept hk₁,⟨_,hns,λ i x v e1 e2 e3=>?_⟩,λ x c e=>?_,e0.hok.fresh (Nat.le_refl _),λ x c e=>?_,λ p hp=>(nomatch hp),e0.hok.kept hk₁,cp.len,λ p hp=>(nomatch hp)⟩
  ·rcases hx with z|z
   ·exact absurd rfl (S.cell _ (PySem.mem_of_lookup z))
   ·exact cp.has x z
  ·rcases e3 with z|z|z
   ·exact absurd rfl (S.loc _ (PySem.mem_of_lookup z))
   ·exact absurd rfl (S.cell _ (PySem.mem_of_lookup z))
   ·obtain⟨c,u,c1,c2,c3⟩:=cp.val i x v e1 e2 z
    exact⟨u,c2,.inr ⟨.inr z,c,c1,c3.keeps kb⟩⟩
  ·obtain⟨v,z⟩:=cp.cell x c e
   exact⟨v,z.keeps kb⟩
  ·obtain⟨v,o,z,_⟩:=cp.cell x c e
   exact(e0.bs c o z).2
 refine PySem.W.kla_codeExpr (wpAny_mono (hpe [] _ σ H _ I hte) (λ u s' hq=>?_) λ e s' hq=>hq);obtain⟨v,H',J,rv,q⟩:=hq;exact⟨v,H',J.os,J.bare,J.base,J.hok,rv,q⟩
def bse(X:Cx)(s:Shared)(H:Hp):Heap:=PySem.W.hideAll s.heap (trk s.heap H++frs X.stack)
section
variable{X:Cx}{pins:List (Addr×Obj)}{σ:St}{H:Hp}{s:Shared}
theorem aDC{b:Addr}{o:Obj}(e:s.heap.get? b=some o)(n:H b=none)(nf:b∉frs X.stack):(bse X s H).get? b=some o:=
 PySem.W.hideAll_get _ e λ hm=>by
  rcases List.mem_append.mp hm with z|z
  ·have q:(H b).isSome=true:=(List.mem_filter.mp z).2
   rw[n]at q;cases q
  ·exact nf z
theorem aKM{b:Addr}{o:Obj}(e:(bse X s H).get? b=some o):s.heap.get? b=some o/\H b=none:=by
 have e1:=PySem.W.of_hideAll _ e;refine⟨e1,?_⟩;cases q:H b with
 |none=>rfl
 |some u=>
  have hm:b∈trk s.heap H++frs X.stack:=List.mem_append_left _ (List.mem_filter.mpr ⟨List.mem_range.mpr (Heap.lt_size e1),by rw[q];rfl⟩);have z:(PySem.W.hideAll s.heap (trk s.heap H++frs X.stack)).get? b=none:=PySem.W.hideAll_none _ hm;have e2:(PySem.W.hideAll s.heap (trk s.heap H++frs X.stack)).get? b=some o:=e;rw[z]at e2;cases e2
theorem Inv.env1(I:Inv X pins σ H s):aAz X.prog X.w X.K X.mg (bse X s H) X.A X.stack s H:=by
 have kb:∀b o,X.base.get? b=some o->(bse X s H).get? b=some o:=λ b o e=>aDC (I.bs b o e).1 (I.bs b o e).2 λ hb=>by
  have z:=(I.stack.mem hb).1;rw[e]at z;cases z
 have ns:∀{b:Addr} {m:Str->Option Value},X.base.Ns b m->(bse X s H).Ns b m:=λ{b m} ⟨o,es,ep,e,r⟩=>⟨o,es,ep,kb _ _ e,r⟩
 refine⟨I.ok.frames,⟨I.mod.kin.keeps kb,ns I.mod.glob,?_,I.mod.nolimit.keeps kb⟩,λ b o e=>aKM e,Nat.le_of_eq (PySem.W.hideAll_size _ _),PySem.W.funFrames_hide I.stack λ env he a ha=>List.mem_append_right _ (List.mem_filterMap.mpr ⟨env,he,ha⟩),I.stkFree,I.hok,I.bare⟩;obtain⟨mb,h1,h2⟩:=I.mod.blt;exact⟨mb,ns h1,h2⟩
theorem aGe{CX:CXT}{k:Nat}{f:Addr}{fd:FuncData}{ps:List Str}{sp:Sp}{E:XK}{Q:VK}{vs:List V}{us:List Value}(I:Inv X pins σ H s)(F:cY X.prog X.w X.K X.mg (bse X s H) CX k f fd ps sp)(hr:dg k X.A)(hb:Binds X.K fd ps [])(hx:o8 CX X E)
  (r:Vals vs us)(h:sp vs H Q E):wpAny (model X.prog X.w) X.A (call (.ref f) us) (EP X pins σ Q) X.xe s:=by
 have hl:(us++[]).length=ps.length:=by rw[List.append_nil,<-r.length];exact F.len _ _ _ _ h
 have hb':=hb s us I.kIn hl;rw[List.append_nil]at hb';refine wpAny_call (codeAny_mono (F.run X.A X.stack s H ⟨us,[]⟩ us vs Q E hr I.env1 hb' r h) λ r s' hq=>?_);cases r with
 |error e=>exact hx pins σ H s e s' I hq
 |ok fl=>
  cases fl with
  |ret u=>exact I.after hq
  |next=>exact False.elim hq
  |brk=>exact False.elim hq
  |cont=>exact False.elim hq
theorem aKL{scope:Scope}(I:Inv X pins σ H s)(ho:X.outer=[])(S:vX scope)(hfree:∀y∈scope.names,y.2= .free->X.env.kindOf y.1=some .cell\/X.env.kindOf y.1=some .free):aGS (bse X s H) X.N σ scope (aq scope X.env):=by
 have cb:∀x c v,X.env.cells.lookup x=some c->s.heap.IsCell c v->(bse X s H).IsCell c v:=λ x c v e ⟨o,h1,h2⟩=>⟨o,aDC h1 (I.freeC x c e) λ hb=>by
  rcases List.mem_cons.mp (I.stkSub c hb)with z|z
  ·exact I.cne x c e z
  ·have z2:c∈frs X.outer:=z
   rw[ho]at z2;exact absurd z2 (by simp[frs]),h2⟩
 have hk:∀x,scope.names.lookup x=some .free->X.env.kindOf x=some .cell\/X.env.kindOf x=some .free:=λ x hx=>hfree (x,.free) (PySem.mem_of_lookup hx) rfl
 refine⟨λ x y c e1 e2=>I.ok.inj x y c (fK e1) (fK e2),λ x hx=>?_,λ x c e=>?_,λ i x v e1 e2 hx=>?_,I.len⟩
 ·obtain⟨c,hc⟩:=I.ok.has x (hk x hx)
  exact⟨c,pY hx hc⟩
 ·obtain⟨v,z⟩:=I.cell x c (fK e)
  exact⟨v,cb x c v (fK e) z⟩
 ·obtain⟨m,hn,hl⟩:=I.loc
  obtain⟨u,ru,hu⟩:=hl i x v e1 e2 ((hk x hx).elim (λ z=>.inr (.inl z)) λ z=>.inr (.inr z));rcases hu with ⟨k,_⟩|⟨_,c,ec,ic⟩
  ·rcases hk x hx with z|z
   ·exact absurd (k.symm.trans z) (by decide)
   ·exact absurd (k.symm.trans z) (by decide)
  ·exact⟨c,u,pY hx ec,ru,cb x c _ ec ic⟩
end
abbrev bmV:List Value:=[.type "ValueError",.type "Exception",.type "BaseException",.type "object"]
section
variable{prog:Program}{w:World}{A:Around}{E:Value->Shared->Prop}{h:Heap}{g:Array GenState}{d:Drawn}{t:Nat}{os:OsState}{a:Addr}{o:Obj}
 {nm q:Str}{C N:Addr}{bs bm:List Value}{hdct:Bool}{sn:List Str}{sub:List Value}{ab:Bool}{col:Option Bool}{dd:Option Addr}{k0 k1 k2 k3 k5:Option Value}{newId:String}{K:PySem.W.Frag}
theorem aAn{R:Result->Shared->Prop}(hC:h.get? C=some (excClassObj nm q C N bs bm hdct sn sub ab col dd k0 k1 k2 k3 k5 newId))(T:OwnTail h bmV bm)
  (hx:h.get? a=some o)(hc:o.cls= .ref C)(hq:R (.ok (.ret (.ref C))) ⟨h,g,d,t,os⟩):
  codeAny (model prog w) A (.call (.builtin "getset_descriptor.__get__") ⟨[.builtin "object.__class__",.ref a,.ref C],[]⟩) R ⟨h,g,d,t,os⟩:=by
 have hT5:(⟨h,g,d,t,os⟩:Shared).TypeIs (.builtin "object.__class__") "getset_descriptor":=F.typeOf_object_class;have hcB:(Value.ref C::bm).contains (.type (".".intercalate ("object.__class__".cutAt '.').dropLast))=true:=by
  rw[F.owner_object_class,List.contains_cons,T.hasType (X:="object") (b:=true) (by decide+kernel)];rfl
 refine codeAny_call_builtin F.slot_gs_get.plain F.entry_gs_get (F.slot_gs_get.check _ _ _ _ _ _ _ _ hT5 (F.args_gs_get _ _ _) ?_)
 repeat (any_goals (first|assumption|(with_reducible refine wpAny_loadPart_at hx ?_;rw[hc])|(with_reducible refine wpAny_isSubtype_exc hC ?_;rw[hcB])|wp_step))
 refine⟨Code.quiet_builtin _ (by decide+kernel),codeAny_builtin F.entry_object_class ?_⟩
 repeat (any_goals (first|assumption|(with_reducible refine wpAny_loadPart_at hx ?_;rw[hc])|wp_step))
theorem zH{M:Model}{nameV:Value}{Q:Unit->Shared->Prop}(hC:h.get? C=some (excClassObj nm q C N bs bm hdct sn sub ab col dd k0 k1 k2 k3 k5 newId))(T:OwnTail h bmV bm)
  (hx:h.get? a=some o)(hc:o.cls= .ref C)(hq:Q () ⟨h,g,d,t,os⟩):wpAny M A (checkBuiltinCall "BaseException.__getattribute__" ⟨[.ref a,nameV],[]⟩) Q E ⟨h,g,d,t,os⟩:=by
 have hk:builtinKind "BaseException.__getattribute__"=some .slot:=by decide+kernel
 have hsplit:splitId "BaseException.__getattribute__"=some ("BaseException","__getattribute__"):=by decide+kernel
 have hcB:(Value.ref C::bm).contains (.type "BaseException")=true:=by rw[List.contains_cons,T.hasType (X:="BaseException") (b:=true) (by decide+kernel)];rfl
 have ha:=F.args_bexc_ga (.ref a) nameV;simp only[checkBuiltinCall,hk,hsplit];refine wpAny_bind ?_
 ·unfold isInstance
  repeat (first|(with_reducible refine wpAny_loadPart_at hx ?_;rw[hc])|(with_reducible refine wpAny_isSubtype_exc hC ?_;rw[hcB])|wp_step)
  exact hq
theorem vz{tk:Tok}{Q:Fin->Shared->Prop}(hC:h.get? C=some (excClassObj nm q C N bs bm hdct sn sub ab col dd k0 k1 k2 k3 k5 newId))(T:OwnTail h bmV bm)(lk:∀M:Model,PySem.W.Looks M h (typeLookup (.ref C) "__class__") (some (.builtin "object.__class__")))
  (hx:h.get? a=some o)(hc:o.cls= .ref C)(hq:Q (.done (.ret (.ref C))) ⟨h,g,d,t,os⟩):
  wpAny (model prog w) A (Builtin.«object.__getattribute__» ⟨[.ref a,.str "__class__" tk],[]⟩) Q E ⟨h,g,d,t,os⟩:=by
 have hT5:(⟨h,g,d,t,os⟩:Shared).TypeIs (.builtin "object.__class__") "getset_descriptor":=F.typeOf_object_class;have f5:=F.typeOf_object_class;have f6:=F.slot_gs_get.lookup;have f7:=F.slot_gs_set.lookup
 repeat (any_goals (first|assumption|(with_reducible refine wpAny_loadPart_at hx ?_;rw[hc])|with_reducible refine(lk _).here ?_|wp_step))
 refine aAn hC T hx hc ?_
 repeat (any_goals (first|assumption|wp_step))
theorem zG{Q:Option Value->Shared->Prop}(hC:h.get? C=some (excClassObj nm q C N bs bm hdct sn sub ab col dd k0 k1 k2 k3 k5 newId))(T:OwnTail h bmV bm)(lk:∀M:Model,PySem.W.Looks M h (typeLookup (.ref C) "__class__") (some (.builtin "object.__class__")))
  (lg:∀M:Model,PySem.W.Looks M h (typeLookup (.ref C) "__getattribute__") (some (.builtin "BaseException.__getattribute__")))(ln:∀M:Model,PySem.W.Looks M h (typeLookup (.ref C) "__getattr__") none)
  (hx:h.get? a=some o)(hc:o.cls= .ref C)(hq:Q (some (.ref C)) ⟨h,g,d,t+1,os⟩):wpAny (model prog w) A (getAttr? (.ref a) "__class__") Q E ⟨h,g,d,t,os⟩:=by
 have by_exc:∀{E:Value->Shared->Prop} {t:Nat} {tk:Tok} {Q:Value->Shared->Prop},Q (.ref C) ⟨h,g,d,t,os⟩->wpAny (model prog w) A (getAttrBy (.ref a) (.str "__class__" tk) false) Q E ⟨h,g,d,t,os⟩:=by
  intro E t tk Q hq;have FB:=PySem.F.excAttr_ValueError;have f3:=FB.ga.bind (.ref a);have hx0:(false&&onTheHeap (Value.builtin "BaseException.__getattribute__"))=false:=rfl;have hx2:(Value.builtin "BaseException.__getattribute__"==Value.builtin "object.__getattribute__")=false:=by decide+kernel
  have hx1:(onTheHeap (Value.ref C)&&Value.builtin "BaseException.__getattribute__"==Value.builtin "object.__getattribute__")=false:=by rw[hx2];rfl
  repeat (any_goals (first|assumption|(with_reducible refine wpAny_loadPart_at hx ?_;rw[hc])|with_reducible refine(lg _).here ?_|with_reducible refine(ln _).here ?_|wp_step))
  refine codeAny_call_builtin FB.ga.plain F.entry_bexc_ga (zH hC T hx hc (vz hC T lk hx hc ?_))
  repeat (any_goals (first|assumption|wp_step))
 unfold getAttr? getAttrBy?
 repeat (any_goals (first|assumption|with_reducible apply by_exc|wp_step))
theorem aF0(hE:gk K C)(ha:PySem.W.findIn K (.ref C) "__class__"=some (some (.builtin "object.__class__")))(hgt:PySem.W.findIn K (.ref C) "__getattribute__"=some (some (.builtin "BaseException.__getattribute__")))
  (hga:PySem.W.findIn K (.ref C) "__getattr__"=some none):PySem.W.KitX K (.ref a) (.ref C) (λ h=>∃o,h.get? a=some o/\o.cls= .ref C) where
 ty:=λ M h _ ⟨o,h1,h2⟩=>h2▸(PySem.W.Looks.ld h1).andThen .now
 it:=λ M h X _=>by
  obtain⟨bm,NN,nm,q,bs,hdct,sn,sub,ab,col,dd,k0,k1,k2,k3,k5,mN,hC,_⟩:=(qg (h:=h) (mg:=λ _=>some (.ref C)) (x:="x") X rfl hE).obj;intro A' Q' E' s' k q;unfold isType loadHead;exact wpAny_bind (wpAny_loadPart (k _ _ hC) (wpAny_pure q))
 ne:=λ h tp dd its n sl X htp=>by
  obtain⟨bm,NN,nm,q,bs,hdct,sn,sub,ab,col,dd,k0,k1,k2,k3,k5,mN,hC,_⟩:=(qg (h:=h) (mg:=λ _=>some (.ref C)) (x:="x") X rfl hE).obj;refine Bool.eq_false_iff.mpr λ z=>?_
  have e:C=tp:=Value.ref.inj (beq_iff_eq.mp z);subst e;rw[hC]at htp;exact absurd (congrArg Obj.cls (Option.some.inj htp)) (by show Value.type "type"≠Value.type "tuple";decide+kernel)
 ca:=λ{prog w A E Q s} X ⟨o,h1,h2⟩ k=>by
  obtain⟨h,g,d,t,os⟩:=s;obtain⟨bm,NN,nm,q,bs,hdct,sn,sub,ab,col,dd,k0,k1,k2,k3,k5,mN,hC,hN,hni,T⟩:=(qg (h:=h) (mg:=λ _=>some (.ref C)) (x:="x") X rfl hE).obj;exact zG hC T (λ M=>PySem.W.looks_findIn X ha) (λ M=>PySem.W.looks_findIn X hgt) (λ M=>PySem.W.looks_findIn X hga) h1 h2 k
end
def excφ(a C:Addr):Heap->Prop:=λ h=>∃o,h.get? a=some o/\o.cls= .ref C
theorem excφ_stay{a C:Addr}:∀h1 h2:Heap,excφ a C h1->(∀o,h1.get? a=some o->h2.get? a=some o)->excφ a C h2:=λ h1 h2 ⟨o,e,c⟩ k=>⟨o,k o e,c⟩
structure aID(K:PySem.W.Frag)(C:Addr):Prop where
 ex:gk K C
 ca:PySem.W.findIn K (.ref C) "__class__"=some (some (.builtin "object.__class__"))
 gt:PySem.W.findIn K (.ref C) "__getattribute__"=some (some (.builtin "BaseException.__getattribute__"))
 ga:PySem.W.findIn K (.ref C) "__getattr__"=some none
section
variable{X:Cx}
def aIP(K:PySem.W.Frag):List V->Hp->VK->Prop:=λ xs H Q=>∃a C y c b,xs=[.ref a,y]/\RelV y c/\H a=some (.ext (excφ a C))/\aID K C/\PySem.W.kitOne K (.ref C) c=some b/\Q (.bl b) H
theorem aDu:cO X (.builtin "isinstance") (aIP X.K):=by
 intro pins s σ H xs us Q I r h;obtain⟨a,C,y,c,b,rfl,ry,ha,kc,e,q⟩:=h;obtain⟨u,w',rfl,r1,r2⟩:=vals2 r;cases r1;have hc:w'=c:=by
  cases y<;>first
   |(cases r2;cases ry;rfl)
   |(obtain⟨t1,rfl⟩:=r2;obtain⟨t2,rfl⟩:=ry;exact absurd e (by simp[PySem.W.kitOne,PySem.W.kitCls]))
 subst hc;obtain⟨p,_⟩:excφ a C s.heap/\_:=I.hok a _ ha;exact PySem.W.kia_one (aF0 kc.ex kc.ca kc.gt kc.ga) I.kIn p e (λ z=>nomatch z) λ tk=>⟨.bl b,H,I.tok tk,rfl,q⟩
end
abbrev Cx.re(X:Cx)(A:Around)(c:Bool)(pl:List (Addr×Obj))(E:Value->Shared->Prop):Cx:={X with A:=A,calm:=c,pn:=X.pn++pl,xe:=E}
section
variable{X:Cx}{pins:List (Addr×Obj)}{σ:St}{H:Hp}{s:Shared}
theorem Inv.re{A:Around}{c:Bool}{E:Value->Shared->Prop}(I:Inv X pins σ H s)(hf:A.frames=X.A.frames)(hd:c=true->A.handled=none):Inv (X.re A c pins E) [] σ H s:=
 ⟨⟨I.ok.mod,I.ok.kind,I.ok.glob,I.ok.blt,I.ok.above,I.ok.inj,I.ok.has,I.ok.cab,hd,hf.trans I.ok.frames,I.ok.stk,I.ok.exf,I.ok.bs,I.ok.bsz,I.ok.noex,I.ok.exfs,I.ok.funs,I.ok.frf⟩,
  I.os,I.bare,I.base,I.loc,I.cell,I.free,I.freeC,λ p hp=>I.pin p (by rw[List.append_nil]at hp;exact hp),I.hok,I.len,λ p hp=>let⟨a,b,c,d,e⟩:=I.tab p hp;⟨a,b,c,λ q hq=>d q (by rw[List.append_nil]at hq;exact hq),e⟩⟩
theorem Inv.unre{A:Around}{c:Bool}{E:Value->Shared->Prop}{pins2:List (Addr×Obj)}{σ2:St}{H2:Hp}{s2:Shared}(ok:X.Ok)(J:Inv (X.re A c pins E) pins2 σ2 H2 s2):Inv X pins σ2 H2 s2:=
 ⟨ok,J.os,J.bare,J.base,J.loc,J.cell,J.free,J.freeC,λ p hp=>J.pin p (List.mem_append_left _ hp),J.hok,J.len,λ p hp=>let⟨a,b,c,d,e⟩:=J.tab p hp;⟨a,b,c,λ q hq=>d q (List.mem_append_left _ hq),e⟩⟩
theorem Inv.track{a:Addr}{o:HO}(I:Inv X pins σ H s)(ha:H a=none)(h0:X.s₀.heap.get? a=none)(hL:X.env.locals≠a)(hc:∀x c,X.env.cells.lookup x=some c->c≠a)(hp:∀p∈X.ta++(X.pn++pins),p.1≠a)
  (new:bw X.prog X.w (upd H a o) s.heap a o):Inv X pins σ (upd H a o) s:=by
 have ne:∀b u,H b=some u->b≠a:=λ b u e=>bD e ha
 refine⟨I.ok,I.os,I.bare,⟨I.base.keep,I.base.slot,λ b ob e n nx=>?_,I.base.there,λ b xs e=>?_,λ b ob u e=>?_,λ b ps e=>?_⟩,I.loc,I.cell,?_,λ x c e=>?_,λ p hp'=>?_,λ b u e=>?_,I.len,λ p hp'=>?_⟩
 ·rw[aV (λ z=>by rw[z,h0]at e;cases e)]
  exact I.base.free b ob e n nx
 ·have e1:=I.base.tups b xs e
  rw[aV (ne b _ e1)];exact e1
 ·have e1:=I.base.frzs b ob u e
  rw[aV (ne b _ e1)];exact e1
 ·obtain⟨m,e1⟩:=I.base.tbls b ps e
  exact⟨m,by rw[aV (ne b _ e1)];exact e1⟩
 ·rw[aV hL];exact I.free
 ·rw[aV (hc x c e)];exact I.freeC x c e
 ·obtain⟨p1,p2,p3⟩:=I.pin p hp'
  exact⟨p1,by rw[aV (hp p (List.mem_append_right _ hp'))];exact p2,p3⟩
 ·by_cases hb:b=a
  ·subst hb;rw[au]at e;cases e;exact new
  ·rw[aV hb]at e
   exact(I.hok b u e).stay (λ c v _ q=>q) (λ c q=>by rw[aV (ne c _ q)];exact q) λ c xs q=>by rw[aV (ne c _ q)];exact q
 ·obtain⟨n1,n2,n3,n0,ps,n4,n5⟩:=I.tab p hp'
  exact⟨by rw[aV (hp p (List.mem_append_left _ hp'))];exact n1,n2,n3,n0,ps,n4,n5.mono λ b o u e=>by rw[aV (ne b _ e)];exact e⟩
theorem Inv.gone{i:Nat}{n:Str}{h':Heap}{m:Str->Option Value}{v:Option Value}{tk:Nat}(I:Inv X pins σ H s)(hN:X.N.Nodup)(hi:X.N[i]? =some n)(hm:s.heap.Ns X.env.locals m)(hn:h'.Ns X.env.locals λ x=>if x=n then v else m x)(hs:Heap.SameBut X.env.locals s.heap h'):
  Inv X pins (σ.set i none) H {s with heap:=h',toks:=tk}:=by
 obtain⟨m0,hm0,hl⟩:=id I.loc;have cne:=I.cne;have em:m0=m:=by
  obtain⟨o1,es1,ep1,e1,d1,k1⟩:=hm0;obtain⟨o2,es2,ep2,e2,d2,k2⟩:=hm;rw[e1]at e2;cases e2;rw[d1]at d2;cases d2;funext x;exact(k1.2 x).symm.trans (k2.2 x)
 subst em;obtain⟨oL,_,_,hoL,_⟩:=id hm0;have keep:∀b o,b≠X.env.locals->s.heap.get? b=some o->h'.get? b=some o:=λ b o nb e=>(hs.2 b nb).trans e
 refine⟨I.ok,I.os,I.bare,⟨λ b o e n' hb hx=>?_,λ b o e n' hb hx=>?_,I.base.free,λ b o e hx=>?_,I.base.tups,I.base.frzs,I.base.tbls⟩,⟨_,hn,λ j y v' e1 e2 e3=>?_⟩,λ y c e=>?_,I.free,I.freeC,λ p hp=>?_,λ b u e=>?_,by simpa using I.len,λ p hp=>?_⟩
 ·exact keep b o (Nat.ne_of_lt (Nat.lt_of_lt_of_le (Heap.lt_size e) I.ok.above)) (I.base.keep b o e n' hb hx)
 ·obtain⟨sl,e1⟩:=I.base.slot b o e n' hb hx
  exact⟨sl,keep b _ (Nat.ne_of_lt (Nat.lt_of_lt_of_le (Heap.lt_size e) I.ok.above)) e1⟩
 ·obtain⟨o',e1⟩:=I.base.there b o e hx
  exact⟨o',keep b _ (Nat.ne_of_lt (Nat.lt_of_lt_of_le (Heap.lt_size e) I.ok.above)) e1⟩
 ·have hj:j≠i:=λ z=>by
   subst z;rw[List.getElem?_set]at e2;simp at e2
  rw[List.getElem?_set_ne (Ne.symm hj)]at e2;obtain⟨u,r,q⟩:=hl j y v' e1 e2 e3;refine⟨u,r,?_⟩;have yn:y≠n:=λ z=>hj (u6 hN e1 (z▸hi))
  rcases q with ⟨k,e⟩|⟨k,c,e,z⟩
  ·exact .inl ⟨k,by simp[yn,e]⟩
  ·exact .inr ⟨k,c,e,z.sameBut hs (cne y c e)⟩
 ·obtain⟨v',z⟩:=I.cell y c e
  exact⟨v',z.sameBut hs (cne y c e)⟩
 ·obtain⟨p1,p2,p3,p4⟩:=I.pin p hp
  exact⟨keep _ _ p3 p1,p2,p3,p4⟩
 ·refine(I.hok b u e).stay (λ c v' hc q=>keep c v' ?_ q) (λ _ q=>q) λ _ _ q=>q
  rintro rfl;rcases hc with z|z
  ·rw[<-z,I.free]at e;cases e
  ·rw[I.free]at z;cases z
 ·obtain⟨n1,n2,n3,n0,ps,n4,n5⟩:=I.tab p hp
  exact⟨n1,n2,n3,n0,ps,keep _ _ n2 n4,n5⟩
end
section
variable{M:Model}{A:Around}{E:Value->Shared->Prop}{h:Heap}{g:Array GenState}{d:Drawn}{t:Nat}{os:OsState}
variable{nm q:Str}{C N:Addr}{bs bm:List Value}{hdct:Bool}{sn:List Str}{sub:List Value}{ab:Bool}{col:Option Bool}{dd:Option Addr}{k0 k1 k2 k3 k5:Option Value}{newId:String}
variable{nm' q':Str}{C' N':Addr}{bs' bm':List Value}{hdct':Bool}{sn':List Str}{sub':List Value}{ab':Bool}{col':Option Bool}{dd':Option Addr}{k0' k1' k2' k3' k5':Option Value}{newId':String}
theorem vI{e:Addr}{oe:Obj}{Q:Bool->Shared->Prop}(hC:h.get? C=some (excClassObj nm q C N bs bm hdct sn sub ab col dd k0 k1 k2 k3 k5 newId))(hC':h.get? C'=some (excClassObj nm' q' C' N' bs' bm' hdct' sn' sub' ab' col' dd' k0' k1' k2' k3' k5' newId'))
  (he:h.get? e=some oe)(hcls:oe.cls= .ref C)(hb':bm'.contains (.type "BaseException")=true)(hs:(Value.ref C::bm).contains (.ref C')=true)
  (hq:Q true ⟨h,g,d,t,os⟩):wpAny M A (excMatches (.ref e) (.ref C')) Q E ⟨h,g,d,t,os⟩:=by
 have hcB:(Value.ref C'::bm').contains (.type "BaseException")=true:=by rw[List.contains_cons,hb',Bool.or_true]
 have f:=tc_notTuple;unfold excMatches
 repeat (first|(with_reducible refine wpAny_loadPart_at he ?_;rw[hcls])|with_reducible refine wpAny_loadPart_at hC' ?_|(with_reducible refine wpAny_isSubtype_exc hC' ?_;rw[hcB])|(with_reducible refine wpAny_isSubtype_exc hC ?_;rw[hs])|wp_step)
 exact hq
end
theorem bw.there{P:Program}{w:World}{H:Hp}{h:Heap}{a:Addr}{o:HO}(x:bw P w H h a o):∃ob,h.get? a=some ob:=by
 cases o with
 |lst xs=>obtain⟨_,_,_,_,e⟩:=x;exact⟨_,e⟩
 |tup xs=>
  obtain⟨_,_,_,p⟩:=x;obtain⟨o,e,_⟩:=p;exact⟨_,e⟩
 |dK kvs=>obtain⟨_,_,_,_,o,_,_,e,_⟩:=x;exact⟨_,e⟩
 |dT kvs=>obtain⟨_,_,_,_,o,_,_,e,_⟩:=x;exact⟨_,e⟩
 |set S n=>obtain⟨o,_,_,_,e,_⟩:=x;exact⟨_,e⟩
 |ins C dx fs=>obtain⟨_,_,_,e,_⟩:=x;exact⟨_,e⟩
 |own y=>exact x
 |xd fs=>obtain⟨_,⟨_,_,_,e,_⟩,_⟩:=x;exact⟨_,e⟩
 |rng lo hi=>obtain⟨_,_,_,e⟩:=x;exact⟨_,e⟩
 |frz ob u=>obtain⟨e,_⟩:=x;exact⟨_,e⟩
 |tbl ps=>exact⟨_,show h.get? a=some _ from x⟩
 |met f y=>exact⟨_,show h.get? a=some _ from x⟩
 |ext φ=>obtain⟨_,e,_⟩:=x;exact e
def rC(K:PySem.W.Frag)(C C':Addr):Bool:=
 match K.lookup C with
 |some ⟨_,_,.cls cd,_⟩=>cd.mro.contains (.ref C')
 |_=>false
abbrev Cx.tr(X:Cx)(pins:List (Addr×Obj))(E':XK):Cx:=X.re X.A true pins λ e s'=>∃σ H s,Inv X pins σ H s/\CX1 X.prog X.w X.stack H s E' e s'
abbrev Cx.ha(X:Cx)(pins:List (Addr×Obj))(ea:Addr):Cx:=X.re (X.A.mark (some (.ref ea))) false pins λ _ _=>False
def aEE(X:Cx)(i:Nat)(C':Addr)(E':XK)(tb th:TS):TS:=λ D σ H=>tb D σ H/\∀cls H1,E' cls none H1->∃C,cls= .ref C/\gk X.K C/\rC X.K C C'=true/\∀(σ1:St) (ea:Addr),σ1.length=X.N.length->H1 ea=none->
 th {nx:=λ σ' H'=>D.nx (σ'.set i none) H',rt:=D.rt,bk:=λ σ' H'=>D.bk (σ'.set i none) H',ct:=λ σ' H'=>D.ct (σ'.set i none) H'} (σ1.set i (some (.ref ea))) (upd H1 ea (.ext (excφ ea C)))
section
variable{X:Cx}{E E':XK}
theorem Cx.tr_ok{pins:List (Addr×Obj)}(J:(X.tr pins E').Ok):X.Ok:=
 ⟨J.mod,J.kind,J.glob,J.blt,J.above,J.inj,J.has,J.cab,λ _=>J.hd rfl,J.frames,J.stk,J.exf,J.bs,J.bsz,J.noex,J.exfs,J.funs,J.frf⟩
theorem Cx.tr_pass{pins:List (Addr×Obj)}:o8 (CX1 X.prog X.w) (X.tr pins E') E':=λ pins2 σ H s e s' I h=>⟨σ,H,s,Inv.unre (Cx.tr_ok I.ok) I,h⟩
theorem aEj(D:dB X E)(hc:X.calm=true)(hN:X.N.Nodup){i:Nat}{n:Str}(hi:X.N[i]? =some n)(hl:X.env.scope.names.lookup n=some .local){x:Str}{C':Addr}(hm:X.mg x=some (.ref C'))(hg:Gl X x)(hC':gk X.K C')
  {body suite:List Stmt}{b₀:Stmt}{tb th:TS}{np hpos pos:Pos}(hb:∀pins,PSs (X.tr pins E') body tb)(hs:∀pins ea,PSs (X.ha pins ea) (b₀::suite) th)(hdb:(x==("__debug__":Str))=false:=by decide):
  PS X (.Try body [.ExceptHandler (some (.Name x np)) (some n) (b₀::suite) hpos] [] [] pos) (aEE X i C' E' tb th):=by
 intro pins s σ H DD I hh;obtain⟨h1,h2⟩:=hh;refine wpAny_Try_except (wpAny_mono (hb pins [] s σ H DD (I.re rfl λ _=>I.ok.hd hc) h1) (λ f s1 q=>?_) λ e s1 q=>?_)
 ·cases f with
  |next=>
   obtain⟨σ',H',J,q⟩:=q;exact wpAny_execs_nil ⟨σ',H',Inv.unre I.ok J,q⟩
  |brk=>obtain⟨σ',H',J,q⟩:=q;exact⟨σ',H',Inv.unre I.ok J,q⟩
  |cont=>obtain⟨σ',H',J,q⟩:=q;exact⟨σ',H',Inv.unre I.ok J,q⟩
  |ret u=>obtain⟨v,σ',H',J,r,q⟩:=q;exact⟨v,σ',H',Inv.unre I.ok J,r,q⟩
 ·obtain⟨σ1,H1,s0,J,ea,cls,a0,B,H2,rfl,os,bare,un,hok,fly,bk,ba,hE⟩:=q
  obtain⟨C,rfl,hC,hsub,hth⟩:=h2 cls H2 hE;have hfr:=I.ok.frames;rw[D.stk]at hfr;have fly':=fly;rw[D.stk]at fly';have mk:∀hh:Heap,Heap.FlyingW B X.stack ea (.ref C) a0 hh->s1.heap.UpToSlots hh->Inv X pins σ1 H2 {s1 with heap:=hh}:=λ hh fl up=>by
   refine J.call' (ch:=[]) os ⟨λ b o e n nf _=>fl.1 b o (bk b o e n nf),λ b o e n hb _=>?_,un.free,λ b o e _=>?_,un.tups,un.frzs,un.tbls⟩ (λ a o e=>(hok a o e).stay (λ b u _ q=>fl.1 b u q) (λ _ z=>z) λ _ _ z=>z) bare (λ b z=>nomatch z)
   ·obtain⟨s2,e2⟩:=un.slot b o e n hb (λ z=>nomatch z)
    obtain⟨_,o3,e3,nf⟩:=fly.2.2.1.mem hb;rw[e2]at e3;cases e3;obtain⟨s4,e4⟩:=up b _ e2 nf;exact⟨s4,e4⟩
   ·by_cases hb:b∈frs X.stack
    ·obtain⟨_,o3,e3,nf⟩:=fl.2.2.1.mem hb
     exact⟨o3,e3⟩
    ·obtain⟨o',e'⟩:=ba b o e hb
     exact⟨o',fl.1 b o' e'⟩
  refine wpAny_looks_onW hfr D.fr fly' λ h3 held up3=>?_
  refine wpAny_landsW held λ h4 fly4 up4=>?_
  rw[<-D.stk]at fly4;have J4:=mk h4 fly4 (up3.trans up4);have K4:Inv (X.ha pins ea) [] σ1 H2 {s1 with heap:=h4}:=J4.re rfl (λ z=>nomatch z);obtain⟨ob4,he4,hc4⟩:=fly4.there;obtain⟨tl,NN,nm,q,bs,hdct,sn,sub,ab,col,dd,k0,k1,k2,k3,k5,mN,hCo,hNn,hni,T⟩:=(qg (h:=h4) (mg:=λ _=>some (.ref C)) (x:="x") J4.kIn rfl hC).obj;obtain⟨tl',NN',nm',q',bs',hdct',sn',sub',ab',col',dd',k0',k1',k2',k3',k5',mN',hCo',hNn',hni',T'⟩:=(qg (h:=h4) (mg:=λ _=>some (.ref C')) (x:="x") J4.kIn rfl hC').obj;have hmro:(Value.ref C::tl).contains (.ref C')=true:=by
   unfold rC at hsub;split at hsub
   ·rename_i oc od cd sl ho
    have e:=J4.kIn _ _ ho;have e2:(some _:Option Obj)=some _:=e.symm.trans hCo;injection e2 with e2
    have e3:=congrArg Obj.data e2;injection e3 with e3
    subst e3;exact hsub
   ·cases hsub
  refine wpAny_handleBy_cons (codeAny_handlers_test (m6 (X:=X.ha pins ea) K4 hg hm ?_ hdb)) (by intro q;cases q);refine vI hCo hCo' he4 hc4 (T'.hasType (X:="BaseException") (b:=true) (by decide+kernel)) hmro ?_;refine codeAny_handlers_suite_as ?_;refine lands_againW fly4 λ h5 fly5 up5=>?_
  have J5:=mk h5 fly5 ((up3.trans up4).trans up5);obtain⟨f1,f2,f3,oe,vs,T5,oT,ts,he5,⟨hcl5,h05⟩,hd5,_⟩:=id fly5;have nof:ea∉frs X.stack:=λ z=>by
   obtain⟨_,o3,e3,nf⟩:=f3.mem z;rw[he5]at e3;cases e3;exact nf vs hd5
  have inB:∀b o,s0.heap.get? b=some o->b∉frs X.stack->b≠ea:=λ b o e nf z=>by
   obtain⟨o',e'⟩:=ba b o e nf;rw[z,f2]at e';cases e'
  have hL:X.env.locals∈frs X.stack:=by
   rw[D.stk];unfold frs;rw[List.filterMap_cons,D.fr];exact List.mem_cons_self
  have h2n:H2 ea=none:=by
   cases e:H2 ea with
   |none=>rfl
   |some o=>
    obtain⟨ob,e'⟩:=(hok ea o e).there;rw[f2]at e';cases e'
  have J6:Inv X pins σ1 (upd H2 ea (.ext (excφ ea C))) {s1 with heap:=h5}:=by
   refine J5.track h2n ?_ (λ z=>nof (z▸hL)) (λ y c e z=>?_) (λ p hp z=>?_) ⟨⟨oe,he5,hcl5⟩,⟨oe,he5⟩,excφ_stay⟩
   ·cases e:X.s₀.heap.get? ea with
    |none=>rfl
    |some o=>
     obtain⟨o',e'⟩:=J.base.there ea o e (by rw[D.ex];exact λ z=>nomatch z);exact absurd rfl (inB ea o' e' nof)
   ·obtain⟨v,o,ho,hd⟩:=J5.cell y c e
    rw[z]at ho;have e2:some o=some oe:=ho.symm.trans he5;cases e2;rw[hd]at hd5;cases hd5
   ·have hh:∃o,s0.heap.get? p.1=some o/\p.1≠X.env.locals/\p.1∉X.fs:=by
     rcases List.mem_append.mp hp with z|z
     ·obtain⟨_,a,b,_,_,c,_⟩:=J.tab p z
      exact⟨_,c,a,b⟩
     ·obtain⟨p1,p2,p3,p4,_⟩:=J.pin p z
      exact⟨_,p1,p3,p4⟩
    obtain⟨o,p1,p3,p4⟩:=hh;refine inB p.1 o p1 (λ w=>?_) z;rcases List.mem_cons.mp (J.stkSub p.1 w)with z|z
    ·exact p3 z
    ·exact p4 z
  have K6:Inv (X.ha pins ea) [] σ1 (upd H2 ea (.ext (excφ ea C))) {s1 with heap:=h5}:=J6.re rfl (λ z=>nomatch z);refine pB (X:=X.ha pins ea) (v:=.ref ea) K6 hN hi (.inl hl) rfl (λ s7 I7=>?_) (.inr hl);refine wpAny_mono (hs pins ea [] s7 _ _ _ I7 (hth σ1 ea J.len h2n)) (λ f s8 q8=>?_) λ _ _ z=>z.elim
  have goes:∀{σ':St} {H':Hp} {Q:Shared->Prop},Inv (X.ha pins ea) [] σ' H' s8->(∀s9,Inv X pins (σ'.set i none) H' s9->Q s9)->
    wpAny (model X.prog X.w) X.A (do bindName X.env n .none;unbindBehindTheSuite X.env n hpos) (λ _ s9=>Q s9) X.xe s8:=λ{σ' H' Q} K8 k=>by
   have J8:Inv X pins σ' H' s8:=Inv.unre I.ok K8;obtain⟨m,hmm,_⟩:=id J8.loc;refine wpAny_nameGoes_keeps hl hmm (by rw[I.ok.kind];rfl) λ h' v hn hsb=>k _ (Inv.gone J8 hN hi hmm hn hsb)
  cases f with
  |next=>obtain⟨σ',H',K8,q⟩:=q8;exact goes K8 λ s9 J9=>⟨_,_,J9,q⟩
  |brk=>obtain⟨σ',H',K8,q⟩:=q8;exact goes K8 λ s9 J9=>⟨_,_,J9,q⟩
  |cont=>obtain⟨σ',H',K8,q⟩:=q8;exact goes K8 λ s9 J9=>⟨_,_,J9,q⟩
  |ret u=>obtain⟨v,σ',H',K8,r,q⟩:=q8;exact goes K8 λ s9 J9=>⟨v,_,_,J9,r,q⟩
end
structure jC(k:Nat)(A:Around):Prop where
 dp:A.depth+3*k+5<recursionLimit
 un:A.units+16*k+200<cLine
theorem dg.h{k:Nat}{A:Around}(r:dg k A):jC k A:=⟨r.dp,r.un⟩
theorem jC.mark{k:Nat}{A:Around}{v:Option Value}(r:jC k A):jC k (A.mark v):=⟨r.dp,r.un⟩
theorem jC.mono{j k:Nat}{A:Around}(r:jC k A)(h:j<=k):jC j A:=⟨by have:=r.dp;omega,by have:=r.un;omega⟩
theorem jC.deeper{k:Nat}{A:Around}(r:jC (k+1) A)(env:Env):jC k (A.deeper env):=
 ⟨by have:=r.dp;show A.depth+1+3*k+5<_;omega,by have:=r.un;show A.units+3+16*k+200<_;omega⟩
theorem jC.depth{k:Nat}{A:Around}(r:jC k A):A.depth<recursionLimit:=by have:=r.dp;omega
abbrev aGG(A:Around):Around:={A with handled:=none}
structure FnH(P:Program)(w:World)(K:PySem.W.Frag)(mg:Str->Option Value)(base:Heap)(k:Nat)(f:Addr)(fd:FuncData)(ps:List Str)(sp:Sp):Prop where
 len:∀vs H Q E,sp vs H Q E->vs.length=ps.length
 run:∀(A:Around) (outer:List Env) (s:Shared) (H:Hp) (args:Args) (us:List Value) (vs:List V) (Q:VK) (E:XK),jC k A->aAz P w K mg base A outer s H->BindsTo s fd args (ps.zip us)->Vals vs us->sp vs H Q E->
  codeAny (model P w) A (.call (.ref f) args) (CR CX0 outer P w H s Q E) s
abbrev cxH(P:Program)(w:World)(K:PySem.W.Frag)(mg:Str->Option Value)(base:Heap)(N:List Str)(q:Str)(scope:Scope)(f:Addr)(cd:Value)(A:Around)(outer:List Env)(s:Shared)(H:Hp):Cx:=
 (sr CX0 P w K mg base N q scope f cd (aGG A) outer s H λ _ _ _=>False).re (A.deeper (envOfC q scope s.heap.objs.size f cd)) false [] λ _ _=>False
section
variable{P:Program}{w:World}{K:PySem.W.Frag}{mg:Str->Option Value}{base:Heap}
theorem Fun.okH{x q:Str}{st:Stmt}{f:Addr}{fd:FuncData}{N ps:List Str}{k:Nat}{sp:Sp}(F:Fun K x q st f fd)(S:ak N ps (aF st))(len:∀vs H Q E,sp vs H Q E->vs.length=ps.length)
  (hbody:∀(cdv:Value) (A:Around) (outer:List Env) (s:Shared) (H:Hp) (vs:List V) (Q:VK) (E:XK),jC k (A.deeper (envOfC q (aF st) s.heap.objs.size f cdv))->sp vs H Q E->
   ∃t,PSs (cxH P w K mg base N q (aF st) f cdv A outer s H) (cj st) t/\t {nx:=λ _ H'=>Q .non H',rt:=Q} (start N vs) H):FnH P w K mg base (k+1) f fd ps sp:=by
 obtain⟨oc,od,kV,doc,pm,an,cdv,ct,osl,rfl,lk,hcd⟩:=F.ex;refine⟨len,λ A outer s H args us vs Q E hr e0 hb r hsp=>?_⟩;have KX:K.In s.heap:=e0.mod.kin.keeps λ b o e=>(e0.bs b o e).1
 have par:∀y∈ps.zip us,(aF st).names.lookup y.1=some .local\/((aF st).names.lookup y.1=some .cell/\((cellsFrom (s.heap.objs.size+1) (aF st).names []).lookup y.1).isSome=true):=λ y hy=>
  (S.par y.1 (List.of_mem_zip (a:=y.1) (b:=y.2) hy).1).imp id λ z=>⟨z,PySem.W.cellsFrom_some _ _ _ (.inl z)⟩
 refine codeAny_call_function hr.depth (KX _ _ lk) rfl S.co S.gen rfl (PySem.W.codeRec_of KX hcd) (hb _ _ _ _ (wpAny_newFunctionEnv_cells S.kind par λ env he s1 x=>?_));cases he;refine⟨(e0.mod.nolimit.keeps λ b o e=>(e0.bs b o e).1).keeps x.toInCall.keep,codeAny_func ?_⟩;obtain⟨t,ht,hq⟩:=hbody cdv A outer s H vs Q E (hr.deeper _) hsp;have e1:aAz P w K mg base (aGG A) outer s H:=⟨e0.frames,e0.mod,e0.bs,e0.bsz,e0.funs,e0.frf,e0.hok,e0.bare⟩;have I0:Inv (sr CX0 P w K mg base N q (aF st) f cdv (aGG A) outer s H λ _ _ _=>False) [] (start N vs) H s1:=qy S rfl e1 (len _ _ _ _ hsp) r x;have I1:Inv (cxH P w K mg base N q (aF st) f cdv A outer s H) [] (start N vs) H s1:=I0.re rfl (λ z=>nomatch z);refine wpAny_mono (ht [] s1 (start N vs) H _ I1 hq) (λ fl s' hs=>?_) λ e s' hs=>hs.elim
 cases fl with
 |ret u=>obtain⟨v,σ',H',J,rv,q⟩:=hs;exact⟨v,H',J.os,J.bare,J.base,J.hok,rv,q⟩
 |next=>obtain⟨σ',H',J,q⟩:=hs;exact⟨.non,H',J.os,J.bare,J.base,J.hok,rfl,q⟩
 |brk=>obtain⟨_,_,_,q⟩:=hs;exact q.elim
 |cont=>obtain⟨_,_,_,q⟩:=hs;exact q.elim
end
section
variable{X:Cx}{k:Nat}{f:Addr}{fd:FuncData}{ps:List Str}{sp:Sp}{dvs:List V}{ds:List Value}{E:XK}{x:Str}{p pos:Pos}{e:Expr}{es:List Expr}{t:TA}
theorem aEx(F:FnH X.prog X.w X.K X.mg X.base k f fd ps sp)(hr:jC k X.A)(hg:Gl X x)(hm:X.mg x=some (.ref f))(hk:PySem.W.keepIn X.K (.ref f)=true)(hb:Binds X.K fd ps ds)(hd:Vals dvs ds)
  (ha:PA X (e::es) t)(hdb:(x==("__debug__":Str))=false:=by decide)(he:starEach (e::es) X.env=(false,eval e X.env)::starEach es X.env:=by rfl)(hpl:(backTo pos (starEach es X.env)).any (·.1)=false:=by rfl):
  PE X (.Call (.Name x p) (e::es) [] pos) (zZ sp dvs E t):=by
 intro pins s σ H Q I h;refine wpAny_Call_Name_kw (m6 I hg hm (PySem.W.callWith_K (h₀:=X.base) I.ok.mod.kin hk (thn (ha pos pins s σ H _ I h) λ us s1 hz=>?_) he hpl) hdb);obtain⟨vs,H1,I1,r,q⟩:=hz;refine⟨I1.kIn,wpAny_call (codeAny_mono (F.run X.A X.stack s1 H1 ⟨us,[]⟩ (us++ds) (vs++dvs) Q E hr I1.env0 (hb s1 us I1.kIn ?_) (r.append hd) q) λ r' s' hq=>?_)⟩
 ·rw[<-(r.append hd).length];exact F.len _ _ _ _ q
 ·cases r' with
  |error e=>exact False.elim hq
  |ok fl=>
   cases fl with
   |ret u=>exact I1.after hq
   |next=>exact False.elim hq
   |brk=>exact False.elim hq
   |cont=>exact False.elim hq
end
def spW(wd:Addr->Option Str):Sp:=λ vs H Q _=>∃ea C w,vs=[.ref ea]/\H ea=some (.ext (excφ ea C))/\wd C=some w/\∀H',aU H H'->Q (.str w) H'
def spR(P:Program)(w:World)(K:PySem.W.Frag)(mg:Str->Option Value)(base:Heap)(k0:Nat)(told:Str)(wd:Addr->Option Str):Sp:=λ vs H Q _=>∃f cls dd sl fd k sp,vs=[.ref f]/\H f=some (.frz ⟨cls,dd,.func fd,sl⟩ (.own f))/\cY P w K mg base (CX1 P w) k f fd [] sp/\k<=k0/\Binds K fd [] []/\
 sp [] H (λ _ H'=>Q (.str told) H') (λ c _ H1=>∃C wo,c= .ref C/\wd C=some wo/\∀H',aU H1 H'->Q (.str wo) H')
section
variable{X:Cx}{E:XK}{n0 n1 n2 few cn pe told:Str}{C' fc:Addr}{fdc:FuncData}{kc k0:Nat}{wd:Addr->Option Str}
theorem aE7(D:dB X E)(hc:X.calm=true)(hN:X.N=[n0,n1,n2])(nd:X.N.Nodup)(l0:X.env.scope.names.lookup n0=some .local)(l1:X.env.scope.names.lookup n1=some .local)(l2:X.env.scope.names.lookup n2=some .local)(hf:∀x,X.fn x=true)
  (hm:X.mg few=some (.ref C'))(hg:Gl X few)(hC':gk X.K C')(FC:FnH X.prog X.w X.K X.mg X.base kc fc fdc [pe] (spW wd))(hgc:Gl X cn)(hmc:X.mg cn=some (.ref fc))(hkc:PySem.W.keepIn X.K (.ref fc)=true)(hbc:Binds X.K fdc [pe] [])
  (hr:dg k0 X.A)(hkk:kc<=k0)(hw:∀C w,wd C=some w->gk X.K C/\rC X.K C C'=true){p1 p2 p3 p4 p5 p6 p7 p8 p9 p10 p11 p12 p13 p14 p15 p16:Pos}{j1:Nat}{vs:List V}{H:Hp}{Q:VK}{E0:XK}(h:spR X.prog X.w X.K X.mg X.base k0 told wd vs H Q E0)
  (d1:(few==("__debug__":Str))=false:=by decide)(d2:(cn==("__debug__":Str))=false:=by decide)(d3:(n0==("__debug__":Str))=false:=by decide)(d4:(n1==("__debug__":Str))=false:=by decide)(d5:(n2==("__debug__":Str))=false:=by decide)
  (d6:(n0==("__classdict__":Str))=false:=by decide)(d7:(n1==("__classdict__":Str))=false:=by decide)(d8:(n2==("__classdict__":Str))=false:=by decide):
  ∃t,PSs X [.Assign [.Name n1 p1] (.Constant (.str told) j1 p2) p3,.Try [.Expr (.Call (.Name n0 p4) [] [] p5) p6] [.ExceptHandler (some (.Name few p7)) (some n2) [.Assign [.Name n1 p8] (.Call (.Name cn p9) [.Name n2 p10] [] p11) p12] p13] [] [] p14,.Return (some (.Name n1 p15)) p16] t/\
   t {nx:=λ _ H'=>Q .non H',rt:=Q} (start X.N vs) H:=by
 obtain⟨f,cls,dd,sl,fd,k,sp,rfl,hH,F,hk,hb,hsp⟩:=h;have i0:X.N[0]? =some n0:=by rw[hN];rfl
 have i1:X.N[1]? =some n1:=by rw[hN];rfl
 have i2:X.N[2]? =some n2:=by rw[hN];rfl
 refine⟨_,eO (kh nd i1 (.inl l1) dq (hf:=.inl (hf _))) (eO (aEj (E':=λ c _ H1=>∃C wo,c= .ref C/\wd C=some wo/\∀H',aU H1 H'->Q (.str wo) H') D hc nd i2 l2 hm hg hC' (tb:=wJ (aBJ X k0 0 λ c _ H1=>∃C wo,c= .ref C/\wd C=some wo/\∀H',aU H1 H'->Q (.str wo) H')) (th:=z6 (zZ (spW wd) [] E (iB (nF 2) lV)) (n8 1))
  (λ pins=>kZ (pI (aEr (X:=X.tr pins _) hr Cx.tr_pass i0 (.inl l0) d3 d6))) (λ pins ea=>kZ (kh (X:=X.ha pins ea) nd i1 (.inl l1) (aEx (X:=X.ha pins ea) FC ((hr.h.mono hkk).mark) hgc hmc hkc hbc .nil (aa (fY (X:=X.ha pins ea) i2 (.inl l2) d5 d8) cP) d2) (hf:=.inl (hf _)))) d1) (kZ (uU (fY i1 (.inl l1) d4 d7)))),?_⟩
 have hs:start X.N [.ref f]=[some (.ref f),none,none]:=by rw[hN];rfl
 rw[hs];have e:(λ(_:V) H1=>Q (.str told) H1)=λ(_:V) H1=>aIh (nF 1) {nx:=λ _ H'=>Q .non H',rt:=Q} [some (.ref f),some (.str told),none] H1:=by
  funext v H1;exact propext ⟨λ q=>⟨_,rfl,q⟩,λ⟨v',e',q⟩=>by cases e';exact q⟩
 rw[e]at hsp;have key:aEE X 2 C' (λ c _ H1=>∃C wo,c= .ref C/\wd C=some wo/\∀H',aU H1 H'->Q (.str wo) H') (wJ (aBJ X k0 0 λ c _ H1=>∃C wo,c= .ref C/\wd C=some wo/\∀H',aU H1 H'->Q (.str wo) H')) (z6 (zZ (spW wd) [] E (iB (nF 2) lV)) (n8 1))
  {nx:=aIh (nF 1) {nx:=λ _ H'=>Q .non H',rt:=Q},rt:=Q} [some (.ref f),some (.str told),none] H:=?_
 ·exact key
 refine⟨⟨f,cls,dd,sl,fd,k,sp,rfl,hH,F,hk,hb,hsp⟩,λ c H1 ⟨C,wo,ec,hwd,hq⟩=>⟨C,ec,(hw C wo hwd).1,(hw C wo hwd).2,λ σ1 ea hl hn=>?_⟩⟩
 ·rw[hN]at hl
  obtain⟨a,b,c,rfl⟩:∃a b c,σ1=[a,b,c]:=by
   match σ1,hl with
   |[a,b,c],_=>exact⟨a,b,c,rfl⟩
  refine⟨.ref ea,rfl,ea,C,wo,rfl,au,hwd,λ H' sm=>⟨.str wo,rfl,hq H' λ b o e=>sm b o ?_⟩⟩;rw[aV (bD e hn)];exact e
end
mutual
def eqD:D->D->Bool
 | .non,.non=>true
 | .bl a,.bl b=>a==b
 | .bl a,.int b=>(if a then 1 else 0)==b
 | .int a,.bl b=>a==(if b then 1 else 0)
 | .int a,.int b=>a==b
 | .str a,.str b=>a==b
 | .tup l,.tup m=>gw l m
 | .lst l,.lst m=>gw l m
 |_,_=>false
def gw:List D->List D->Bool
 |[],[]=>true
 |x::xs,y::ys=>eqD x y&&gw xs ys
 |_,_=>false
end
mutual
def fU:D->Nat
 | .tup l=>cB l+1
 | .lst l=>cB l+1
 |_=>0
def cB:List D->Nat
 |[]=>0
 |d::r=>max (fU d) (cB r)
end
mutual
def aN:D->Bool
 | .tup l=>ao l
 | .lst l=>ao l
 | .dct=>false
 |_=>true
def ao:List D->Bool
 |[]=>true
 |d::r=>aN d&&ao r
end
mutual
theorem gf:∀d:D,aN d=true->eqD d d=true
 | .non,_=>by simp[eqD]
 | .bl b,_=>by simp[eqD]
 | .int i,_=>by simp[eqD]
 | .str x,_=>by simp[eqD]
 | .tup l,h=>by simp only[eqD];exact fu l (by simpa[aN]using h)
 | .lst l,h=>by simp only[eqD];exact fu l (by simpa[aN]using h)
 | .dct,h=>by simp[aN]at h
theorem fu:∀l:List D,ao l=true->gw l l=true
 |[],_=>by simp[gw]
 |d::r,h=>by
  simp only[ao,Bool.and_eq_true]at h;simp only[gw,Bool.and_eq_true];exact⟨gf d h.1,fu r h.2⟩
end
mutual
theorem Rep.inj{H:Hp}:∀{x:V} {d e:D},Rep H x d->Rep H x e->d=e
 |_,_,_,.non,h=>by cases h;rfl
 |_,_,_,.bl b,h=>by cases h;rfl
 |_,_,_,.int i,h=>by cases h;rfl
 |_,_,_,.str x,h=>by cases h;rfl
 |_,_,_,.tup ha r,h=>by
  cases h with
  |tup hb r'=>rw[ha]at hb;cases hb;rw[fB.inj r r']
  |lst hb _=>rw[ha]at hb;cases hb
  |dct hb=>rw[ha]at hb;cases hb
 |_,_,_,.lst ha r,h=>by
  cases h with
  |tup hb _=>rw[ha]at hb;cases hb
  |lst hb r'=>rw[ha]at hb;cases hb;rw[fB.inj r r']
  |dct hb=>rw[ha]at hb;cases hb
 |_,_,_,.dct ha,h=>by
  cases h with
  |tup hb _=>rw[ha]at hb;cases hb
  |lst hb _=>rw[ha]at hb;cases hb
  |dct hb=>rfl
theorem fB.inj{H:Hp}:∀{xs:List V} {ds es:List D},fB H xs ds->fB H xs es->ds=es
 |_,_,_,.nil,h=>by cases h;rfl
 |_,_,_,.cons h r,h'=>by
  cases h' with
  |cons k r'=>rw[Rep.inj h k,fB.inj r r']
end
theorem mK:∀(l m:List D),gw l m=((List.range (min l.length m.length)).all (λ j=>match l[j]?,m[j]? with|some a,some b=>eqD a b|_,_=>true)&&l.length==m.length)
 |[],[]=>by simp[gw]
 |[],y::ys=>by simp[gw]
 |x::xs,[]=>by simp[gw]
 |x::xs,y::ys=>by
  have ih:=mK xs ys;simp only[gw,ih,List.length_cons,Nat.succ_min_succ,List.range_succ_eq_map,List.all_cons,List.all_map,List.getElem?_cons_zero,Function.comp_def,List.getElem?_cons_succ,Nat.succ_eq_add_one,Nat.add_one_inj,Bool.and_assoc];congr 1;congr 1;simp
theorem jk:∀{l:List D} {d:D},d∈l->fU d<=cB l
 |x::r,d,h=>by
  simp only[cB];rcases List.mem_cons.mp h with rfl|h
  ·exact Nat.le_max_left _ _
  ·exact Nat.le_trans (jk h) (Nat.le_max_right _ _)
theorem eV:∀{l:List D} {d:D},d∈l->ao l=true->aN d=true
 |x::r,d,h,n=>by
  simp only[ao,Bool.and_eq_true]at n;rcases List.mem_cons.mp h with rfl|h
  ·exact n.1
  ·exact eV h n.2
theorem cA{ds es:List D}{n m:Nat}(hn:n=ds.length)(hm:m=es.length):((List.range (min n m)).all (λ j=>match ds[j]?,es[j]? with|some a,some b=>eqD a b|_,_=>true)&&n==m)=gw ds es:=by
 subst hn hm;exact(mK ds es).symm
theorem fO{P:Program}{w:World}{H:Hp}{h:Heap}(hok:HOk P w H h){a:Addr}{xs:List V}(e:H a=some (.tup xs)):∃its:List Value,Vals xs its/\h.IsTuple a its.toArray:=by
 obtain⟨_,its,r,p⟩:=hok a _ e;exact⟨its,r,p⟩
theorem du{P:Program}{w:World}{H:Hp}{h:Heap}(hok:HOk P w H h){a:Addr}{xs:List V}(e:H a=some (.lst xs)):∃its:List Value,Vals xs its/\h.IsList a its.toArray:=by
 obtain⟨_,its,n,r,p⟩:=hok a _ e;exact⟨its,r,_,p,rfl,n,rfl⟩
section
variable{P:Program}{w:World}{H:Hp}{s:Shared}
mutual
theorem yx(hok:HOk P w H s.heap):∀{x y:V} {d e:D} (n:Nat) {A:Around} {u v:Value},Rep H x d->Rep H y e->RelV x u->RelV y v->fU d<=n->aN d=true->aN e=true->A.units+n<cLine->SeqAt.EqAt A s u v (eqD d e)
 |_,_,_,_,n,A,u,v,r1,r2,ru,rv,hd,nd,ne,hu=>by
  have hu0:A.units<cLine:=by omega
  cases r1 with
  |tup h1 q1=>
   rename_i a xs ds;cases ru;obtain⟨its,w1,t1⟩:=fO hok h1;cases r2 with
   |tup h2 q2=>
    rename_i b ys es;cases rv;obtain⟨its2,w2,t2⟩:=fO hok h2;by_cases hab:a=b
    ·subst hab
     have e:=Rep.inj (Rep.tup h1 q1) (Rep.tup h2 q2);rw[<-e,gf _ nd];exact SeqAt.EqAt.same _
    ·simp only[fU]at hd
     obtain⟨k,rfl⟩:∃k,n=k+1:=⟨n-1,by omega⟩
     have z:=SeqAt.RcAt.tuples t1 t2 hu0 (vK hok k q1 q2 w1 w2 (by omega) (by simpa[aN]using nd) (by simpa[aN]using ne) (by show A.units+1+k<cLine;omega));rw[cA (by rw[List.size_toArray,<-w1.length,q1.length]) (by rw[List.size_toArray,<-w2.length,q2.length])]at z;simp only[eqD];exact SeqAt.EqAt.of_refs hab z
   |lst h2 q2=>
    cases rv;obtain⟨its2,w2,t2⟩:=du hok h2;simp only[eqD];exact SeqAt.EqAt.tuple_list t1 t2 hu0
   |dct h2=>simp[aN]at ne
   |non=>cases rv;simp only[eqD];exact SeqAt.EqAt.tuple_none t1 hu0
   |bl b=>cases rv;simp only[eqD];exact SeqAt.EqAt.tuple_bool b t1 hu0
   |int i=>obtain⟨tk,rfl⟩:=rv;simp only[eqD];exact SeqAt.EqAt.tuple_int i tk t1 hu0
   |str i=>obtain⟨tk,rfl⟩:=rv;simp only[eqD];exact SeqAt.EqAt.tuple_str i tk t1 hu0
  |lst h1 q1=>
   rename_i a xs ds;cases ru;obtain⟨its,w1,t1⟩:=du hok h1;cases r2 with
   |lst h2 q2=>
    rename_i b ys es;cases rv;obtain⟨its2,w2,t2⟩:=du hok h2;by_cases hab:a=b
    ·subst hab
     have e:=Rep.inj (Rep.lst h1 q1) (Rep.lst h2 q2);rw[<-e,gf _ nd];exact SeqAt.EqAt.same _
    ·simp only[fU]at hd
     obtain⟨k,rfl⟩:∃k,n=k+1:=⟨n-1,by omega⟩
     have l1:its.toArray.size=ds.length:=by rw[List.size_toArray,<-w1.length,q1.length]
     have l2:its2.toArray.size=es.length:=by rw[List.size_toArray,<-w2.length,q2.length]
     by_cases hl:its.toArray.size=its2.toArray.size
     ·have z:=SeqAt.RcAt.lists t1 t2 hl hu0 (vK hok k q1 q2 w1 w2 (by omega) (by simpa[aN]using nd) (by simpa[aN]using ne) (by show A.units+1+k<cLine;omega))
      have z':=cA (ds:=ds) (es:=es) l1 l2;rw[<-hl,Nat.min_self,beq_self_eq_true,Bool.and_true]at z';rw[z']at z;simp only[eqD];exact SeqAt.EqAt.of_refs hab z
     ·have z:=SeqAt.RcAt.lists_lengths t1 t2 (by simpa using hl) hu0
      have z':=cA (ds:=ds) (es:=es) l1 l2;rw[beq_eq_false_iff_ne.mpr hl,Bool.and_false]at z';simp only[eqD];rw[<-z'];exact SeqAt.EqAt.of_refs hab z
   |tup h2 q2=>
    cases rv;obtain⟨its2,w2,t2⟩:=fO hok h2;simp only[eqD];exact SeqAt.EqAt.list_tuple t1 t2 hu0
   |dct h2=>simp[aN]at ne
   |non=>cases rv;simp only[eqD];exact SeqAt.EqAt.list_none t1 hu0
   |bl b=>cases rv;simp only[eqD];exact SeqAt.EqAt.list_bool b t1 hu0
   |int i=>obtain⟨tk,rfl⟩:=rv;simp only[eqD];exact SeqAt.EqAt.list_int i tk t1 hu0
   |str i=>obtain⟨tk,rfl⟩:=rv;simp only[eqD];exact SeqAt.EqAt.list_str i tk t1 hu0
  |dct h1=>simp[aN]at nd
  |non=>
   cases ru;cases r2 with
   |tup h2 q2=>cases rv;obtain⟨_,_,t2⟩:=fO hok h2;simp only[eqD];exact SeqAt.EqAt.none_tuple t2 hu0
   |lst h2 q2=>cases rv;obtain⟨_,_,t2⟩:=du hok h2;simp only[eqD];exact SeqAt.EqAt.none_list t2 hu0
   |dct h2=>simp[aN]at ne
   |non=>cases rv;simp only[eqD];exact SeqAt.EqAt.same _
   |bl b=>cases rv;simp only[eqD];exact SeqAt.EqAt.none_bool b
   |int i=>obtain⟨tk,rfl⟩:=rv;simp only[eqD];exact SeqAt.EqAt.none_int i tk
   |str i=>obtain⟨tk,rfl⟩:=rv;simp only[eqD];exact SeqAt.EqAt.none_str i tk
  |bl a=>
   cases ru;cases r2 with
   |tup h2 q2=>cases rv;obtain⟨_,_,t2⟩:=fO hok h2;simp only[eqD];exact SeqAt.EqAt.bool_tuple a t2 hu0
   |lst h2 q2=>cases rv;obtain⟨_,_,t2⟩:=du hok h2;simp only[eqD];exact SeqAt.EqAt.bool_list a t2 hu0
   |dct h2=>simp[aN]at ne
   |non=>cases rv;simp only[eqD];exact SeqAt.EqAt.bool_none a
   |bl b=>cases rv;simp only[eqD];exact SeqAt.EqAt.bool_bool a b
   |int i=>obtain⟨tk,rfl⟩:=rv;simp only[eqD];exact SeqAt.EqAt.bool_int a i tk
   |str i=>obtain⟨tk,rfl⟩:=rv;simp only[eqD];exact SeqAt.EqAt.bool_str a i tk
  |int a=>
   obtain⟨tu,rfl⟩:=ru;cases r2 with
   |tup h2 q2=>cases rv;obtain⟨_,_,t2⟩:=fO hok h2;simp only[eqD];exact SeqAt.EqAt.int_tuple a tu t2 hu0
   |lst h2 q2=>cases rv;obtain⟨_,_,t2⟩:=du hok h2;simp only[eqD];exact SeqAt.EqAt.int_list a tu t2 hu0
   |dct h2=>simp[aN]at ne
   |non=>cases rv;simp only[eqD];exact SeqAt.EqAt.int_none a tu
   |bl b=>cases rv;simp only[eqD];exact SeqAt.EqAt.int_bool a tu b
   |int i=>obtain⟨tk,rfl⟩:=rv;simp only[eqD];exact SeqAt.EqAt.int_int a tu i tk
   |str i=>obtain⟨tk,rfl⟩:=rv;simp only[eqD];exact SeqAt.EqAt.int_str a tu i tk
  |str a=>
   obtain⟨tu,rfl⟩:=ru;cases r2 with
   |tup h2 q2=>cases rv;obtain⟨_,_,t2⟩:=fO hok h2;simp only[eqD];exact SeqAt.EqAt.str_tuple a tu t2 hu0
   |lst h2 q2=>cases rv;obtain⟨_,_,t2⟩:=du hok h2;simp only[eqD];exact SeqAt.EqAt.str_list a tu t2 hu0
   |dct h2=>simp[aN]at ne
   |non=>cases rv;simp only[eqD];exact SeqAt.EqAt.str_none a tu
   |bl b=>cases rv;simp only[eqD];exact SeqAt.EqAt.str_bool a tu b
   |int i=>obtain⟨tk,rfl⟩:=rv;simp only[eqD];exact SeqAt.EqAt.str_int a tu i tk
   |str i=>obtain⟨tk,rfl⟩:=rv;simp only[eqD];exact SeqAt.EqAt.str_str a tu i tk
 termination_by _ _ _ _ n=>(n,0)
theorem vK(hok:HOk P w H s.heap):∀{xs ys:List V} {ds es:List D} (n:Nat) {A:Around} {us vs:List Value},fB H xs ds->fB H ys es->Vals xs us->Vals ys vs->cB ds<=n->ao ds=true->ao es=true->A.units+n<cLine->
  ∀(j:Nat) (h1:j<us.toArray.size) (h2:j<vs.toArray.size),SeqAt.EqAt A s us.toArray[j] vs.toArray[j] (match ds[j]?,es[j]? with|some a,some b=>eqD a b|_,_=>true)
 |xs,ys,ds,es,n,A,us,vs,q1,q2,w1,w2,hd,nd,ne,hu,j,h1,h2=>by
  have hj1:j<us.length:=by simpa using h1
  have hj2:j<vs.length:=by simpa using h2
  have hx:j<xs.length:=by rw[w1.length];exact hj1
  have hy:j<ys.length:=by rw[w2.length];exact hj2
  have ex:=List.getElem?_eq_getElem hx;have ey:=List.getElem?_eq_getElem hy;obtain⟨d,ed,rd⟩:=q1.get ex;obtain⟨e,ee,re⟩:=q2.get ey;obtain⟨u,eu,ru⟩:=w1.get ex;obtain⟨v,ev,rv⟩:=w2.get ey;have e1:us.toArray[j]=u:=by
   rw[List.getElem_toArray];exact Option.some.inj ((List.getElem?_eq_getElem hj1).symm.trans eu)
  have e2:vs.toArray[j]=v:=by
   rw[List.getElem_toArray];exact Option.some.inj ((List.getElem?_eq_getElem hj2).symm.trans ev)
  rw[e1,e2,ed,ee];exact yx hok n rd re ru rv (Nat.le_trans (jk (List.mem_of_getElem? ed)) hd) (eV (List.mem_of_getElem? ed) nd) (eV (List.mem_of_getElem? ee) ne) hu
 termination_by _ _ _ _ n=>(n,1)
end
theorem aB5(hok:HOk P w H s.heap){x y:V}{d e:D}(n:Nat){A:Around}{u v:Value}(r1:Rep H x d)(r2:Rep H y e)(ru:RelV x u)(rv:RelV y v)(hd:fU d<=n)(nd:aN d=true)(ne:aN e=true)(hu:A.units+n<cLine):
  SeqAt.RcAt A s u v (eqD d e)/\SeqAt.RcNeAt A s u v (!eqD d e):=by
 have hu0:A.units<cLine:=by omega
 cases r1 with
 |tup h1 q1=>
  rename_i a xs ds;cases ru;obtain⟨its,w1,t1⟩:=fO hok h1;cases r2 with
  |tup h2 q2=>
   rename_i b ys es;cases rv;obtain⟨its2,w2,t2⟩:=fO hok h2;simp only[fU]at hd;obtain⟨k,rfl⟩:∃k,n=k+1:=⟨n-1,by omega⟩
   have he:=vK hok (A:=A.in1) k q1 q2 w1 w2 (by omega) (by simpa[aN]using nd) (by simpa[aN]using ne) (by show A.units+1+k<cLine;omega);have z:=SeqAt.RcAt.tuples t1 t2 hu0 he;have z2:=SeqAt.RcNeAt.tuples t1 t2 hu0 he;rw[cA (by rw[List.size_toArray,<-w1.length,q1.length]) (by rw[List.size_toArray,<-w2.length,q2.length])]at z z2;simp only[eqD];exact⟨z,z2⟩
  |lst h2 q2=>
   cases rv;obtain⟨its2,w2,t2⟩:=du hok h2;simp only[eqD];exact⟨SeqAt.RcAt.tuple_list t1 t2 hu0,SeqAt.RcNeAt.tuple_list t1 t2 hu0⟩
  |dct h2=>simp[aN]at ne
  |non=>cases rv;simp only[eqD];exact⟨SeqAt.RcAt.tuple_none t1 hu0,SeqAt.RcNeAt.tuple_none t1 hu0⟩
  |bl b=>cases rv;simp only[eqD];exact⟨SeqAt.RcAt.tuple_bool b t1 hu0,SeqAt.RcNeAt.tuple_bool b t1 hu0⟩
  |int i=>obtain⟨tk,rfl⟩:=rv;simp only[eqD];exact⟨SeqAt.RcAt.tuple_int i tk t1 hu0,SeqAt.RcNeAt.tuple_int i tk t1 hu0⟩
  |str i=>obtain⟨tk,rfl⟩:=rv;simp only[eqD];exact⟨SeqAt.RcAt.tuple_str i tk t1 hu0,SeqAt.RcNeAt.tuple_str i tk t1 hu0⟩
 |lst h1 q1=>
  rename_i a xs ds;cases ru;obtain⟨its,w1,t1⟩:=du hok h1;cases r2 with
  |lst h2 q2=>
   rename_i b ys es;cases rv;obtain⟨its2,w2,t2⟩:=du hok h2;simp only[fU]at hd;obtain⟨k,rfl⟩:∃k,n=k+1:=⟨n-1,by omega⟩
   have l1:its.toArray.size=ds.length:=by rw[List.size_toArray,<-w1.length,q1.length]
   have l2:its2.toArray.size=es.length:=by rw[List.size_toArray,<-w2.length,q2.length]
   have z':=cA (ds:=ds) (es:=es) l1 l2;by_cases hl:its.toArray.size=its2.toArray.size
   ·have he:=vK hok (A:=A.in1) k q1 q2 w1 w2 (by omega) (by simpa[aN]using nd) (by simpa[aN]using ne) (by show A.units+1+k<cLine;omega)
    have z:=SeqAt.RcAt.lists t1 t2 hl hu0 he;have z2:=SeqAt.RcNeAt.lists t1 t2 hl hu0 he;rw[<-hl,Nat.min_self,beq_self_eq_true,Bool.and_true]at z';rw[z']at z z2;simp only[eqD];exact⟨z,z2⟩
   ·rw[beq_eq_false_iff_ne.mpr hl,Bool.and_false]at z'
    simp only[eqD];rw[<-z'];exact⟨SeqAt.RcAt.lists_lengths t1 t2 (by simpa using hl) hu0,SeqAt.RcNeAt.lists_lengths t1 t2 (by simpa using hl) hu0⟩
  |tup h2 q2=>
   cases rv;obtain⟨its2,w2,t2⟩:=fO hok h2;simp only[eqD];exact⟨SeqAt.RcAt.list_tuple t1 t2 hu0,SeqAt.RcNeAt.list_tuple t1 t2 hu0⟩
  |dct h2=>simp[aN]at ne
  |non=>cases rv;simp only[eqD];exact⟨SeqAt.RcAt.list_none t1 hu0,SeqAt.RcNeAt.list_none t1 hu0⟩
  |bl b=>cases rv;simp only[eqD];exact⟨SeqAt.RcAt.list_bool b t1 hu0,SeqAt.RcNeAt.list_bool b t1 hu0⟩
  |int i=>obtain⟨tk,rfl⟩:=rv;simp only[eqD];exact⟨SeqAt.RcAt.list_int i tk t1 hu0,SeqAt.RcNeAt.list_int i tk t1 hu0⟩
  |str i=>obtain⟨tk,rfl⟩:=rv;simp only[eqD];exact⟨SeqAt.RcAt.list_str i tk t1 hu0,SeqAt.RcNeAt.list_str i tk t1 hu0⟩
 |dct h1=>simp[aN]at nd
 |non=>
  cases ru;cases r2 with
  |tup h2 q2=>cases rv;obtain⟨_,_,t2⟩:=fO hok h2;simp only[eqD];exact⟨SeqAt.RcAt.none_tuple t2 hu0,SeqAt.RcNeAt.none_tuple t2 hu0⟩
  |lst h2 q2=>cases rv;obtain⟨_,_,t2⟩:=du hok h2;simp only[eqD];exact⟨SeqAt.RcAt.none_list t2 hu0,SeqAt.RcNeAt.none_list t2 hu0⟩
  |dct h2=>simp[aN]at ne
  |non=>cases rv;simp only[eqD];exact⟨SeqAt.RcAt.none_none,SeqAt.RcNeAt.none_none⟩
  |bl b=>cases rv;simp only[eqD];exact⟨SeqAt.RcAt.none_bool b,SeqAt.RcNeAt.none_bool b⟩
  |int i=>obtain⟨tk,rfl⟩:=rv;simp only[eqD];exact⟨SeqAt.RcAt.none_int i tk,SeqAt.RcNeAt.none_int i tk⟩
  |str i=>obtain⟨tk,rfl⟩:=rv;simp only[eqD];exact⟨SeqAt.RcAt.none_str i tk,SeqAt.RcNeAt.none_str i tk⟩
 |bl a=>
  cases ru;cases r2 with
  |tup h2 q2=>cases rv;obtain⟨_,_,t2⟩:=fO hok h2;simp only[eqD];exact⟨SeqAt.RcAt.bool_tuple a t2 hu0,SeqAt.RcNeAt.bool_tuple a t2 hu0⟩
  |lst h2 q2=>cases rv;obtain⟨_,_,t2⟩:=du hok h2;simp only[eqD];exact⟨SeqAt.RcAt.bool_list a t2 hu0,SeqAt.RcNeAt.bool_list a t2 hu0⟩
  |dct h2=>simp[aN]at ne
  |non=>cases rv;simp only[eqD];exact⟨SeqAt.RcAt.bool_none a,SeqAt.RcNeAt.bool_none a⟩
  |bl b=>cases rv;simp only[eqD];exact⟨SeqAt.RcAt.bool_bool a b,SeqAt.RcNeAt.bool_bool a b⟩
  |int i=>obtain⟨tk,rfl⟩:=rv;simp only[eqD];exact⟨SeqAt.RcAt.bool_int a i tk,SeqAt.RcNeAt.bool_int a i tk⟩
  |str i=>obtain⟨tk,rfl⟩:=rv;simp only[eqD];exact⟨SeqAt.RcAt.bool_str a i tk,SeqAt.RcNeAt.bool_str a i tk⟩
 |int a=>
  obtain⟨tu,rfl⟩:=ru;cases r2 with
  |tup h2 q2=>cases rv;obtain⟨_,_,t2⟩:=fO hok h2;simp only[eqD];exact⟨SeqAt.RcAt.int_tuple a tu t2 hu0,SeqAt.RcNeAt.int_tuple a tu t2 hu0⟩
  |lst h2 q2=>cases rv;obtain⟨_,_,t2⟩:=du hok h2;simp only[eqD];exact⟨SeqAt.RcAt.int_list a tu t2 hu0,SeqAt.RcNeAt.int_list a tu t2 hu0⟩
  |dct h2=>simp[aN]at ne
  |non=>cases rv;simp only[eqD];exact⟨SeqAt.RcAt.int_none a tu,SeqAt.RcNeAt.int_none a tu⟩
  |bl b=>cases rv;simp only[eqD];exact⟨SeqAt.RcAt.int_bool a tu b,SeqAt.RcNeAt.int_bool a tu b⟩
  |int i=>obtain⟨tk,rfl⟩:=rv;simp only[eqD];exact⟨SeqAt.RcAt.int_int a tu i tk,SeqAt.RcNeAt.int_int a tu i tk⟩
  |str i=>obtain⟨tk,rfl⟩:=rv;simp only[eqD];exact⟨SeqAt.RcAt.int_str a tu i tk,SeqAt.RcNeAt.int_str a tu i tk⟩
 |str a=>
  obtain⟨tu,rfl⟩:=ru;cases r2 with
  |tup h2 q2=>cases rv;obtain⟨_,_,t2⟩:=fO hok h2;simp only[eqD];exact⟨SeqAt.RcAt.str_tuple a tu t2 hu0,SeqAt.RcNeAt.str_tuple a tu t2 hu0⟩
  |lst h2 q2=>cases rv;obtain⟨_,_,t2⟩:=du hok h2;simp only[eqD];exact⟨SeqAt.RcAt.str_list a tu t2 hu0,SeqAt.RcNeAt.str_list a tu t2 hu0⟩
  |dct h2=>simp[aN]at ne
  |non=>cases rv;simp only[eqD];exact⟨SeqAt.RcAt.str_none a tu,SeqAt.RcNeAt.str_none a tu⟩
  |bl b=>cases rv;simp only[eqD];exact⟨SeqAt.RcAt.str_bool a tu b,SeqAt.RcNeAt.str_bool a tu b⟩
  |int i=>obtain⟨tk,rfl⟩:=rv;simp only[eqD];exact⟨SeqAt.RcAt.str_int a tu i tk,SeqAt.RcNeAt.str_int a tu i tk⟩
  |str i=>obtain⟨tk,rfl⟩:=rv;simp only[eqD];exact⟨SeqAt.RcAt.str_str a tu i tk,SeqAt.RcNeAt.str_str a tu i tk⟩
end
section
variable{X:Cx}
def inD(d:D)(es:List D):Bool:=es.any λ e=>eqD e d
end
theorem dY:∀{us:List Value} {ns:List Int},IntsAre us ns->Vals (ns.map V.int) us
 |_,_,.nil=>.nil
 |_,_,.cons n t r=>.cons ⟨t,rfl⟩ (dY r)
section
variable{X:Cx}
theorem ph:cO X (.builtin "sorted") (λ xs H Q=>∃p ns,xs=[.ref p]/\SqL X.K H p (ns.map V.int)/\ns.length<64/\∀ns':List Int,ns'.Perm ns->ns'.Pairwise (·<=·)->New H (.lst (ns'.map V.int)) Q):=by
 intro pins s σ H xs us Q I r h;obtain⟨p,ns,rfl,hp,h64,q⟩:=h;obtain⟨u,rfl,ru⟩:=vals1 r;cases ru;obtain⟨its,rv,pl,hz⟩:=I.list hp;have hI:IntsAre its ns:=intsAre_of rv;have hlen:its.length<64:=by
  have:=rv.length
  rw[List.length_map]at this;omega
 refine sorted_ints pl.isList hI hlen λ out ns' h1 h2 h3=>?_
 obtain⟨e,he⟩:=sortedAll_at s.heap its out;have hfr:H (s.heap.objs.size+1)=none:=I.hok.fresh (Nat.le_succ _);refine⟨.ref (s.heap.objs.size+1),upd H (s.heap.objs.size+1) (.lst (ns'.map V.int)),I.laid (t':=s.toks) (λ b o q=>sortedAll_old q) (Nat.le_succ _) ?_,rfl,(q ns' h2 h3).at hfr⟩;refine⟨?_,out.toList,e,dY h1,?_⟩
 ·rw[List.length_map,h2.length_eq]
  exact Nat.le_trans (Nat.le_of_lt h64) (by decide)
 ·rw[Array.toArray_toList]
  exact he
end
section
variable{P:Program}{w:World}{H:Hp}{s:Shared}
open Classical in
def gr(H:Hp)(d:D)(u:Value):Bool:=if h:∃e,∃y,RelV y u/\Rep H y e then eqD (choose h) d else false
theorem lB{d e:D}{y:V}{u:Value}(r:RelV y u)(h:Rep H y e):gr H d u=eqD e d:=by
 have hx:∃e,∃y,RelV y u/\Rep H y e:=⟨e,y,r,h⟩
 unfold gr;rw[dif_pos hx];obtain⟨y',r',h'⟩:=Classical.choose_spec hx;have e1:=RelV.inj r r';subst e1;rw[Rep.inj h' h]
theorem jt{d:D}:∀{xs:List V} {es:List D} {us:List Value},fB H xs es->Vals xs us->us.any (gr H d)=inD d es
 |_,_,_,.nil,.nil=>rfl
 |_,_,_,.cons h r,.cons k t=>by
  unfold inD;rw[List.any_cons,List.any_cons,lB k h,jt r t];rfl
theorem jP(hok:HOk P w H s.heap){d:D}{x:V}{v:Value}(rx:Rep H x d)(rv:RelV x v){n:Nat}{A:Around}(hu:A.units+n<cLine)(nd:aN d=true):∀{xs:List V} {es:List D} {us:List Value},fB H xs es->Vals xs us->cB es<=n->ao es=true->∀u∈us,SeqAt.EqAt A s u v (gr H d u)
 |_,_,_,.nil,.nil,_,_,u,hm=>by cases hm
 |_,_,_,.cons h r,.cons k t,hd,ne,u,hm=>by
  simp only[cB]at hd;simp only[ao,Bool.and_eq_true]at ne;rcases List.mem_cons.mp hm with z|z
  ·subst z
   rw[lB k h];exact yx hok n h rx k rv (Nat.le_trans (Nat.le_max_left _ _) hd) ne.1 nd hu
  ·exact jP hok rx rv hu nd r t (Nat.le_trans (Nat.le_max_right _ _) hd) ne.2 u z
end
section
variable{X:Cx}
end
section
variable{H:Hp}{d:D}
theorem sH:∀{xs:List V} {es:List D} {us:List Value},fB H xs es->Vals xs us->us.countP (gr H d)=es.countP (λ e=>eqD e d)
 |_,_,_,.nil,.nil=>rfl
 |_,_,_,.cons h r,.cons k t=>by rw[List.countP_cons,List.countP_cons,lB k h,sH r t]
theorem vU:∀{xs:List V} {es:List D} {us:List Value},fB H xs es->Vals xs us->us.map (gr H d)=es.map (λ e=>eqD e d)
 |_,_,_,.nil,.nil=>rfl
 |_,_,_,.cons h r,.cons k t=>by rw[List.map_cons,List.map_cons,lB k h,vU r t]
end
section
variable{X:Cx}
def aGj:V->List V->Hp->VK->Prop:=λ x xs H Q=>∃a y d es,x= .ref a/\xs=[y]/\Rep H (.ref a) (.lst es)/\Rep H y d/\cB es<=60/\aN d=true/\ao es=true/\Q (.int (es.countP (λ e=>eqD e d):Nat)) H
theorem aD5(hu:X.A.units+64<cLine):MtR X "list.count" aGj:=by
 intro pins s σ H x xs v us Q I rx rxs h;obtain⟨a,y,d,es,rfl,rfl,ra,rd,hd,nd,ne,q⟩:=h;cases rx;obtain⟨u,rfl,ru⟩:=Vals.one rxs;have hu1:X.A.in1.units+60<cLine:=by show X.A.units+1+60<cLine;omega
 cases ra with
 |lst ha r=>
  obtain⟨its,rv,tl⟩:=du I.hok ha;obtain⟨⟨cls,dd,data,sl⟩,ho,hc,n,hdd⟩:=id tl;simp only at hc hdd;subst hc hdd;refine call_meets PySem.F.slot_list_count ⟨_,ho,rfl⟩ PySem.F.entry_list_count (PySem.F.args_list_count_2 _ _) (SeqAt.list_countAt a its.toArray n dd sl u (gr H d))
   ⟨ho,λ w hw=>jP I.hok rd ru hu1 nd r rv hd ne w (by simpa using hw),?_⟩
  rw[show its.toArray.toList=its from rfl,sH r rv];exact⟨.int _,H,I.tok _,⟨_,rfl⟩,q⟩
def aC9:V->List V->Hp->VK->Prop:=λ x xs H Q=>∃a y d es j,x= .ref a/\xs=[y]/\Rep H (.ref a) (.lst es)/\Rep H y d/\cB es<=60/\aN d=true/\ao es=true/\
 (es.map λ e=>eqD e d)[j]? =some true/\(∀m,m<j->(es.map λ e=>eqD e d)[m]? =some false)/\Q (.int (j:Nat)) H
theorem wY(hu:X.A.units+64<cLine):MtR X "list.index" aC9:=by
 intro pins s σ H x xs v us Q I rx rxs h;obtain⟨a,y,d,es,j,rfl,rfl,ra,rd,hd,nd,ne,e1,e2,q⟩:=h;cases rx;obtain⟨u,rfl,ru⟩:=Vals.one rxs;have hu1:X.A.in1.units+60<cLine:=by show X.A.units+1+60<cLine;omega
 cases ra with
 |lst ha r=>
  obtain⟨its,rv,tl⟩:=du I.hok ha;obtain⟨⟨cls,dd,data,sl⟩,ho,hc,n,hdd⟩:=id tl;simp only at hc hdd;subst hc hdd;have em:=vU (d:=d) r rv;rw[<-em]at e1 e2;have hj:j<its.length:=by
   have:=(List.getElem?_eq_some_iff.mp e1).1
   simpa using this
  have hlen:its.length<=sizeLine:=by
   have h1:=(I.hok a _ ha).1;rw[rv.length]at h1;exact h1
  have hz:sizeLine<2^62:=by decide
  refine call_meets PySem.F.slot_list_index ⟨_,ho,rfl⟩ PySem.F.entry_list_index (PySem.F.args_list_index_2 _ _) (SeqAt.list_indexAt a its.toArray n dd sl u (gr H d) j (by simpa using hj) (by omega) ?_ λ m hm hmj=>?_)
   ⟨ho,λ w hw=>jP I.hok rd ru hu1 nd r rv hd ne w (by simpa using hw),⟨.int _,H,I.tok _,⟨_,rfl⟩,q⟩⟩
  ·rw[List.getElem?_map,List.getElem?_eq_getElem hj]at e1
   simpa using e1
  ·have h2:=e2 m hmj
   have hm':m<its.length:=by simpa using hm
   rw[List.getElem?_map,List.getElem?_eq_getElem hm']at h2;simpa using h2
end
def aBK(K:PySem.W.Frag)(c:V):TE:=tCB (aIP K) (iB (nF 0) (iB (tC c) lV))
def lK(K:PySem.W.Frag):List V->TA
 |[]=>lV
 |c::cs=>iB (aBK K c) (lK K cs)
def wI:List Str->TA
 |[]=>lV
 |x::xs=>iB (tC (.str x)) (wI xs)
def Kt(K:PySem.W.Frag)(C:Addr)(c:V)(b:Bool):Prop:=∃u,RelV c u/\PySem.W.kitOne K (.ref C) u=some b
section
variable{K:PySem.W.Frag}{σ:St}{H:Hp}{ea C:Addr}
theorem xr{c:V}{b:Bool}{Q:VK}(hs:σ[0]? =some (some (.ref ea)))(hH:H ea=some (.ext (excφ ea C)))(hk:aID K C)(h:Kt K C c b)(q:Q (.bl b) H):aBK K c σ H Q:=by
 obtain⟨u,r,e⟩:=h;exact⟨.ref ea,hs,ea,C,c,u,b,rfl,r,hH,hk,e,q⟩
theorem lW(hs:σ[0]? =some (some (.ref ea)))(hH:H ea=some (.ext (excφ ea C)))(hk:aID K C):∀{cs:List V} {bs:List Bool} {Q:List V->Hp->Prop},Paired (Kt K C) cs bs->Q (bs.map V.bl) H->lK K cs σ H Q
 |_,_,_,.nil,q=>q
 |_,_,_,.cons h r,q=>xr hs hH hk h (lW hs hH hk r q)
theorem t7:∀{l:List Str} {Q:List V->Hp->Prop},Q (l.map V.str) H->wI l σ H Q
 |[],_,q=>q
 |x::l,_,q=>t7 (l:=l) (Q:=λ xs H2=>_) q
end
structure Wd(K:PySem.W.Frag)(c1 c2:V)(ks:List (List V))(ws:List Str)(C:Addr)(w:Str):Prop where
 k:aID K C
 q1:Kt K C c1 true
 q2:Kt K C c2 true
 bs:∃(b1 b2 b3 b4:List Bool) (j:Nat) (k1 k2 k3 k4:List V),ks=[k1,k2,k3,k4]/\Paired (Kt K C) k1 b1/\Paired (Kt K C) k2 b2/\Paired (Kt K C) k3 b3/\Paired (Kt K C) k4 b4/\(b1++b2++b3++b4).length<=100/\(b1++b2++b3++b4).count true=1/\
  (b1++b2++b3++b4)[j]? =some true/\(∀m,m<j->(b1++b2++b3++b4)[m]? =some false)/\ws[j]? =some w
theorem yN{H:Hp}:∀bs:List Bool,fB H (bs.map V.bl) (bs.map D.bl)
 |[]=>.nil
 |b::bs=>.cons (.bl b) (yN bs)
theorem aCL:∀bs:List Bool,cB (bs.map D.bl)=0
 |[]=>rfl
 |b::bs=>by
  have h:=aCL bs;simp only[List.map_cons,cB,fU,h];rfl
theorem u9:∀bs:List Bool,ao (bs.map D.bl)=true
 |[]=>rfl
 |b::bs=>by simp only[List.map_cons,ao,aN,u9 bs];rfl
theorem aFu(b:Bool):eqD (.bl b) (.bl true)=b:=by cases b<;>simp[eqD]
theorem aAl:∀bs:List Bool,(bs.map D.bl).countP (λ e=>eqD e (.bl true))=bs.count true
 |[]=>rfl
 |b::bs=>by
  rw[List.map_cons,List.countP_cons,aFu,aAl bs,List.count_cons];cases b<;>rfl
section
variable{X:Cx}{n0 n1 n2 odd:Str}{c1 c2:V}{k1 k2 k3 k4:List V}{l1 l2:List Str}{a1 a2:Expr}{as1 as2 e1 e2 e3 e4 w1 w2:List Expr}{kw1 kw2:List Keyword}{Q:VK}{H:Hp}{vs:List V}
 {p1 p2 p3 p4 p5 p6 p7 p8 p9 p10 p11 p12 p13 p14 p15 p16 p17 p18 p19 p20 p21 p22 p23 p24 p25 p26 p27 p28 p29 p30 p31 p32 p33 p34 p35 p36 p37 p38 p39 p40:Pos}{q1 q2 q3 q4 q5 q6 q7:Pos}{j1 j2 j3 j4 j5:Nat}{E0:XK}{wd:Addr->Option Str}
theorem aCO(hN:X.N=[n0,n1,n2])(nd:X.N.Nodup)(m0:X.env.scope.names.lookup n0=some .local)(m1:X.env.scope.names.lookup n1=some .local)(m2:X.env.scope.names.lookup n2=some .local)(hu:X.A.units+64<cLine)
  (h1:PE X (.Call a1 as1 kw1 p1) (aBK X.K c1))(h2:PE X (.Call a2 as2 kw2 p2) (aBK X.K c2))(g1:PA X e1 (lK X.K k1))(g2:PA X e2 (lK X.K k2))(g3:PA X e3 (lK X.K k3))(g4:PA X e4 (lK X.K k4))(g5:PA X w1 (wI l1))(g6:PA X w2 (wI l2))
  (hl1:(p20.endLine==p21.line)=true)(hl2:(p30.endLine==p31.line)=true)(hz:(l1++l2).length<=100)(h:spW wd vs H Q E0)(hw:∀C w,wd C=some w->Wd X.K c1 c2 [k1,k2,k3,k4] (l1++l2) C w)
  (d0:(n0==("__debug__":Str))=false:=by decide)(d1:(n1==("__debug__":Str))=false:=by decide)(d2:(n2==("__debug__":Str))=false:=by decide)
  (f0:(n0==("__classdict__":Str))=false:=by decide)(f1:(n1==("__classdict__":Str))=false:=by decide)(f2:(n2==("__classdict__":Str))=false:=by decide):
  ∃t,PSs X [.If (.BoolOp .Or [.UnaryOp .Not (.Call a1 as1 kw1 p1) p3,.UnaryOp .Not (.Call a2 as2 kw2 p2) p4] p5) [.Return (some (.Constant (.str odd) j1 p6)) p7] [] p8,
   .Assign [.Name n1 p9] (.List e1 p10) p11,.Assign [.Name n1 p12] (.BinOp (.Name n1 p13) .Add (.List e2 p14) p15) p16,.Assign [.Name n1 p17] (.BinOp (.Name n1 p18) .Add (.List e3 p19) p22) p23,.Assign [.Name n1 p24] (.BinOp (.Name n1 p25) .Add (.List e4 p26) p27) p28,
   .If (.Compare (.Call (.Attribute (.Name n1 p29) "count" p20) [.Constant (.bool true) j2 p32] [] p21) [.NotEq] [.Constant (.int 1) j3 p33] p34) [.Return (some (.Constant (.str odd) j4 p35)) p36] [] p37,
   .Assign [.Name n2 p38] (.List w1 p39) p40,.Return (some (.Subscript (.BinOp (.Name n2 q1) .Add (.List w2 q2) q3) (.Call (.Attribute (.Name n1 q4) "index" p30) [.Constant (.bool true) j5 q5] [] p31) q6)) q7] t/\
   t {nx:=λ _ H'=>Q .non H',rt:=Q} (start X.N vs) H:=by
 obtain⟨ea,C,w,rfl,hH,hwd,hq⟩:=h;obtain⟨hk,hq1,hq2,b1,b2,b3,b4,j,k1',k2',k3',k4',ek,r1,r2,r3,r4,hlen,hcnt,hj,hjm,hjw⟩:=hw C w hwd;cases ek;have i0:X.N[0]? =some n0:=by rw[hN];rfl
 have i1:X.N[1]? =some n1:=by rw[hN];rfl
 have i2:X.N[2]? =some n2:=by rw[hN];rfl
 have v1:∀{pos:Pos},PE X (.Name n1 pos) (nF 1):=λ{pos}=>fY i1 (.inl m1) d1 f1
 have cat:∀{pp pq pr:Pos} {es:List Expr} {ks:List V},PA X es (lK X.K ks)->PE X (.BinOp (.Name n1 pp) .Add (.List es pq) pr) (tOp aEc (nF 1) (aEF (lK X.K ks))):=λ g=>aEs yV v1 (kj g)
 refine⟨_,eO (aEm (aIS (aBa (aEg h1)) (aEe (aBa (aEg h2)))).pt (kZ (uU dq)) yQ)
  (eO (kh nd i1 (.inl m1) (kj g1) (hf:=.inr m1)) (eO (kh nd i1 (.inl m1) (cat g2) (hf:=.inr m1)) (eO (kh nd i1 (.inl m1) (cat g3) (hf:=.inr m1)) (eO (kh nd i1 (.inl m1) (cat g4) (hf:=.inr m1))
  (eO (aEm (aJC (aJT (wW PySem.F.plainAttrs_list PySem.F.slot_list_count PySem.F.type_list_count (aD5 hu) v1 (aa aEy cP) (hline:=hl1)) aEu)) (kZ (uU dq)) yQ)
  (eO (kh nd i2 (.inl m2) (kj g5) (hf:=.inr m2)) (kZ (uU (aEt yq (aEs yV (fY i2 (.inl m2) d2 f2) (kj g6)) (wW PySem.F.plainAttrs_list PySem.F.slot_list_index PySem.F.type_list_index (wY hu) v1 (aa aEy cP) (hline:=hl2)) λ _ _=>rfl))))))))),?_⟩
 have hs:start X.N [.ref ea]=[some (.ref ea),none,none]:=by rw[hN];rfl
 rw[hs];have sz:∀{n:Nat},n<=100->n<=sizeLine:=λ h=>Nat.le_trans h (by decide)
 simp only[List.length_append]at hlen hz;refine xr (ea:=ea) rfl hH hk hq1 ⟨true,rfl,xr (ea:=ea) rfl hH hk hq2 ⟨true,rfl,?_⟩⟩;refine lW (ea:=ea) rfl hH hk r1 ⟨sz (by rw[List.length_map];omega),λ a1 H1 s1 ha1 _=>?_⟩;refine⟨.ref a1,rfl,lW (ea:=ea) rfl (s1 _ _ hH) hk r2 ⟨sz (by rw[List.length_map];omega),λ x2 G2 t2 hx2 _=>⟨a1,x2,_,_,rfl,rfl,t2 _ _ ha1,hx2,sz (by simp only[List.length_map];omega),λ a2 H2 s2 ha2 _=>?_⟩⟩⟩;have hH2:=s2 _ _ (t2 _ _ (s1 _ _ hH));refine⟨.ref a2,rfl,lW (ea:=ea) rfl hH2 hk r3 ⟨sz (by rw[List.length_map];omega),λ x3 G3 t3 hx3 _=>⟨a2,x3,_,_,rfl,rfl,t3 _ _ ha2,hx3,sz (by simp only[List.length_map,List.length_append];omega),λ a3 H3 s3 ha3 _=>?_⟩⟩⟩;have hH3:=s3 _ _ (t3 _ _ hH2);refine⟨.ref a3,rfl,lW (ea:=ea) rfl hH3 hk r4 ⟨sz (by rw[List.length_map];omega),λ x4 G4 t4 hx4 _=>⟨a3,x4,_,_,rfl,rfl,t4 _ _ ha3,hx4,sz (by simp only[List.length_map,List.length_append];omega),λ a4 H4 s4 ha4 _=>?_⟩⟩⟩;rw[<-List.map_append,<-List.map_append,<-List.map_append]at ha4;generalize hbs:b1++b2++b3++b4=bs at hcnt hj hjm ha4;have hc1:(bs.map D.bl).countP (λ e=>eqD e (.bl true))=1:=(aAl bs).trans hcnt;refine⟨.ref a4,rfl,.inl ⟨rfl,_,.inl (.inl ha4)⟩,a4,.bl true,.bl true,bs.map D.bl,rfl,rfl,.lst ha4 (yN bs),.bl true,by rw[aCL];exact Nat.zero_le _,rfl,u9 bs,1,1,by rw[hc1];rfl,rfl,false,rfl,?_⟩;refine t7 ⟨sz (by rw[List.length_map];omega),λ a5 H5 s5 ha5 _=>?_⟩;refine⟨.ref a5,rfl,t7 ⟨sz (by rw[List.length_map];omega),λ x6 G6 t6 hx6 _=>⟨a5,x6,_,_,rfl,rfl,t6 _ _ ha5,hx6,sz (by simp only[List.length_map];omega),λ a7 H7 s7 ha7 _=>?_⟩⟩⟩;have ha4':=s7 _ _ (t6 _ _ (s5 _ _ ha4));refine⟨.ref a4,rfl,.inl ⟨rfl,_,.inl (.inl ha4')⟩,a4,.bl true,.bl true,bs.map D.bl,j,rfl,rfl,.lst ha4' (yN bs),.bl true,by rw[aCL];exact Nat.zero_le _,rfl,u9 bs,?_,λ m hm=>?_,a7,_,_,.str w,rfl,rfl,.inl (.inl ha7),?_,?_⟩
 ·rw[List.map_map,List.getElem?_map,hj];exact congrArg some (aFu true)
 ·rw[List.map_map,List.getElem?_map,hjm m hm];exact congrArg some (aFu false)
 ·rw[<-List.map_append]
  have hjl:j<(l1++l2).length:=(List.getElem?_eq_some_iff.mp hjw).1;unfold atI ixN;rw[if_pos (Int.natCast_nonneg j),List.length_map,if_pos (by omega),Int.toNat_natCast]
  show((l1++l2).map V.str)[j]? =_
  rw[List.getElem?_map,hjw];rfl
 ·exact hq _ λ b o e=>s7 _ _ (t6 _ _ (s5 _ _ (s4 _ _ (t4 _ _ (s3 _ _ (t3 _ _ (s2 _ _ (t2 _ _ (s1 _ _ e)))))))))
end
structure zV(d:Nat)(e tg iter:Expr)(ifs:List Expr)(body:Env->Addr->Sem Unit):Prop where
 under:∀(A:Around) (it:Value) (D:Addr) (env:Env),A.under (.compLoop e d it (.ref D) env)=A
 den:∀(prog:Program) (w:World) (it:Value) (D:Addr) (env:Env),(model prog w).den (.compLoop e d it (.ref D) env)=(compTurn e d it (.ref D) env).onRaise (λ x=>do noteFrame x env;theTreesLotGoes x)
 turn:∀(it:Value) (D:Addr) (env:Env),compTurn e d it (.ref D) env=(do
   standAt iter.pos
   match <-pyNext it with
   |none=>pure (.done .next)
   |some v=>
    letOwnedTupleGo tg it v
    assign tg env v
    let mut ok:=true
    for c in ifs do if ok then ok <-isTrue c env (eval c env)
    if ok then
     body env D
    again (.compLoop e d it (.ref D) env))
section
variable{s:Shared}{A:Around}{prog:Program}{w:World}{R:Result->Shared->Prop}
theorem zF{D:Addr}(hb:zV d e tg iter ifs body)(I:Nat->Shared->Prop)
  (one:∀n s,I n s->wpAny (model prog w) A (pyNext it) (λ r s₁=>match r with
   |none=>R (.ok .next) s₁
   |some v=>wpAny (model prog w) A (letOwnedTupleGo tg it v) (λ _ s₁=>wpAny (model prog w) A (assign tg env v) (λ _ s₂=>
     wpAny (model prog w) A (forIn ifs true λ c r=>if r=true then do let ok <-isTrue c env (eval c env);pure (ForInStep.yield ok)else pure (ForInStep.yield r)) (λ ok s₃=>if ok=true then wpAny (model prog w) A (body env D) (λ _ s₅=>∃m,m<n/\I m s₅) (λ _ _=>False) s₃
      else∃m,m<n/\I m s₃) (λ _ _=>False) s₂) (λ _ _=>False) s₁) (λ _ _=>False) s₁) (λ _ _=>False) s)
  (n:Nat)(h:I n s):codeAny (model prog w) A (.compLoop e d it (.ref D) env) R s:=by
 refine codeAny_loop rfl I (λ n s hJ=>?_) n h;rw[hb.under,hb.den];refine wpAny_noted ?_;rw[hb.turn];refine wpAny_bind (wpAny_standAt (wpAny_bind (wpAny_mono (one n s hJ) (λ r s₁ h₁=>?_) λ _ _ h'=>h'.elim)));cases r with
 |none=>exact wpAny_pure h₁
 |some v=>
  refine wpAny_bind (wpAny_mono h₁ (λ _ s₁ h₁=>?_) λ _ _ h'=>h'.elim);refine wpAny_bind (wpAny_mono h₁ (λ _ s₂ h₂=>wpAny_bind (wpAny_mono h₂ (λ ok s₃ h₃=>?_) λ _ _ h'=>h'.elim)) λ _ _ h'=>h'.elim);cases ok with
  |false=>exact wpAny_pure (And.intro rfl h₃)
  |true=>exact wpAny_bind (wpAny_mono h₃ (λ _ s₄ h₄=>wpAny_pure ⟨rfl,h₄⟩) λ _ _ h'=>h'.elim)
end
def zW(d:Nat)(e:Expr):Prop:=∀{prog:Program} {w:World} {A:Around} {R:Result->Shared->Prop} {s:Shared} {it acc:Value} {env:Env},
  codeAny (model prog w) A (.compLoop e d it acc env) R s->
  wpAny (model prog w) A (pyIter it) (λ it' s'=>codeAny (model prog w) A (.compLoop e d it' acc env) R s') (notedBy (model prog w) A env λ x s'=>R (.error x) s') s->
  codeAny (model prog w) A (.compStart e d it acc env) R s
structure aGT(mk:Sem Value)(obs:Obj->Prop)(o:Addr->HO):Prop where
 make:∀{prog:Program} {w:World} {A:Around} {Q:Value->Shared->Prop} {E:Value->Shared->Prop} {s:Shared},(∀ob,obs ob->Q (.ref s.heap.objs.size) {s with heap:=s.heap.push ob})->wpAny (model prog w) A mk Q E s
 live:∀ob,obs ob->ob.isFreed=false
 ok:∀{P:Program} {w:World} {H:Hp} {h:Heap} {a:Addr} {ob:Obj},obs ob->h.get? a=some ob->sysModules<a->bw P w H h a (o a)
def PB(X:Cx)(body:Env->Addr->Sem Unit)(tb:Addr->St->Hp->(Hp->Prop)->Prop):Prop:=
 ∀(D:Addr) (pins:List (Addr×Obj)) (s:Shared) (σ:St) (H:Hp) (Q:Hp->Prop),Inv X pins σ H s->tb D σ H Q->wpAny (model X.prog X.w) X.A (body X.env D) (λ _ s'=>∃H',Inv X pins σ H' s'/\Q H') X.xe s
theorem aLi(I:Inv X pins σ H s):sysModules<s.heap.objs.size:=
 Nat.lt_trans (by decide) (I.mod.glob.keeps I.bk).lt
def aK7(o:Addr->HO)(wi:TI)(st:St->St)(g:TG)(tt:TT)(tb:Addr->St->Hp->(Hp->Prop)->Prop):TE:=λ σ H Q=>wi σ H λ J H1=>∀l,H1 l=none->∃W:Nat->Nat->Hp->Prop,(∃m,W 0 m (upd H1 l (o l)))/\
 ∀i m H2,W i m H2->((J.stop i H2/\Q (.ref l) H2)\/(J.go i H2/\∀x H3,J.yld i H2 x H3->g x (st σ) H3 λ σ4 H4=>tt σ4 H4 λ ok H5=>
  if ok=true then tb l σ4 H5 λ H6=>∃m',m'<m/\W (i+1) m' H6 else∃m',m'<m/\W (i+1) m' H5))
section
variable{X:Cx}{e tg iter:Expr}{ifs:List Expr}{scope:Scope}{N:List Str}{st:St->St}{ks:List Nat}{wi:TI}{g:TG}{tt:TT}{body:Env->Addr->Sem Unit}{tb:Addr->St->Hp->(Hp->Prop)->Prop}{pos:Pos}{mk:Sem Value}{obs:Obj->Prop}{o:Addr->HO}
theorem aGE(B:dX X scope N st ks)(hc:X.calm=true)(hT:zV 0 e tg iter ifs body)(hS:zW 0 e)(hA:aGT mk obs o)(hg:∀C fp s₀ H₀,PG (X.block scope C N fp s₀ H₀) tg g)(hgo:qI g ks)(ht:∀C fp s₀ H₀,aAv (X.block scope C N fp s₀ H₀) ifs tt)
  (he:∀C fp s₀ H₀,PB (X.block scope C N fp s₀ H₀) body tb){Q:VK}{RR:Value->Addr->Result->Shared->Prop}
  (I:Inv X pins σ H1 s₂)(T:Turn X.prog X.w X.K tg J fp it tn)(h0:tn 0 s₂.heap)(hfp:∀b∈fp,qJ X pins H1 b)
  (h:∀l,H1 l=none->∃W:Nat->Nat->Hp->Prop,(∃m,W 0 m (upd H1 l (o l)))/\
   ∀i m H2,W i m H2->((J.stop i H2/\Q (.ref l) H2)\/(J.go i H2/\∀x H3,J.yld i H2 x H3->g x (st σ) H3 λ σ4 H4=>tt σ4 H4 λ ok H5=>
    if ok=true then tb l σ4 H5 λ H6=>∃m',m'<m/\W (i+1) m' H6 else∃m',m'<m/\W (i+1) m' H5)))
  (hRR:∀D C H' s',(∃σ',Inv (X.block scope C N fp s₂ H1) [] σ' H' s')->s₂.heap.objs.size<=C->Q (.ref D) H'->RR (.ref D) C (.ok .next) s'):
  wpAny (model X.prog X.w) X.A mk (λ acc s₃=>wpAny (model X.prog X.w) X.A (newFunctionEnv scope X.env.globals (aq scope X.env) [] X.env.qual none .none (some X.env)) (λ cenv s₄=>
   codeAny (model X.prog X.w) X.A (.compStart e 0 (.ref it) acc {cenv with scope:=relabel scope X.env}) (RR acc cenv.locals) s₄) E s₃) E s₂:=by
 refine hA.make λ ob hob=>aCk λ h₁ hns₁ hold₁ hcs₁=>?_
 dsimp only at hns₁ hold₁ hcs₁ ⊢;generalize hH2:s₂.heap.push ob=P2 at hns₁ hold₁ hcs₁ ⊢;have hC:P2.objs.size=s₂.heap.objs.size+1:=by rw[<-hH2,Heap.size_push]
 have hDC:s₂.heap.objs.size≠P2.objs.size:=by rw[hC];exact Nat.ne_of_lt (Nat.lt_succ_self _)
 have hCle:s₂.heap.objs.size<=P2.objs.size:=by rw[hC];exact Nat.le_succ _
 have old:∀b o,s₂.heap.get? b=some o->h₁.get? b=some o:=λ b o e=>hold₁ b o (hH2▸Heap.get?_push_of_some _ e)
 have hacc:h₁.get? s₂.heap.objs.size=some ob:=hold₁ _ _ (hH2▸Heap.get?_push_size _ (hA.live ob hob));generalize hCe:P2.objs.size=C at hns₁ hold₁ hcs₁ hDC hCle hC ⊢;have hHD:H1 s₂.heap.objs.size=none:=I.hok.fresh (Nat.le_refl _);have I0:Inv (X.block scope C N fp s₂ H1) [] (st σ) (upd H1 s₂.heap.objs.size (o s₂.heap.objs.size)) {s₂ with heap:=h₁,toks:=s₂.toks}:=
  I.block B hfp (λ b hb=>by obtain⟨o,e,_⟩:=T.obj 0 _ h0 b hb;exact⟨o,e⟩) (Nat.le_refl _) hCle hDC old hns₁ hcs₁ (λ c hc=>Nat.ne_of_lt (Nat.lt_of_le_of_lt hCle hc)) (hA.ok hob hacc (aLi I))
 obtain⟨W,⟨m0,w0⟩,step⟩:=h _ hHD;have h01:tn 0 h₁:=T.keep 0 _ _ h0 λ b _ o e=>old b o e
 have stat:∀{H':Hp},(∀b∈fp,H' b=none)->∀b∈fp,qJ (X.block scope C N fp s₂ H1) [] H' b:=λ{H'} hn b hb=>
  ⟨hn b hb,(I0.ok.exf b hb).1,I0.ok.exfs b hb,.inl hb,λ x c e=>(I0.ok.exf b hb).2 x c e,λ p hp=>absurd (show p∈([]:List (Addr×Obj))from hp) (by simp)⟩
 have fr0:∀b∈fp,upd H1 s₂.heap.objs.size (o s₂.heap.objs.size) b=none:=λ b hb=>by
  obtain⟨o,e,_⟩:=T.obj 0 _ h0 b hb;rw[aV (Nat.ne_of_lt (Heap.lt_size e))];exact(hfp b hb).1
 have loop:∀sx:Shared,sx={s₂ with heap:=h₁,toks:=s₂.toks}->
   codeAny (model X.prog X.w) X.A (.compLoop e 0 (.ref it) (.ref s₂.heap.objs.size) (X.block scope C N fp s₂ H1).env) (RR (.ref s₂.heap.objs.size) C) sx:=by
  rintro sx rfl;refine zF hT (λ n s'=>∃i H2,Inv (X.block scope C N fp s₂ H1) [] (st σ) H2 s'/\tn i s'.heap/\(∀b∈fp,H2 b=none)/\W i n H2) ?_ m0 ⟨0,_,I0,h01,fr0,w0⟩;rintro n s3 ⟨i,H2,I2,st2,fr2,w2⟩;rcases step i n H2 w2 with ⟨stop,q⟩|⟨go,nxt⟩
  ·refine thn (T.done (X.block scope C N fp s₂ H1) rfl rfl rfl hc i [] s3 (st σ) H2 _ I2 (stat fr2) st2 stop) λ r s4 ⟨hr,I4⟩=>?_
   subst hr;exact hRR _ C H2 s4 ⟨_,I4⟩ hCle q
  ·refine thn (T.item (X.block scope C N fp s₂ H1) rfl rfl rfl hc i [] s3 (st σ) H2 _ I2 (stat fr2) st2 go) λ r s4 ⟨u,hr,h4⟩=>?_
   subst hr;refine thn h4 λ _ s5 ⟨x,H5,I5,r5,y5,st5,fr5⟩=>?_
   have I5p:=I5.pinned (stat fr5) (T.obj _ _ st5);refine thn (hg C fp s₂ H1 _ s5 (st σ) H5 x u _ I5p r5 (hgo _ _ _ _ (nxt x H5 y5))) λ _ s6 ⟨σ6,H6,I6,q6,aHR,ag6⟩=>?_
   refine thn (ht C fp s₂ H1 _ s6 σ6 H6 _ I6 q6) λ ok s7 ⟨H7,I7,q7⟩=>?_
   have again:∀{H9:Hp} {s9:Shared},Inv (X.block scope C N fp s₂ H1) ([]++qe fp s5.heap) σ6 H9 s9->(∃m',m'<n/\W (i+1) m' H9)->
     ∃m,m<n/\∃i H2,Inv (X.block scope C N fp s₂ H1) [] (st σ) H2 s9/\tn i s9.heap/\(∀b∈fp,H2 b=none)/\W i m H2:=λ{H9 s9} I9 ⟨m',hm,w9⟩=>by
    have pin9:∀b∈fp,∀o,s5.heap.get? b=some o->s9.heap.get? b=some o/\H9 b=none:=λ b hb o e=>by
     have z:=I9.pin (b,o) (List.mem_append_right _ (List.mem_append_right _ (lA hb e)));exact⟨z.1,z.2.1⟩
    refine⟨m',hm,i+1,H9,I9.unpinned.weak (by rw[aHR]) (λ k v e=>?_),T.keep _ _ _ st5 λ b hb o e=>(pin9 b hb o e).1,λ b hb=>?_,w9⟩
    ·have hk:k<(st σ).length:=(List.getElem?_eq_some_iff.mp e).1
     have hkN:k<N.length:=by rw[<-B.len σ];exact hk
     obtain⟨_,hks,_⟩:=B.val σ k _ v (List.getElem?_eq_getElem hkN) e;rw[ag6 k hks];exact e
    ·obtain⟨o,e,_⟩:=T.obj _ _ st5 b hb
     exact(pin9 b hb o e).2
   cases ok with
   |false=>
    rw[if_neg Bool.false_ne_true]at q7 ⊢;exact again I7 q7
   |true=>
    rw[if_pos rfl]at q7 ⊢;exact thn (he C fp s₂ H1 _ _ s7 σ6 H7 _ I7 q7) λ _ s8 ⟨H8,I8,q8⟩=>again I8 q8
 exact hS (loop _ rfl) (T.self X.A 0 _ _ _ h01 (loop _ rfl))
theorem aKq(B:dX X scope N st ks)(hc:X.calm=true)(hi:PI X tg iter wi)(hg:∀C fp s₀ H₀,PG (X.block scope C N fp s₀ H₀) tg g)(hgo:qI g ks)(ht:∀C fp s₀ H₀,aAv (X.block scope C N fp s₀ H₀) ifs tt)
  (hT:zV 0 e tg iter ifs body)(hS:zW 0 e)(hA:aGT mk obs o)(he:∀C fp s₀ H₀,PB (X.block scope C N fp s₀ H₀) body tb)(hcs:clausesOf e=⟨tg,iter,ifs,0⟩::gs)(hev:eval e X.env=comprehension e scope X.env (firstIterPos (⟨tg,iter,ifs,0⟩::gs) pos) mk false (eval iter X.env))(hs:∀x,foldedSetIterable iter X.env x=pure x:=by intro _;rfl):PE X e (aK7 o wi st g tt tb):=by
 intro pins s σ H Q I h;have hcl:closureFor scope X.env=pure (aq scope X.env):=gW λ y hy hk=>I.ok.has _ (B.free y hy hk)
 rw[hev];refine wpAny_comprehension_free (use:=none) hcs hs hcl B.kind B.loc (thn (hi pins s σ H _ I h) λ v s1 h1=>thn h1 λ itv s2 h2=>?_);obtain⟨it,fp,tn,J,H2,e,I2,T,st2,f2,hq⟩:=h2;subst e;refine aGE (RR:=λ acc C=>compPost (model X.prog X.w) X.A X.xe none (EP X pins σ Q) acc C) B hc hT hS hA hg hgo ht he I2 T st2 f2 hq ?_;intro D C H' s' hJ hCle q;have I3:=zP I2 f2 hJ;obtain⟨σ',J'⟩:=hJ;obtain⟨m,hn,_⟩:=id J'.loc;have hHC:H' C=none:=J'.free;refine⟨m,hn,λ h'' hs''=>⟨.ref D,H',?_,rfl,q⟩⟩;exact I3.turned (t':=s'.toks) (λ b o ne e=>(hs''.2 b ne).trans e) hHC (Nat.ne_of_gt (Nat.lt_of_lt_of_le I2.lt hCle)) (.inr (Nat.le_trans I2.sz hCle))
  (λ x c e z=>by obtain⟨v,ic⟩:=I2.cell x c e;exact absurd (Nat.lt_of_lt_of_le ic.lt (by rw[z];exact hCle)) (Nat.lt_irrefl _))
  (λ p hp z=>absurd (Nat.lt_of_lt_of_le (I2.pinL hp) (by rw[z];exact hCle)) (Nat.lt_irrefl _))
end
def vP(kx vx:Expr)(env:Env)(D:Addr):Sem Unit:=do
 let kv <-eval kx env;let vv <-holding [kv] (eval vx env);standAt {kx.pos with endLine:=vx.pos.endLine,endCol:=vx.pos.endCol}
 holding [kv,vv] (dictSet D kv vv)
theorem aDJ(kx vx tg iter:Expr)(ifs:List Expr)(scope:Scope)(pos:Pos):zV 0 (.DictComp kx vx [⟨tg,iter,ifs,0⟩] scope pos) tg iter ifs (vP kx vx):=
 ⟨λ _ _ _ _=>rfl,λ _ _ _ _ _=>rfl,λ _ _ _=>rfl⟩
theorem aBM(kx vx tg iter:Expr)(ifs:List Expr)(scope:Scope)(pos:Pos):zW 0 (.DictComp kx vx [⟨tg,iter,ifs,0⟩] scope pos):=λ h0 h=>codeAny_compStart_dict h0 h
section
variable{X:Cx}{elt tg iter:Expr}{ifs:List Expr}{scope:Scope}{pos:Pos}{N:List Str}{st:St->St}{ks:List Nat}{wi:TI}{g:TG}{tt:TT}{te:TE}
end
end L2
namespace VL
open PySem PySem.Spec PyProof.Rows L2
inductive D where
 |non|bl (b:Bool)|int (i:Int)|str (x:Str)|tup (l:List D)|lst (l:List D)|dct (ks vs:List D)|set (l:List Int)|scr (l:List Int)|fn (x:Str)
instance:Inhabited D:=⟨.non⟩
def kD:Key->D
 | .inl i=>.int i
 | .inr x=>.str x
variable{K:PySem.W.Frag}
def oG(K:PySem.W.Frag)(H:Hp)(a:Addr)(ns:List Int):Prop:=(∃o,H a=some (.frz o (.lst (ns.map V.int))))\/
 ∃(o:Obj) (its:Array Value) (n:Nat),K.lookup a=some o/\o.cls= .type "list"/\o.dict=none/\o.data= .seq its n/\its.size<=sizeLine/\Vals (ns.map V.int) its.toList
theorem oG.sq(h:oG K H a ns):SqL K H a (ns.map V.int):=by
 rcases h with h|h
 ·exact .inl (.inr h)
 ·exact .inr h
def hsh(ns:List Int):Int:=reduceHash (Builtin.Tuple.tupleHashOf (ns.map hashInt))
def dxO(a:Addr)(es:List (List Int×Addr×V)):HO:=.ext λ h=>es.length<=sizeLine/\(a==sysModules)=false/\∃(xs:List (List Int×Addr×Value)) (o:Obj) (ts:Array DictEntry) (ep:Nat),Paired (λ e x=>e.1=x.1/\e.2.1=x.2.1/\RelV e.2.2 x.2.2) es xs/\
 h.get? a=some o/\o.ExactDict/\o.data= .dict ts ep/\ts.toList=xs.map λ x=>⟨hsh x.1,.ref x.2.1,x.2.2⟩
structure DxK(K:PySem.W.Frag)(H:Hp)(a:Addr)(es:List (List Int×Addr×V)):Prop where
 at_:H a=some (dxO a es)
 ks:∀e∈es,SqT K H e.2.1 (e.1.map V.int)
 nd:(es.map (·.1)).Nodup
mutual
inductive Rp(K:PySem.W.Frag):(Addr->Prop)->Hp->V->D->Prop where
 |non {A:Addr->Prop} {H:Hp}:Rp K A H .non .non
 |bl {A:Addr->Prop} {H:Hp} (b:Bool):Rp K A H (.bl b) (.bl b)
 |int {A:Addr->Prop} {H:Hp} (i:Int):Rp K A H (.int i) (.int i)
 |str {A:Addr->Prop} {H:Hp} (x:Str):Rp K A H (.str x) (.str x)
 |tup {A:Addr->Prop} {H:Hp} {a:Addr} {xs:List V} {ds:List D} (h:SqT K H a xs) (r:Rps K A H xs ds):Rp K A H (.ref a) (.tup ds)
 |lst {A:Addr->Prop} {H:Hp} {a:Addr} {xs:List V} {ds:List D} (h:H a=some (.lst xs)) (m:A a) (r:Rps K (λ p=>A p/\p≠a) H xs ds):Rp K A H (.ref a) (.lst ds)
 |dK {A:Addr->Prop} {H:Hp} {a:Addr} {kvs:List (Key×V)} {ds:List D} (h:H a=some (.dK kvs)) (m:A a) (r:Rps K (λ p=>A p/\p≠a) H (kvs.map (·.2)) ds):Rp K A H (.ref a) (.dct (kvs.map λ p=>kD p.1) ds)
 |dT {A:Addr->Prop} {H:Hp} {a:Addr} {es:List (List Int×Addr×V)} {ds:List D} (h:DxK K H a es) (m:A a) (r:Rps K (λ p=>A p/\p≠a) H (es.map (·.2.2)) ds):Rp K A H (.ref a) (.dct (.non::es.map λ e=>.tup (e.1.map .int)) ds)
 |set {A:Addr->Prop} {H:Hp} {a:Addr} {S:Int->Bool} {l:List Int} (h:H a=some (.set S l.length)) (m:A a) (hS:∀i,S i=decide (i∈l)) (nd:l.Nodup):Rp K A H (.ref a) (.set l)
 |scr {A:Addr->Prop} {H:Hp} {a:Addr} {ns:List Int} (h:oG K H a ns):Rp K A H (.ref a) (.scr ns)
 |fn {A:Addr->Prop} {H:Hp} {a:Addr} {x:Str} (h:PySem.W.nsIn K mainGlobals x=some (some (.ref a))):Rp K A H (.ref a) (.fn x)
inductive Rps(K:PySem.W.Frag):(Addr->Prop)->Hp->List V->List D->Prop where
 |nil {A:Addr->Prop} {H:Hp}:Rps K A H [] []
 |cons {A:Addr->Prop} {H:Hp} {x:V} {d:D} {xs:List V} {ds:List D} (h:Rp K A H x d) (r:Rps K A H xs ds):Rps K A H (x::xs) (d::ds)
end
theorem oG.mono(s:aU H H')(h:oG K H a ns):oG K H' a ns:=by
 rcases h with ⟨o,h⟩|h
 ·exact .inl ⟨o,s _ _ h⟩
 ·exact .inr h
theorem DxK.mono(h:DxK K H a es)(s:aU H H'):DxK K H' a es:=⟨s _ _ h.at_,λ e he=>s.sqt (h.ks e he),h.nd⟩
theorem Rp.mono'(s:aU H H')(r:Rp K A H x d)(hA:∀p o,H p=some o->A p->A' p):Rp K A' H' x d:=
 Rp.rec (motive_1:=λ A H x d _=>∀H',aU H H'->∀A':Addr->Prop,(∀p o,H p=some o->A p->A' p)->Rp K A' H' x d) (motive_2:=λ A H xs ds _=>∀H',aU H H'->∀A':Addr->Prop,(∀p o,H p=some o->A p->A' p)->Rps K A' H' xs ds)
  (λ _ _ _ _=>.non) (λ b _ _ _ _=>.bl b) (λ i _ _ _ _=>.int i) (λ x _ _ _ _=>.str x) (λ h _ ih _ s _ hA=>.tup (s.sqt h) (ih _ s _ hA))
  (λ h m _ ih _ s _ hA=>.lst (s _ _ h) (hA _ _ h m) (ih _ s _ λ p o e z=>⟨hA p o e z.1,z.2⟩)) (λ h m _ ih _ s _ hA=>.dK (s _ _ h) (hA _ _ h m) (ih _ s _ λ p o e z=>⟨hA p o e z.1,z.2⟩))
  (λ h m _ ih _ s _ hA=>.dT (h.mono s) (hA _ _ h.at_ m) (ih _ s _ λ p o e z=>⟨hA p o e z.1,z.2⟩)) (λ h m hS nd _ s _ hA=>.set (s _ _ h) (hA _ _ h m) hS nd) (λ h _ s _ _=>.scr (h.mono s)) (λ h _ _ _ _=>.fn h) (λ _ _ _ _=>.nil) (λ _ _ ih ir _ s _ hA=>.cons (ih _ s _ hA) (ir _ s _ hA)) r H' s A' hA
theorem Rps.mono'(s:aU H H')(r:Rps K A H xs ds)(hA:∀p o,H p=some o->A p->A' p):Rps K A' H' xs ds:=
 Rps.rec (motive_1:=λ A H x d _=>∀H',aU H H'->∀A':Addr->Prop,(∀p o,H p=some o->A p->A' p)->Rp K A' H' x d) (motive_2:=λ A H xs ds _=>∀H',aU H H'->∀A':Addr->Prop,(∀p o,H p=some o->A p->A' p)->Rps K A' H' xs ds)
  (λ _ _ _ _=>.non) (λ b _ _ _ _=>.bl b) (λ i _ _ _ _=>.int i) (λ x _ _ _ _=>.str x) (λ h _ ih _ s _ hA=>.tup (s.sqt h) (ih _ s _ hA))
  (λ h m _ ih _ s _ hA=>.lst (s _ _ h) (hA _ _ h m) (ih _ s _ λ p o e z=>⟨hA p o e z.1,z.2⟩)) (λ h m _ ih _ s _ hA=>.dK (s _ _ h) (hA _ _ h m) (ih _ s _ λ p o e z=>⟨hA p o e z.1,z.2⟩))
  (λ h m _ ih _ s _ hA=>.dT (h.mono s) (hA _ _ h.at_ m) (ih _ s _ λ p o e z=>⟨hA p o e z.1,z.2⟩)) (λ h m hS nd _ s _ hA=>.set (s _ _ h) (hA _ _ h m) hS nd) (λ h _ s _ _=>.scr (h.mono s)) (λ h _ _ _ _=>.fn h) (λ _ _ _ _=>.nil) (λ _ _ ih ir _ s _ hA=>.cons (ih _ s _ hA) (ir _ s _ hA)) r H' s A' hA
theorem Rp.mono(s:aU H H')(hA:∀p o,H p=some o->A p->A' p)(r:Rp K A H x d):Rp K A' H' x d:=r.mono' s hA
theorem Rps.mono(s:aU H H')(hA:∀p o,H p=some o->A p->A' p)(r:Rps K A H x d):Rps K A' H' x d:=r.mono' s hA
theorem Rp.up(s:aU H H')(r:Rp K A H x d):Rp K A H' x d:=r.mono s λ _ _ _ h=>h
theorem Rp.wk(hA:∀p o,H p=some o->A p->A' p)(r:Rp K A H x d):Rp K A' H x d:=r.mono (aU.refl H) hA
theorem Rps.up(s:aU H H')(r:Rps K A H x d):Rps K A H' x d:=r.mono s λ _ _ _ h=>h
theorem Rps.wk(hA:∀p o,H p=some o->A p->A' p)(r:Rps K A H x d):Rps K A' H x d:=r.mono (aU.refl H) hA
def jN:HO->Bool
 | .lst _=>true| .dK _=>true| .dT _=>true| .set _ _=>true| .ext _=>true|_=>false
theorem yC(s:lJ l H H')(hl:H l=some o)(ho:jN o=true)(h:SqT K H a xs):SqT K H' a xs:=by
 rcases h with (h|⟨u,h⟩)|h
 ·refine .inl (.inl (s _ _ (λ e=>?_) h))
  subst e;rw[hl]at h;cases h;cases ho
 ·refine .inl (.inr ⟨u,s _ _ (λ e=>?_) h⟩)
  subst e;rw[hl]at h;cases h;cases ho
 ·exact .inr h
theorem aC5(s:lJ l H H')(hl:H l=some o)(ho:jN o=true)(h:oG K H a ns):oG K H' a ns:=by
 rcases h with ⟨u,h⟩|h
 ·exact .inl ⟨u,s _ _ (λ e=>by subst e;rw[hl]at h;cases h;cases ho) h⟩
 ·exact .inr h
theorem DxK.but(h:DxK K H a es)(s:lJ l H H')(hl:H l=some o)(ho:jN o=true)(ne:a≠l):DxK K H' a es:=
 ⟨s _ _ ne h.at_,λ e he=>yC s hl ho (h.ks e he),h.nd⟩
theorem Rp.but'(s:lJ l H H')(hl:H l=some o)(ho:jN o=true)(r:Rp K A H x d)(hA:¬A l):Rp K A H' x d:=
 Rp.rec (motive_1:=λ A H x d _=>∀H',lJ l H H'->∀o:HO,H l=some o->jN o=true->¬A l->Rp K A H' x d) (motive_2:=λ A H xs ds _=>∀H',lJ l H H'->∀o:HO,H l=some o->jN o=true->¬A l->Rps K A H' xs ds)
  (λ _ _ _ _ _ _=>.non) (λ b _ _ _ _ _ _=>.bl b) (λ i _ _ _ _ _ _=>.int i) (λ x _ _ _ _ _ _=>.str x) (λ h _ ih _ s o hl ho hA=>.tup (yC s hl ho h) (ih _ s o hl ho hA))
  (λ h m _ ih _ s o hl ho hA=>.lst (s _ _ (λ e=>hA (e▸m)) h) m (ih _ s o hl ho λ z=>hA z.1)) (λ h m _ ih _ s o hl ho hA=>.dK (s _ _ (λ e=>hA (e▸m)) h) m (ih _ s o hl ho λ z=>hA z.1))
  (λ h m _ ih _ s o hl ho hA=>.dT (h.but s hl ho λ e=>hA (e▸m)) m (ih _ s o hl ho λ z=>hA z.1)) (λ h m hS nd _ s o hl ho hA=>.set (s _ _ (λ e=>hA (e▸m)) h) m hS nd) (λ h _ s o hl ho _=>.scr (aC5 s hl ho h)) (λ h _ _ _ _ _ _=>.fn h) (λ _ _ _ _ _ _=>.nil) (λ _ _ ih ir _ s o hl ho hA=>.cons (ih _ s o hl ho hA) (ir _ s o hl ho hA)) r H' s o hl ho hA
theorem Rps.but'(s:lJ l H H')(hl:H l=some o)(ho:jN o=true)(r:Rps K A H xs ds)(hA:¬A l):Rps K A H' xs ds:=
 Rps.rec (motive_1:=λ A H x d _=>∀H',lJ l H H'->∀o:HO,H l=some o->jN o=true->¬A l->Rp K A H' x d) (motive_2:=λ A H xs ds _=>∀H',lJ l H H'->∀o:HO,H l=some o->jN o=true->¬A l->Rps K A H' xs ds)
  (λ _ _ _ _ _ _=>.non) (λ b _ _ _ _ _ _=>.bl b) (λ i _ _ _ _ _ _=>.int i) (λ x _ _ _ _ _ _=>.str x) (λ h _ ih _ s o hl ho hA=>.tup (yC s hl ho h) (ih _ s o hl ho hA))
  (λ h m _ ih _ s o hl ho hA=>.lst (s _ _ (λ e=>hA (e▸m)) h) m (ih _ s o hl ho λ z=>hA z.1)) (λ h m _ ih _ s o hl ho hA=>.dK (s _ _ (λ e=>hA (e▸m)) h) m (ih _ s o hl ho λ z=>hA z.1))
  (λ h m _ ih _ s o hl ho hA=>.dT (h.but s hl ho λ e=>hA (e▸m)) m (ih _ s o hl ho λ z=>hA z.1)) (λ h m hS nd _ s o hl ho hA=>.set (s _ _ (λ e=>hA (e▸m)) h) m hS nd) (λ h _ s o hl ho _=>.scr (aC5 s hl ho h)) (λ h _ _ _ _ _ _=>.fn h) (λ _ _ _ _ _ _=>.nil) (λ _ _ ih ir _ s o hl ho hA=>.cons (ih _ s o hl ho hA) (ir _ s o hl ho hA)) r H' s o hl ho hA
theorem Rp.but(s:lJ l H H')(hl:H l=some o)(ho:jN o=true)(hA:¬A l)(r:Rp K A H x d):Rp K A H' x d:=r.but' s hl ho hA
theorem Rps.but(s:lJ l H H')(hl:H l=some o)(ho:jN o=true)(hA:¬A l)(r:Rps K A H x d):Rps K A H' x d:=r.but' s hl ho hA
mutual
def imm:D->Bool
 | .tup l=>vp l
 | .lst _=>false
 | .dct _ _=>false
 | .set _=>false
 |_=>true
def vp:List D->Bool
 |[]=>true
 |d::r=>imm d&&vp r
end
theorem wu(e:vp (d::r)=true):imm d=true/\vp r=true:=by
 simp only[vp,Bool.and_eq_true]at e;exact e
theorem aH4(e:imm (.tup l)=true):vp l=true:=by simpa[imm]using e
theorem aH8(e:imm (.lst l)=true):False:=by simp[imm]at e
theorem aCv(e:imm (.dct l k)=true):False:=by simp[imm]at e
theorem aH5(e:imm (.set l)=true):False:=by simp[imm]at e
theorem Rp.imm'(r:Rp K A H x d)(e:VL.imm d=true):Rp K A' H x d:=
 Rp.rec (motive_1:=λ _ H x d _=>VL.imm d=true->Rp K A' H x d) (motive_2:=λ _ H xs ds _=>vp ds=true->Rps K A' H xs ds)
  (λ _=>.non) (λ b _=>.bl b) (λ i _=>.int i) (λ x _=>.str x) (λ h _ ih e=>.tup h (ih (aH4 e)))
  (λ _ _ _ _ e=>(aH8 e).elim) (λ _ _ _ _ e=>(aCv e).elim) (λ _ _ _ _ e=>(aCv e).elim) (λ _ _ _ _ e=>(aH5 e).elim) (λ h _=>.scr h) (λ h _=>.fn h) (λ _=>.nil) (λ _ _ ih ir e=>.cons (ih (wu e).1) (ir (wu e).2)) r e
theorem Rp.imm(r:Rp K A H x d)(h:VL.imm d=true):Rp K A' H x d:=r.imm' h
theorem Rp.int_inv(r:Rp K A H v (.int i)):v= .int i:=by cases r;rfl
theorem Rp.bl_inv(r:Rp K A H v (.bl b)):v= .bl b:=by cases r;rfl
theorem Rp.tup_inv(r:Rp K A H v (.tup ds)):∃a xs,v= .ref a/\SqT K H a xs/\Rps K A H xs ds:=by cases r with|tup h r=>exact⟨_,_,rfl,h,r⟩
theorem Rp.lst_inv(r:Rp K A H v (.lst ds)):∃a xs,v= .ref a/\H a=some (.lst xs)/\A a/\Rps K (λ p=>A p/\p≠a) H xs ds:=by cases r with|lst h m r=>exact⟨_,_,rfl,h,m,r⟩
theorem Rp.scr_inv(r:Rp K A H v (.scr ns)):∃a,v= .ref a/\oG K H a ns:=by cases r with|scr h=>exact⟨_,rfl,h⟩
theorem Rps.one_inv(r:Rps K A H vs [d]):∃v,vs=[v]/\Rp K A H v d:=by cases r with|cons h r=>cases r;exact⟨_,rfl,h⟩
section
variable{A:Addr->Prop}{H:Hp}
theorem Rps.length:∀{xs:List V} {ds:List D},Rps K A H xs ds->xs.length=ds.length:=by
 intro xs ds h;induction xs generalizing ds with
 |nil=>cases h;rfl
 |cons x xs ih=>cases h with|cons _ r=>exact congrArg (·+1) (ih r)
theorem Rps.get:∀{xs:List V} {ds:List D} {i:Nat} {x:V},Rps K A H xs ds->xs[i]? =some x->∃d,ds[i]? =some d/\Rp K A H x d
 |_,_,_,_,.nil,e=>by simp at e
 |_,_,0,_,.cons h _,e=>by simp at e;subst e;exact⟨_,rfl,h⟩
 |_,_,i+1,x,.cons _ r,e=>by
  obtain⟨d,h1,h2⟩:=Rps.get (i:=i) (x:=x) r (by simpa using e);exact⟨d,by simpa using h1,h2⟩
theorem Rps.getD:∀{xs:List V} {ds:List D} {i:Nat} {d:D},Rps K A H xs ds->ds[i]? =some d->∃x,xs[i]? =some x/\Rp K A H x d
 |_,_,_,_,.nil,e=>by simp at e
 |_,_,0,_,.cons h _,e=>by simp at e;subst e;exact⟨_,rfl,h⟩
 |_,_,i+1,d,.cons _ r,e=>by
  obtain⟨x,h1,h2⟩:=Rps.getD (i:=i) (d:=d) r (by simpa using e);exact⟨x,by simpa using h1,h2⟩
theorem Rps.append:∀{xs ys:List V} {ds es:List D},Rps K A H xs ds->Rps K A H ys es->Rps K A H (xs++ys) (ds++es):=by
 intro xs ys ds es h s;induction xs generalizing ds with
 |nil=>cases h;exact s
 |cons x xs ih=>cases h with|cons h r=>exact .cons h (ih r)
theorem Rps.set(h:Rp K A H x d):∀{xs:List V} {ds:List D} (n:Nat),Rps K A H xs ds->Rps K A H (xs.set n x) (ds.set n d)
 |_,_,_,.nil=>.nil
 |_,_,0,.cons _ r=>.cons h r
 |_,_,n+1,.cons k r=>.cons k (Rps.set h n r)
theorem Rps.ints:∀{ns:List Int},Rps K A H (ns.map V.int) (ns.map D.int)
 |[]=>.nil
 |n::ns=>.cons (.int n) Rps.ints
theorem Rps.ints_of:∀{xs:List V} {ns:List Int},Rps K A H xs (ns.map D.int)->xs=ns.map V.int
 |_,[],.nil=>rfl
 |_,n::ns,.cons h r=>by
  cases h;rw[List.map_cons,Rps.ints_of r]
end
theorem aM(h:a=b):a=b:=h
inductive Rs(α:Type) where
 |ok (a:α)|ex (c:Str)|st
def Rs.bd{α β:Type}:Rs α->(α->Rs β)->Rs β
 | .ok a,f=>f a
 | .ex c,_=>.ex c
 | .st,_=>.st
@[simp] theorem cN(a:α)(f:α->Rs β):(Rs.ok a).bd f=f a:=aM rfl
theorem cW{r:Rs α}(h:r.bd f= .ok b):∃a,r= .ok a/\f a= .ok b:=by
 cases r with
 |ok a=>exact⟨a,rfl,h⟩
 |ex c=>cases h
 |st=>cases h
inductive Slot where
 |no|sh (d:D)|nw (d:D)|ow (d:D)|oz (d:D)|o2 (l:List (List D))
abbrev En:=List Slot
abbrev Lab:=Addr->Nat×Nat
abbrev Mode:=Option (List Nat)
def inM(m:Mode)(n:Nat):Prop:=match m with
 |none=>True
 |some L=>n∈L
def jn:Mode->Mode->Mode
 |some a,some b=>some (a++b)
 |_,_=>none
theorem aLF(h:inM a n):inM (jn a b) n:=by
 cases a with
 |none=>cases b<;>exact trivial
 |some L=>
  cases b with
  |none=>exact trivial
  |some M=>exact List.mem_append_left _ h
theorem aLE(h:inM b n):inM (jn a b) n:=by
 cases a with
 |none=>cases b<;>exact trivial
 |some L=>
  cases b with
  |none=>exact trivial
  |some M=>exact List.mem_append_right _ h
def fpM(m:Mode)(lab:Lab)(H:Hp):Addr->Prop:=λ p=>H p=none\/inM m (lab p).1
theorem aI1(h:fpM a lab H p):fpM (jn a b) lab H p:=h.imp id aLF
theorem aI0(h:fpM b lab H p):fpM (jn a b) lab H p:=h.imp id aLE
theorem ux(s:aU H H')(h:fpM m lab H' p):fpM m lab H p:=h.imp (λ z=>s.free z) id
structure Gx where
 H0:Hp
 E:XK
 cl:Str->Addr
def aD4:D->Bool
 | .lst _=>true
 | .dct _ _=>true
 | .set _=>true
 |_=>false
def eF(K:PySem.W.Frag)(H:Hp)(lab:Lab)(i:Nat)(v:V):Slot->Prop
 | .no=>True
 | .sh d=>Rp K (λ p=>(lab p).1<=1) H v d
 | .nw d=>Rp K (λ p=>(lab p).1=1) H v d
 | .ow d=>Rp K (λ p=>(lab p).1=1\/(lab p).1=i+2) H v d/\(aD4 d=true->∃a,v= .ref a/\(lab a).1=i+2)
 | .oz d=>∃a xs ds,v= .ref a/\d= .lst ds/\H a=some (.lst xs)/\(lab a).1=i+2/\Rps K (λ p=>(lab p).1<=1) H xs ds
 | .o2 l=>∃a xs,v= .ref a/\H a=some (.lst xs)/\lab a=(i+2,0)/\xs.length=l.length/\∀(j:Nat) x ds,xs[j]? =some x->l[j]? =some ds->Rp K (λ p=>lab p=(i+2,j+1)) H x (.lst ds)
structure RR(K:PySem.W.Frag)(G:Gx)(τ:List (V×D))(ρ:En)(σ:L2.St)(H:Hp)(lab:Lab):Prop where
 len:σ.length=ρ.length
 sl:∀(i:Nat) (s:Slot),ρ[i]? =some s->s= .no\/∃v,σ[i]? =some (some v)/\eF K H lab i v s
 old:aU G.H0 H
 new:∀p,(lab p).1≠0->G.H0 p=none
 tm:∀q∈τ,Rp K (λ p=>(lab p).1<=1) H q.1 q.2
theorem eF.up(s:aU H H')(h:eF K H lab i v x):eF K H' lab i v x:=by
 cases x with
 |no=>exact trivial
 |sh d=>exact Rp.up s h
 |nw d=>exact Rp.up s h
 |ow d=>exact⟨Rp.up s h.1,h.2⟩
 |oz d=>
  obtain⟨a,xs,ds,e1,e2,e3,e4,e5⟩:=h;exact⟨a,xs,ds,e1,e2,s _ _ e3,e4,e5.up s⟩
 |o2 l=>
  obtain⟨a,xs,e1,e2,e3,e4,e5⟩:=h;exact⟨a,xs,e1,s _ _ e2,e3,e4,λ j x ds f1 f2=>(e5 j x ds f1 f2).up s⟩
theorem aE3(r:Rp K A H (.ref a) d)(hm:aD4 d=true):∃o,H a=some o/\jN o=true/\A a:=by
 cases r with
 |lst h m _=>exact⟨_,h,rfl,m⟩
 |dK h m _=>exact⟨_,h,rfl,m⟩
 |dT h m _=>exact⟨_,h.at_,rfl,m⟩
 |set h m _ _=>exact⟨_,h,rfl,m⟩
 |tup _ _=>cases hm
 |scr _=>cases hm
 |fn _=>cases hm
theorem aIv(r:Rp K A H v d)(hm:aD4 d=true):∃a,v= .ref a:=by
 cases r with
 |lst h m _=>exact⟨_,rfl⟩
 |dK h m _=>exact⟨_,rfl⟩
 |dT h m _=>exact⟨_,rfl⟩
 |set h m _ _=>exact⟨_,rfl⟩
 |_=>cases hm
theorem eF.lab{lab lab':Lab}(hl:∀p o,H p=some o->lab' p=lab p)(h:eF K H lab i v x):eF K H lab' i v x:=by
 cases x with
 |no=>exact trivial
 |sh d=>exact Rp.wk (λ p o e q=>(hl p o e).symm▸q) h
 |nw d=>exact Rp.wk (λ p o e q=>(hl p o e).symm▸q) h
 |ow d=>
  obtain⟨h,t⟩:=h;refine⟨Rp.wk (λ p o e q=>(hl p o e).symm▸q) h,λ m=>?_⟩;obtain⟨a,rfl,ea⟩:=t m;obtain⟨o,ho,_⟩:=aE3 h m;exact⟨a,rfl,(congrArg (·.1) (hl a o ho)).trans ea⟩
 |oz d=>
  obtain⟨a,xs,ds,e1,e2,e3,e4,e5⟩:=h;exact⟨a,xs,ds,e1,e2,e3,(congrArg (·.1) (hl _ _ e3)).trans e4,Rps.wk (λ p o e q=>(hl p o e).symm▸q) e5⟩
 |o2 l=>
  obtain⟨a,xs,e1,e2,e3,e4,e5⟩:=h;exact⟨a,xs,e1,e2,(hl _ _ e2).trans e3,e4,λ j x ds f1 f2=>Rp.wk (λ p o e q=>(hl p o e).symm▸q) (e5 j x ds f1 f2)⟩
section
variable{G:Gx}{τ:List (V×D)}{ρ:En}{σ:L2.St}{H H':Hp}{lab lab':Lab}
theorem RR.up(R:RR K G τ ρ σ H lab)(s:aU H H'):RR K G τ ρ σ H' lab:=
 ⟨R.len,λ i x e=>(R.sl i x e).imp id λ⟨v,e1,e2⟩=>⟨v,e1,e2.up s⟩,R.old.trans s,R.new,λ q hq=>(R.tm q hq).up s⟩
theorem RR.relab(R:RR K G τ ρ σ H lab)(hl:∀p o,H p=some o->lab' p=lab p)(hn:∀p,(lab' p).1≠0->G.H0 p=none):RR K G τ ρ σ H lab':=
 ⟨R.len,λ i x e=>(R.sl i x e).imp id λ⟨v,e1,e2⟩=>⟨v,e1,e2.lab hl⟩,R.old,hn,λ q hq=>Rp.wk (λ p o e z=>by rw[hl p o e];exact z) (R.tm q hq)⟩
theorem RR.drop(R:RR K G (τ'++τ) ρ σ H lab):RR K G τ ρ σ H lab:=⟨R.len,R.sl,R.old,R.new,λ z hz=>R.tm z (List.mem_append_right _ hz)⟩
theorem RR.put(R:RR K G τ ρ σ H lab)(h:eF K H lab i v s):RR K G τ (ρ.set i s) (σ.set i (some v)) H lab:=by
 refine⟨by rw[List.length_set,List.length_set,R.len],λ j x e=>?_,R.old,R.new,R.tm⟩;by_cases hj:i=j
 ·subst hj
  have hi:i<ρ.length:=by
   have:=(List.getElem?_eq_some_iff.mp e).1
   rwa [List.length_set]at this
  rw[List.getElem?_set_self hi]at e;cases e;exact .inr ⟨v,by rw[List.getElem?_set_self (by rw[R.len];exact hi)],h⟩
 ·rw[List.getElem?_set_ne hj]at e
  rcases R.sl j x e with z|⟨u,e1,e2⟩
  ·exact .inl z
  ·exact .inr ⟨u,by rw[List.getElem?_set_ne hj];exact e1,e2⟩
def cU(H:Hp)(n:Nat)(lab:Lab):Lab:=λ p=>match H p with
 |none=>(n,0)
 |some _=>lab p
theorem bV(h:H p=some o):cU H n lab p=lab p:=by unfold cU;rw[h]
theorem uc(h:H p=none):cU H n lab p=(n,0):=by unfold cU;rw[h]
theorem RR.fresh{P:Nat->Prop}(h1:P 1)(hm:∀k,inM m k->P k)(R:RR K G τ ρ σ H lab)(s:aU H H')(r:Rp K (fpM m lab H) H' v d):
  RR K G τ ρ σ H' (cU H 1 lab)/\Rp K (λ p=>P (cU H 1 lab p).1) H' v d:=by
 refine⟨(R.relab (λ p o e=>bV e) λ p hp=>?_).up s,Rp.wk (λ p o e z=>?_) r⟩
 ·cases e:H p with
  |none=>exact R.old.free e
  |some o=>rw[bV e]at hp;exact R.new p hp
 ·rcases z with z|z
  ·rw[uc z];exact h1
  ·cases e:H p with
   |none=>rw[uc e];exact h1
   |some o=>rw[bV e];exact hm _ z
theorem RR.freshO(i:Nat)(hm:∀k,inM m k->k=1\/k=i+2)(R:RR K G τ ρ σ H lab)(s:aU H H')(r:Rp K (fpM m lab H) H' v d)(ht:aD4 d=true->∃a,v= .ref a/\H a=none):
  ∃lab',RR K G τ ρ σ H' lab'/\eF K H' lab' i v (.ow d):=by
 obtain⟨R',r'⟩:=R.fresh (P:=λ k=>k=1\/k=i+2) (.inl rfl) hm s r;cases hd:aD4 d with
 |false=>exact⟨_,R',r',λ z=>absurd z (by simp[hd])⟩
 |true=>
  obtain⟨a,rfl,ha⟩:=ht hd;refine⟨λ p=>if p=a then(i+2,0)else cU H 1 lab p,?_,Rp.wk (λ p o e z=>?_) r',λ _=>⟨a,rfl,by show(if a=a then((i+2,0):Nat×Nat)else cU H 1 lab a).1=i+2;rw[if_pos rfl]⟩⟩
  ·refine(R.relab (lab':=λ p=>if p=a then(i+2,0)else cU H 1 lab p) (λ p o e=>?_) λ p hp=>?_).up s
   ·rw[if_neg (λ z=>by subst z;rw[ha]at e;cases e),bV e]
   ·by_cases z:p=a
    ·subst z;exact R.old.free ha
    ·rw[if_neg z]at hp;exact R'.new p hp
  ·dsimp only
   by_cases q:p=a
   ·rw[if_pos q];exact .inr rfl
   ·rw[if_neg q];exact z
theorem aIU(h:eF K H lab i v (.oz d)):Rp K (λ p=>(lab p).1<=1\/(lab p).1=i+2) H v d:=by
 obtain⟨a,xs,ds,rfl,rfl,h1,h2,h3⟩:=h;exact .lst h1 (.inr h2) (h3.wk λ p o e z=>⟨.inl z,λ q=>by subst q;lia⟩)
end
structure Ct where
 ι:Type
 X:ι->Cx
 prog:Program
 w:World
 K:PySem.W.Frag
 mg:Str->Option Value
 base:Heap
 k:Nat
 G:Gx
 cx:∀i,(X i).prog=prog/\(X i).w=w/\(X i).K=K/\(X i).mg=mg/\(X i).base=base
 calm:∀i,(X i).calm=true
 room:∀i,dg k (X i).A
 own:∀i,PassesOwn (model (X i).prog (X i).w) (X i).A (X i).env (X i).xe
 pass:∀i,o8 (CX1 (X i).prog (X i).w) (X i) G.E
 dOk:Bool
 dcx:dOk=true->∀i,dB (X i) G.E
theorem Ct.hK(C:Ct)(i:C.ι):(C.X i).K=C.K:=(C.cx i).2.2.1
def WR{α:Type}(G:Gx)(r:Rs α)(P:α->Prop):Prop:=match r with
 | .ok a=>P a
 | .ex c=>∀H',aU G.H0 H'->G.E (.ref (G.cl c)) none H'
 | .st=>False
theorem WR.bd(h:WR G (r.bd k) P):WR G r (λ a=>WR G (k a) P):=by
 cases r with
 |ok a=>exact h
 |ex c=>exact h
 |st=>exact h
theorem WR.imp(h:WR G r P)(f:∀a,r= .ok a->P a->P' a):WR G r P':=by
 cases r with
 |ok a=>exact f a rfl h
 |ex c=>exact h
 |st=>exact h
abbrev QE(K:PySem.W.Frag)(m:Mode)(lab:Lab)(H:Hp)(Q:VK):D->Prop:=λ d=>∀v H',aU H H'->Rp K (fpM m lab H) H' v d->Q v H'
abbrev QA(K:PySem.W.Frag)(m:Mode)(lab:Lab)(H:Hp)(Q:List V->Hp->Prop):List D->Prop:=λ ds=>∀vs H',aU H H'->Rps K (fpM m lab H) H' vs ds->Q vs H'
abbrev QT(H:Hp)(Q:Bool->Hp->Prop):Bool->Prop:=λ b=>∀H',aU H H'->Q b H'
def gj(K:PySem.W.Frag)(G:Gx)(m:Mode)(t:TE)(f:En->Rs D):Prop:=∀τ σ H ρ lab (Q:VK),RR K G τ ρ σ H lab->WR G (f ρ) (QE K m lab H Q)->t σ H Q
def aHy(K:PySem.W.Frag)(G:Gx)(m:Mode)(t:TA)(f:En->Rs (List D)):Prop:=∀τ σ H ρ lab (Q:List V->Hp->Prop),RR K G τ ρ σ H lab->WR G (f ρ) (QA K m lab H Q)->t σ H Q
def aCR(K:PySem.W.Frag)(G:Gx)(t:TT)(f:En->Rs Bool):Prop:=∀τ σ H ρ lab (Q:Bool->Hp->Prop),RR K G τ ρ σ H lab->WR G (f ρ) (QT H Q)->t σ H Q
def SE(C:Ct)(m:Mode)(e:Expr)(f:En->Rs D):Prop:=∃t,(∀i,PE (C.X i) e t)/\gj C.K C.G m t f
def SA(C:Ct)(m:Mode)(es:List Expr)(f:En->Rs (List D)):Prop:=∃t,(∀i,PA (C.X i) es t)/\aHy C.K C.G m t f
def ST(C:Ct)(e:Expr)(f:En->Rs Bool):Prop:=∃t,(∀i,PT (C.X i) e t)/\aCR C.K C.G t f
def SW(C:Ct)(e:Expr)(f:En->Rs Bool):Prop:=∃t,(∀i,PW (C.X i) e t)/\aCR C.K C.G t f
theorem SW.st(h:SW C e f):ST C e f:=let⟨t,h1,h2⟩:=h;⟨t,λ i=>(h1 i).pt,h2⟩
def di(i:Nat):En->Rs D:=λ ρ=>match ρ[i]? with
 |some (.sh d)=>.ok d
 |some (.nw d)=>.ok d
 |some (.ow d)=>.ok d
 |some (.oz d)=>.ok d
 |some (.o2 l)=>.ok (.lst (l.map .lst))
 |_=>.st
def aC(i:Nat):En->Rs D:=λ ρ=>match ρ[i]? with
 |some (.sh d)=>.ok d
 |some (.nw d)=>.ok d
 |_=>.st
def qM(i:Nat):En->Rs D:=λ ρ=>match ρ[i]? with
 |some (.nw d)=>.ok d
 |_=>.st
def qL(i:Nat):En->Rs D:=λ ρ=>match ρ[i]? with
 |some (.ow d)=>.ok d
 |some (.o2 l)=>.ok (.lst (l.map .lst))
 |_=>.st
def cD(d:D):En->Rs D:=λ _=>.ok d
theorem aCh{K:PySem.W.Frag}{H:Hp}{lab:Lab}{i:Nat}{v:V}{l:List (List D)}(h:eF K H lab i v (.o2 l)):Rp K (λ p=>(lab p).1=i+2) H v (.lst (l.map .lst)):=by
 obtain⟨a,xs,rfl,ha,hla,hlen,hin⟩:=h;refine .lst ha (by rw[hla]) ?_;have go:∀(xs:List V) (l:List (List D)) (n:Nat),xs.length=l.length->0<n->(∀(j:Nat) x ds,xs[j]? =some x->l[j]? =some ds->Rp K (λ p=>lab p=(i+2,n+j)) H x (.lst ds))->Rps K (λ p=>(lab p).1=i+2/\p≠a) H xs (l.map .lst):=by
  intro xs;induction xs with
  |nil=>intro l n hl _ _;cases l with|nil=>exact .nil|cons _ _=>simp at hl
  |cons x xs ih=>
   intro l n hl hn h;cases l with
   |nil=>simp at hl
   |cons ds l=>
    refine .cons (Rp.wk (λ p o e z=>⟨by rw[z],λ e=>by rw[e,hla]at z;have z2:(0:Nat)=n+0:=congrArg Prod.snd z;lia⟩) (h 0 x ds rfl rfl)) (ih l (n+1) (by simpa using hl) (by lia) λ j y es e1 e2=>?_);have z:=h (j+1) y es (by simpa using e1) (by simpa using e2);rw[show n+1+j=n+(j+1)by lia];exact z
 exact go xs l 1 hlen (by lia) λ j x ds e1 e2=>by have z:=hin j x ds e1 e2;rw[show 1+j=j+1 by lia];exact z
section
variable{C:Ct}{pos:Pos}
theorem aC0(K:PySem.W.Frag)(G:Gx)(i:Nat):gj K G (some [0,1,i+2]) (nF i) (di i):=by
 intro τ σ H ρ lab Q R W;unfold di at W;cases e:ρ[i]? with
 |none=>rw[e]at W;exact W.elim
 |some s=>
  rw[e]at W;rcases R.sl i s e with rfl|⟨v,ev,hv⟩
  ·exact False.elim W
  ·cases s with
   |no=>exact False.elim W
   |sh d=>exact⟨v,ev,W v H (aU.refl H) (Rp.wk (λ p o e z=>.inr (by show(lab p).1∈[0,1,i+2];rcases(show(lab p).1=0\/(lab p).1=1 by lia)with q|q<;>rw[q]<;>simp)) hv)⟩
   |nw d=>exact⟨v,ev,W v H (aU.refl H) (Rp.wk (λ p o e z=>.inr (by show(lab p).1∈[0,1,i+2];rw[z];simp)) hv)⟩
   |ow d=>exact⟨v,ev,W v H (aU.refl H) (Rp.wk (λ p o e z=>.inr (by show(lab p).1∈[0,1,i+2];rcases z with q|q<;>rw[q]<;>simp)) hv.1)⟩
   |oz d=>exact⟨v,ev,W v H (aU.refl H) (Rp.wk (λ p o e z=>.inr (by show(lab p).1∈[0,1,i+2];rcases(show(lab p).1=0\/(lab p).1=1\/(lab p).1=i+2 by lia)with q|q|q<;>rw[q]<;>simp)) (aIU hv))⟩
   |o2 l=>exact⟨v,ev,W v H (aU.refl H) (Rp.wk (λ p o e z=>.inr (by show(lab p).1∈[0,1,i+2];rw[z];simp)) (aCh hv))⟩
theorem aEO(K:PySem.W.Frag)(G:Gx)(i:Nat):gj K G (some [0,1]) (nF i) (aC i):=by
 intro τ σ H ρ lab Q R W;unfold aC at W;cases e:ρ[i]? with
 |none=>rw[e]at W;exact W.elim
 |some s=>
  rw[e]at W;rcases R.sl i s e with rfl|⟨v,ev,hv⟩
  ·exact False.elim W
  ·cases s with
   |sh d=>exact⟨v,ev,W v H (aU.refl H) (Rp.wk (λ p o e z=>.inr (by show(lab p).1∈[0,1];rcases(show(lab p).1=0\/(lab p).1=1 by lia)with q|q<;>rw[q]<;>simp)) hv)⟩
   |nw d=>exact⟨v,ev,W v H (aU.refl H) (Rp.wk (λ p o e z=>.inr (by show(lab p).1∈[0,1];rw[z];simp)) hv)⟩
   |_=>exact False.elim W
theorem aEQ(K:PySem.W.Frag)(G:Gx)(i:Nat):gj K G (some [1]) (nF i) (qM i):=by
 intro τ σ H ρ lab Q R W;unfold qM at W;cases e:ρ[i]? with
 |none=>rw[e]at W;exact W.elim
 |some s=>
  rw[e]at W;rcases R.sl i s e with rfl|⟨v,ev,hv⟩
  ·exact False.elim W
  ·cases s with
   |nw d=>exact⟨v,ev,W v H (aU.refl H) (Rp.wk (λ p o e z=>.inr (by show(lab p).1∈[1];rw[z];simp)) hv)⟩
   |_=>exact False.elim W
theorem aEP(K:PySem.W.Frag)(G:Gx)(i:Nat):gj K G (some [1,i+2]) (nF i) (qL i):=by
 intro τ σ H ρ lab Q R W;unfold qL at W;cases e:ρ[i]? with
 |none=>rw[e]at W;exact W.elim
 |some s=>
  rw[e]at W;rcases R.sl i s e with rfl|⟨v,ev,hv⟩
  ·exact False.elim W
  ·cases s with
   |ow d=>exact⟨v,ev,W v H (aU.refl H) (Rp.wk (λ p o e z=>.inr (by show(lab p).1∈[1,i+2];rcases z with q|q<;>rw[q]<;>simp)) hv.1)⟩
   |o2 l=>exact⟨v,ev,W v H (aU.refl H) (Rp.wk (λ p o e z=>.inr (by show(lab p).1∈[1,i+2];rw[z];simp)) (aCh hv))⟩
   |_=>exact False.elim W
theorem jW(i:Nat)(hN:∀j,(C.X j).N[i]? =some x:=by intro _;rfl)(hv:∀j,Vis (C.X j).env.scope x:=by intro _;first|exact Or.inl rfl|exact Or.inr (Or.inl rfl)|exact Or.inr (Or.inr rfl))(hd:(x==("__debug__":Str))=false:=by decide)
  (hcd:(x==("__classdict__":Str))=false:=by decide):SE C (some [0,1,i+2]) (.Name x pos) (di i):=⟨_,λ j=>fY (hN j) (hv j) hd hcd,aC0 _ _ i⟩
theorem aB(i:Nat)(hN:∀j,(C.X j).N[i]? =some x:=by intro _;rfl)(hv:∀j,Vis (C.X j).env.scope x:=by intro _;first|exact Or.inl rfl|exact Or.inr (Or.inl rfl)|exact Or.inr (Or.inr rfl))(hd:(x==("__debug__":Str))=false:=by decide)
  (hcd:(x==("__classdict__":Str))=false:=by decide):SE C (some [0,1]) (.Name x pos) (aC i):=⟨_,λ j=>fY (hN j) (hv j) hd hcd,aEO _ _ i⟩
theorem tG(i:Nat)(hN:∀j,(C.X j).N[i]? =some x:=by intro _;rfl)(hv:∀j,Vis (C.X j).env.scope x:=by intro _;first|exact Or.inl rfl|exact Or.inr (Or.inl rfl)|exact Or.inr (Or.inr rfl))(hd:(x==("__debug__":Str))=false:=by decide)
  (hcd:(x==("__classdict__":Str))=false:=by decide):SE C (some [1]) (.Name x pos) (qM i):=⟨_,λ j=>fY (hN j) (hv j) hd hcd,aEQ _ _ i⟩
theorem tE(i:Nat)(hN:∀j,(C.X j).N[i]? =some x:=by intro _;rfl)(hv:∀j,Vis (C.X j).env.scope x:=by intro _;first|exact Or.inl rfl|exact Or.inr (Or.inl rfl)|exact Or.inr (Or.inr rfl))(hd:(x==("__debug__":Str))=false:=by decide)
  (hcd:(x==("__classdict__":Str))=false:=by decide):SE C (some [1,i+2]) (.Name x pos) (qL i):=⟨_,λ j=>fY (hN j) (hv j) hd hcd,aEP _ _ i⟩
theorem aK:SE C (some []) (.Constant (.int i) j pos) (cD (.int i)):=⟨_,λ _=>aEu,λ τ σ H ρ lab Q R W=>W _ H (aU.refl H) (.int i)⟩
theorem iU:SE C (some []) (.Constant (.bool b) j pos) (cD (.bl b)):=⟨_,λ _=>aEy,λ τ σ H ρ lab Q R W=>W _ H (aU.refl H) (.bl b)⟩
theorem aBS:SE C (some []) (.Constant .none j pos) (cD .non):=⟨_,λ _=>aJP,λ τ σ H ρ lab Q R W=>W _ H (aU.refl H) .non⟩
theorem qP:SE C (some []) (.Constant (.str x) j pos) (cD (.str x)):=⟨_,λ _=>dq,λ τ σ H ρ lab Q R W=>W _ H (aU.refl H) (.str x)⟩
theorem aGb(hm:C.mg x=some u)(r:RelV v u)(hd:∀A H,Rp C.K A H v d)(hdb:(x==("__debug__":Str))=false:=by decide)(hg:∀i,Gl (C.X i) x:=by intro _;rfl):SE C (some []) (.Name x pos) (cD d):=
 ⟨_,λ i=>dH (hg i) (by rw[(C.cx i).2.2.2.1];exact hm) r hdb,λ τ σ H ρ lab Q R W=>W _ H (aU.refl H) (hd _ _)⟩
def yw(d:D):Rs D:=if imm d=true then .ok d else .st
def bL(f:En->Rs D):En->Rs D:=λ ρ=>(f ρ).bd yw
theorem bz(h:SE C m e f):SE C (some []) e (bL f):=by
 obtain⟨t,h1,h2⟩:=h;refine⟨t,h1,λ τ σ H ρ lab Q R W=>h2 τ σ H ρ lab Q R (W.bd.imp λ d _ w v H' s r=>?_)⟩;unfold yw at w;by_cases hd:imm d=true
 ·rw[if_pos hd]at w
  exact w v H' s (r.imm hd)
 ·rw[if_neg hd]at w
  exact False.elim w
def aG:En->Rs (List D):=λ _=>.ok []
def aA(f:En->Rs D)(g:En->Rs (List D)):En->Rs (List D):=λ ρ=>(f ρ).bd λ d=>(g ρ).bd λ ds=>.ok (d::ds)
variable{m m1 m2:Mode}{e a b:Expr}{es:List Expr}{f fa fb:En->Rs D}{g:En->Rs (List D)}
theorem aH:SA C (some []) [] aG:=⟨_,λ _=>cP,λ τ σ H ρ lab Q R W=>W _ H (aU.refl H) .nil⟩
theorem aD(h:SE C m1 e f)(hr:SA C m2 es g)(hs:∀i,starEach (e::es) (C.X i).env=(false,eval e (C.X i).env)::starEach es (C.X i).env:=by intro _;rfl):SA C (jn m1 m2) (e::es) (aA f g):=by
 obtain⟨t,h1,h2⟩:=h;obtain⟨u,k1,k2⟩:=hr;refine⟨_,λ i=>aa (h1 i) (k1 i) (hs i),λ τ σ H ρ lab Q R W=>?_⟩;refine h2 τ σ H ρ lab _ R (W.bd.imp λ d _ w x H1 s1 r1=>?_);refine k2 τ σ H1 ρ lab _ (R.up s1) (w.bd.imp λ ds _ w xs H2 s2 r2=>?_);exact w (x::xs) H2 (s1.trans s2) (.cons (r1.mono s2 λ p o _ z=>aI1 z) (r2.wk λ p o _ z=>aI0 (ux s1 z)))
def dM(g:En->Rs (List D)):En->Rs D:=λ ρ=>(g ρ).bd λ ds=>if ds.length<=sizeLine then .ok (.tup ds)else .st
def ig(g:En->Rs (List D)):En->Rs D:=λ ρ=>(g ρ).bd λ ds=>if ds.length<=sizeLine then .ok (.lst ds)else .st
theorem cg{x1}(h:SA C m es g):SE C m (.Tuple es x1 pos) (dM g):=by
 obtain⟨t,h1,h2⟩:=h;refine⟨_,λ i=>aGq (h1 i),λ τ σ H ρ lab Q R W=>h2 τ σ H ρ lab _ R (W.bd.imp λ ds _ w xs H1 s1 r1=>?_)⟩;by_cases hz:ds.length<=sizeLine
 ·rw[if_pos hz]at w
  exact⟨by rw[r1.length];exact hz,λ p H' s hp _=>w _ H' (s1.trans s) (.tup (SqT.of hp) (r1.up s))⟩
 ·rw[if_neg hz]at w
  exact False.elim w
theorem uI(h:SA C m es g):SE C m (.List es pos) (ig g):=by
 obtain⟨t,h1,h2⟩:=h;refine⟨_,λ i=>kj (h1 i),λ τ σ H ρ lab Q R W=>h2 τ σ H ρ lab _ R (W.bd.imp λ ds _ w xs H1 s1 r1=>?_)⟩;by_cases hz:ds.length<=sizeLine
 ·rw[if_pos hz]at w
  exact⟨by rw[r1.length];exact hz,λ p H' s hp hn=>w _ H' (s1.trans s) (.lst hp (.inl (s1.free hn)) ((r1.wk λ q o e z=>⟨z,λ e'=>by subst e';rw[hn]at e;cases e⟩).up s))⟩
 ·rw[if_neg hz]at w
  exact False.elim w
theorem aGc:SE C (some []) (.Dict [] [] pos) (cD (.dct [] [])):=
 ⟨_,λ _=>aEv,λ τ σ H ρ lab Q R W p H' s hp hn=>W _ H' s (.dK (kvs:=[]) hp (.inl hn) .nil)⟩
def aLZ(H:Hp)(v:V)(d:D):Prop:=aD4 d=true->∃a,v= .ref a/\H a=none
def aKT(K:PySem.W.Frag)(G:Gx)(m:Mode)(t:TE)(f:En->Rs D):Prop:=∀τ σ H ρ lab (Q:VK),RR K G τ ρ σ H lab->WR G (f ρ) (λ d=>∀v H',aU H H'->Rp K (fpM m lab H) H' v d->aLZ H v d->Q v H')->t σ H Q
def SF(C:Ct)(m:Mode)(e:Expr)(f:En->Rs D):Prop:=∃t,(∀i,PE (C.X i) e t)/\aKT C.K C.G m t f
theorem gj.toF{K:PySem.W.Frag}{G:Gx}{t:TE}{f:En->Rs D}(h:gj K G (some []) t f):aKT K G (some []) t f:=λ τ σ H ρ lab Q R W=>
 h τ σ H ρ lab Q R (W.imp λ d _ w v H' s r=>w v H' s r λ hm=>by
  obtain⟨a,rfl⟩:=aIv r hm;obtain⟨o,_,_,z⟩:=aE3 r hm;rcases z with z|z
  ·exact⟨a,rfl,z⟩
  ·cases z)
theorem aIo(h:SE C (some []) e f):SF C (some []) e f:=let⟨t,h1,h2⟩:=h;⟨t,h1,h2.toF⟩
theorem yF(h:SA C m es g):SF C m (.List es pos) (ig g):=by
 obtain⟨t,h1,h2⟩:=h;refine⟨_,λ i=>kj (h1 i),λ τ σ H ρ lab Q R W=>h2 τ σ H ρ lab _ R (W.bd.imp λ ds _ w xs H1 s1 r1=>?_)⟩;by_cases hz:ds.length<=sizeLine
 ·rw[if_pos hz]at w
  exact⟨by rw[r1.length];exact hz,λ p H' s hp hn=>w _ H' (s1.trans s) (.lst hp (.inl (s1.free hn)) ((r1.wk λ q o e z=>⟨z,λ e'=>by subst e';rw[hn]at e;cases e⟩).up s)) λ _=>⟨p,rfl,s1.free hn⟩⟩
 ·rw[if_neg hz]at w
  exact False.elim w
def OpS(K:PySem.W.Frag)(r:R2)(fd:D->D->Rs D):Prop:=∀(A:Addr->Prop) x y d e H (Q:VK) z,Rp K A H x d->Rp K A H y e->fd d e= .ok z->(∀v H',aU H H'->Rp K (λ p=>H p=none\/A p) H' v z->Q v H')->r x y H Q
def UnS(K:PySem.W.Frag)(r:V->Hp->VK->Prop)(fd:D->Rs D):Prop:=∀(A:Addr->Prop) x d H (Q:VK) z,Rp K A H x d->fd d= .ok z->(∀v H',aU H H'->Rp K (λ p=>H p=none\/A p) H' v z->Q v H')->r x H Q
def v4(K:PySem.W.Frag)(r:List V->Hp->VK->Prop)(fd:List D->Rs D):Prop:=∀(A:Addr->Prop) xs ds H (Q:VK) z,Rps K A H xs ds->fd ds= .ok z->(∀v H',aU H H'->Rp K (λ p=>H p=none\/A p) H' v z->Q v H')->r xs H Q
def okD(r:Rs D):Rs D:=match r with
 | .ok d=>.ok d
 |_=>.st
def op2(fd:D->D->Rs D)(fa fb:En->Rs D):En->Rs D:=λ ρ=>(fa ρ).bd λ x=>(fb ρ).bd λ y=>okD (fd x y)
def op1(fd:D->Rs D)(fa:En->Rs D):En->Rs D:=λ ρ=>(fa ρ).bd λ x=>okD (fd x)
def opA(fd:List D->Rs D)(fa:En->Rs (List D)):En->Rs D:=λ ρ=>(fa ρ).bd λ x=>okD (fd x)
theorem WR.okD(h:WR G (okD r) P):∃z,r= .ok z/\P z:=by
 cases r with
 |ok z=>exact⟨z,rfl,h⟩
 |ex c=>exact False.elim h
 |st=>exact False.elim h
theorem yE{K:PySem.W.Frag}{G:Gx}{r:R2}{ta tb:TE}{fd:D->D->Rs D}(hs:OpS K r fd)(h1:gj K G m1 ta fa)(h2:gj K G m2 tb fb):gj K G (jn m1 m2) (tOp r ta tb) (op2 fd fa fb):=by
 intro τ σ H ρ lab Q R W;refine h1 τ σ H ρ lab _ R (W.bd.imp λ d _ w x H1 s1 r1=>?_);refine h2 τ σ H1 ρ lab _ (R.up s1) (w.bd.imp λ e _ w y H2 s2 r2=>?_);obtain⟨z,ez,w⟩:=w.okD;refine hs (fpM (jn m1 m2) lab H) x y d e H2 Q z (r1.mono s2 λ p o _ q=>aI1 q) (r2.wk λ p o _ q=>aI0 (ux s1 q)) ez λ v H' s r=>w v H' ((s1.trans s2).trans s) (r.wk λ p o _ q=>?_)
 rcases q with q|q
 ·exact .inl ((s1.trans s2).free q)
 ·exact q
theorem aG3{K:PySem.W.Frag}{G:Gx}{r:V->Hp->VK->Prop}{ta:TE}{fd:D->Rs D}(hs:UnS K r fd)(h1:gj K G m ta fa):gj K G m (tUn r ta) (op1 fd fa):=by
 intro τ σ H ρ lab Q R W;refine h1 τ σ H ρ lab _ R (W.bd.imp λ d _ w x H1 s1 r1=>?_);obtain⟨z,ez,w⟩:=w.okD;refine hs (fpM m lab H) x d H1 Q z r1 ez λ v H' s r=>w v H' (s1.trans s) (r.wk λ p o _ q=>?_)
 rcases q with q|q
 ·exact .inl (s1.free q)
 ·exact q
theorem aC1{K:PySem.W.Frag}{G:Gx}{r:List V->Hp->VK->Prop}{ta:TA}{fd:List D->Rs D}(hs:v4 K r fd)(h1:aHy K G m ta g):gj K G m (tCB r ta) (opA fd g):=by
 intro τ σ H ρ lab Q R W;refine h1 τ σ H ρ lab _ R (W.bd.imp λ d _ w x H1 s1 r1=>?_);obtain⟨z,ez,w⟩:=w.okD;refine hs (fpM m lab H) x d H1 Q z r1 ez λ v H' s r=>w v H' (s1.trans s) (r.wk λ p o _ q=>?_)
 rcases q with q|q
 ·exact .inl (s1.free q)
 ·exact q
theorem iT(h:SE C m e f)(hi:∀ρ d,f ρ= .ok d->imm d=true):SE C (some []) e f:=by
 obtain⟨t,h1,h2⟩:=h;exact⟨t,h1,λ τ σ H ρ lab Q R W=>h2 τ σ H ρ lab Q R (W.imp λ d ed w v H' s r=>w v H' s (r.imm (hi ρ d ed)))⟩
theorem mj(h:∀x y z,fd x y= .ok z->imm z=true)(e:op2 fd fa fb ρ= .ok d):imm d=true:=by
 obtain⟨x,_,e⟩:=cW e;obtain⟨y,_,e⟩:=cW e;unfold okD at e;split at e
 ·rename_i z hz
  cases e;exact h x y _ hz
 ·cases e
theorem aH6(h:∀x z,fd x= .ok z->imm z=true)(e:op1 fd fa ρ= .ok d):imm d=true:=by
 obtain⟨x,_,e⟩:=cW e;unfold okD at e;split at e
 ·rename_i z hz
  cases e;exact h x _ hz
 ·cases e
theorem tO(h:∀x z,fd x= .ok z->imm z=true)(e:opA fd g ρ= .ok d):imm d=true:=by
 obtain⟨x,_,e⟩:=cW e;unfold okD at e;split at e
 ·rename_i z hz
  cases e;exact h x _ hz
 ·cases e
theorem wN(ro:∀i,OpR (C.X i) (binaryOp op) r)(hs:OpS C.K r fd)(ha:SE C m1 a fa)(hb:SE C m2 b fb):SE C (jn m1 m2) (.BinOp a op b pos) (op2 fd fa fb):=by
 obtain⟨t,h1,h2⟩:=ha;obtain⟨u,k1,k2⟩:=hb;exact⟨_,λ i=>aEs (ro i) (h1 i) (k1 i),yE hs h2 k2⟩
theorem aKd(ro:∀i,UnR (C.X i) (unaryOp op) r)(hs:UnS C.K r fd)(ha:SE C m a fa):SE C m (.UnaryOp op a pos) (op1 fd fa):=by
 obtain⟨t,h1,h2⟩:=ha;exact⟨_,λ i=>aKo (ro i) (h1 i),aG3 hs h2⟩
theorem aEX(ro:∀i,OpR (C.X i) (compareOp op) r)(hs:OpS C.K r fd)(ha:SE C m1 a fa)(hb:SE C m2 b fb)(hm:behindInMarks op b=false:=by first|exact aFI _|(with_unfolding_all rfl)):
  SE C (jn m1 m2) (.Compare a [op] [b] pos) (op2 fd fa fb):=by
 obtain⟨t,h1,h2⟩:=ha;obtain⟨u,k1,k2⟩:=hb;exact⟨_,λ i=>aGt (ro i) (h1 i) (k1 i) hm,yE hs h2 k2⟩
variable{p:Pos}{x:Str}{id T:String}
theorem pH(ro:∀i,cO (C.X i) (.builtin id) r)(hs:v4 C.K r fd)(hg:∀i,Gl (C.X i) x)(hm:C.mg x=none)(hv:bootBuiltins x=some (.builtin id))(ha:SA C m (e::es) g)
  (hn:x≠"__name__":=by decide)(hdb:(x==("__debug__":Str))=false:=by decide)(he:∀i,starEach (e::es) (C.X i).env=(false,eval e (C.X i).env)::starEach es (C.X i).env:=by intro _;rfl)
  (hpl:∀i,(backTo pos (starEach es (C.X i).env)).any (·.1)=false:=by intro _;rfl):SE C m (.Call (.Name x p) (e::es) [] pos) (opA fd g):=by
 obtain⟨t,h1,h2⟩:=ha;exact⟨_,λ i=>lz (ro i) (hg i) (by rw[(C.cx i).2.2.2.1];exact hm) hv (h1 i) hn hdb (he i) (hpl i),aC1 hs h2⟩
theorem aEY(ro:∀i,cO (C.X i) (.type T) r)(hs:v4 C.K r fd)(hg:∀i,Gl (C.X i) x)(hm:C.mg x=none)(hv:bootBuiltins x=some (.type T))(ha:SA C m (e::es) g)
  (hn:x≠"__name__":=by decide)(hdb:(x==("__debug__":Str))=false:=by decide)(he:∀i,starEach (e::es) (C.X i).env=(false,eval e (C.X i).env)::starEach es (C.X i).env:=by intro _;rfl)
  (hpl:∀i,(backTo pos (starEach es (C.X i).env)).any (·.1)=false:=by intro _;rfl):SE C m (.Call (.Name x p) (e::es) [] pos) (opA fd g):=by
 obtain⟨t,h1,h2⟩:=ha;exact⟨_,λ i=>mY (ro i) (hg i) (by rw[(C.cx i).2.2.2.1];exact hm) hv (h1 i) hn hdb (he i) (hpl i),aC1 hs h2⟩
def vV(f g:En->Rs D):En->Rs D:=λ ρ=>(f ρ).bd λ d=>match d with
 | .bl true=>g ρ
 | .bl false=>.ok (.bl false)
 |_=>.st
def aJf:D->Rs D
 | .bl b=>.ok (.bl (!b))
 |_=>.st
variable{rest:List Expr}
theorem qQ{op}(h:SE C m a fa):SE C m (.BoolOp op [a] pos) fa:=by
 obtain⟨t,h1,h2⟩:=h;exact⟨_,λ i=>aJN (h1 i),h2⟩
theorem oH(ha:SE C m1 a fa)(hb:SE C m2 (.BoolOp .And (b::rest) pos) fb):SE C m2 (.BoolOp .And (a::b::rest) pos) (vV fa fb):=by
 obtain⟨t,h1,h2⟩:=ha;obtain⟨u,k1,k2⟩:=hb;refine⟨_,λ i=>aJS (h1 i) (k1 i),λ τ σ H ρ lab Q R W=>h2 τ σ H ρ lab _ R (W.bd.imp λ d _ w x H1 s1 r1=>?_)⟩;cases r1 with
 |bl c=>
  refine⟨c,rfl,?_⟩;cases c with
  |true=>
   rw[if_pos rfl];exact k2 τ σ H1 ρ lab Q (R.up s1) (w.imp λ z _ w v H' s r=>w v H' (s1.trans s) (r.wk λ p o _ q=>ux s1 q))
  |false=>
   rw[if_neg Bool.false_ne_true];exact w _ H1 s1 (.bl false)
 |_=>exact False.elim w
theorem aIr(ha:SE C m a fa):SE C (some []) (.UnaryOp .Not a pos) (op1 aJf fa):=by
 obtain⟨t,h1,h2⟩:=ha;refine⟨_,λ i=>aJO (h1 i),λ τ σ H ρ lab Q R W=>h2 τ σ H ρ lab _ R (W.bd.imp λ d _ w x H1 s1 r1=>?_)⟩;obtain⟨z,ez,w⟩:=w.okD;cases r1 with
 |bl c=>cases ez;exact⟨c,rfl,w _ H1 s1 (.bl _)⟩
 |_=>cases ez
def chD(fd fd':D->D->Rs D)(fa fb fc:En->Rs D):En->Rs D:=λ ρ=>(fa ρ).bd λ x=>(fb ρ).bd λ y=>(okD (fd x y)).bd λ z=>match z with
 | .bl true=>(fc ρ).bd λ w=>okD (fd' y w)
 | .bl false=>.ok (.bl false)
 |_=>.st
theorem aDL{K:PySem.W.Frag}{G:Gx}{r r':R2}{ta tb tc:TE}{fd fd':D->D->Rs D}{fc:En->Rs D}{m3:Mode}(hs:OpS K r fd)(hs':OpS K r' fd')(hi:∀x y z,fd' x y= .ok z->imm z=true)(h1:gj K G m1 ta fa)(h2:gj K G m2 tb fb)(h3:gj K G m3 tc fc):
  gj K G (some []) (aEG r r' ta tb tc) (chD fd fd' fa fb fc):=by
 intro τ σ H ρ lab Q R W;refine h1 τ σ H ρ lab _ R (W.bd.imp λ d _ w x H1 s1 r1=>?_);refine h2 τ σ H1 ρ lab _ (R.up s1) (w.bd.imp λ e _ w y H2 s2 r2=>?_);obtain⟨z,ez,w⟩:=w.bd.okD;refine hs (λ _=>True) x y d e H2 _ z (r1.mono s2 λ p o _ q=>trivial) (r2.wk λ p o _ q=>trivial) ez λ v H3 s3 r3=>?_
 cases r3 with
 |bl c=>
  refine⟨c,rfl,?_⟩;cases c with
  |false=>
   rw[if_neg Bool.false_ne_true];exact w _ H3 ((s1.trans s2).trans s3) (.bl false)
  |true=>
   rw[if_pos rfl];refine h3 τ σ H3 ρ lab _ ((R.up s1).up (s2.trans s3)) (w.bd.imp λ e' _ w y' H4 s4 r4=>?_);obtain⟨z',ez',w⟩:=w.okD;exact hs' (λ _=>True) y y' e e' H4 Q z' (r2.mono (s3.trans s4) λ p o _ q=>trivial) (r4.wk λ p o _ q=>trivial) ez' λ v H5 s5 r5=>w v H5 ((((s1.trans s2).trans s3).trans s4).trans s5) (r5.imm (hi _ _ _ ez'))
 |_=>exact False.elim w
theorem za(ro:∀i,OpR (C.X i) (compareOp op) r)(hs:OpS C.K r fd)(ro':∀i,OpR (C.X i) (compareOp op') r')(hs':OpS C.K r' fd')(hi:∀x y z,fd' x y= .ok z->imm z=true)
  (ha:SE C m1 a fa)(hb:SE C m2 b fb)(hc:SE C m3 c fc)(hm:lastMarks [op,op'] [b,c]=false:=by with_unfolding_all rfl):SE C (some []) (.Compare a [op,op'] [b,c] pos) (chD fd fd' fa fb fc):=by
 obtain⟨t,h1,h2⟩:=ha;obtain⟨u,k1,k2⟩:=hb;obtain⟨v,l1,l2⟩:=hc;exact⟨_,λ i=>aEw (ro i) (ro' i) (h1 i) (k1 i) (l1 i) hm,aDL hs hs' hi h2 k2 l2⟩
def aIf:D->Rs Bool
 | .non=>.ok false
 | .bl b=>.ok b
 | .int i=>.ok (i !=0)
 | .tup l=>.ok (!l.isEmpty)
 | .lst l=>.ok (!l.isEmpty)
 |_=>.st
def blD:D->Rs Bool
 | .bl b=>.ok b
 |_=>.st
def tst(f:En->Rs D):En->Rs Bool:=λ ρ=>(f ρ).bd aIf
def tsb(f:En->Rs D):En->Rs Bool:=λ ρ=>(f ρ).bd blD
theorem ur{K:PySem.W.Frag}{A:Addr->Prop}{H:Hp}{xs:List V}{ds:List D}(r:Rps K A H xs ds):(!ds.isEmpty)= !xs.isEmpty:=by cases r<;>rfl
theorem iR(ha:SE C m a fa)(he:∀i whole,isTrue a (C.X i).env whole=(do let v <-whole;standAt a.pos;holding [v] (truthy v)):=by intro _ _;rfl):ST C a (tst fa):=by
 obtain⟨t,h1,h2⟩:=ha;refine⟨λ σ H Q=>t σ H λ x H'=>∃k,aKR C.K x H' k/\Q k H',λ i=>by rw[<-C.hK i];exact aEh (h1 i) (he i),λ τ σ H ρ lab Q R W=>h2 τ σ H ρ lab _ R (W.bd.imp λ d _ w x H1 s1 r1=>?_)⟩;cases r1 with
 |non=>exact⟨false,rfl,w H1 s1⟩
 |bl b=>exact⟨b,rfl,w H1 s1⟩
 |int i=>exact⟨i !=0,rfl,w H1 s1⟩
 |tup h r=>exact⟨_,.inr (.inl ⟨_,h,rfl⟩),by rw[<-ur r];exact w H1 s1⟩
 |lst h m r=>exact⟨_,.inl ⟨_,SqL.of h,rfl⟩,by rw[<-ur r];exact w H1 s1⟩
 |_=>exact False.elim w
theorem aG1{K:PySem.W.Frag}{G:Gx}{t:TE}{f:En->Rs D}(h:gj K G m t f):aCR K G (aIG t) (tsb f):=λ τ σ H ρ lab Q R W=>h τ σ H ρ lab _ R (W.bd.imp λ d _ w x H1 s1 r1=>by
 cases r1 with
 |bl b=>exact⟨b,rfl,w H1 s1⟩
 |_=>exact False.elim w)
theorem kI(ro:∀i,OpR (C.X i) (compareOp op) r)(hs:OpS C.K r fd)(ha:SE C m1 a fa)(hb:SE C m2 b fb)(hm:behindInMarks op b=false:=by first|exact aFI _|(with_unfolding_all rfl)):
  ST C (.Compare a [op] [b] pos) (tsb (op2 fd fa fb)):=by
 obtain⟨t,h1,h2⟩:=ha;obtain⟨u,k1,k2⟩:=hb;exact⟨_,λ i=>aGm (ro i) (h1 i) (k1 i) hm,aG1 (yE hs h2 k2)⟩
variable{ga gb:En->Rs Bool}
def wD(f g:En->Rs Bool):En->Rs Bool:=λ ρ=>(f ρ).bd λ k=>if k=true then g ρ else .ok false
def orT(f g:En->Rs Bool):En->Rs Bool:=λ ρ=>(f ρ).bd λ k=>if k=true then .ok true else g ρ
def ie(f:En->Rs Bool):En->Rs Bool:=λ ρ=>(f ρ).bd λ k=>.ok (!k)
theorem xu(ha:ST C a ga):SW C (.BoolOp .And [a] pos) ga:=let⟨t,h1,h2⟩:=ha;⟨t,λ i=>aGl (h1 i),h2⟩
theorem t8(ha:ST C a ga):SW C (.BoolOp .Or [a] pos) ga:=let⟨t,h1,h2⟩:=ha;⟨t,λ i=>aEe (h1 i),h2⟩
theorem aBL(ha:ST C a ga)(hb:SW C (.BoolOp .And (b::rest) pos) gb):SW C (.BoolOp .And (a::b::rest) pos) (wD ga gb):=by
 obtain⟨t,h1,h2⟩:=ha;obtain⟨u,k1,k2⟩:=hb;refine⟨_,λ i=>aIz (h1 i) (k1 i),λ τ σ H ρ lab Q R W=>h2 τ σ H ρ lab _ R (W.bd.imp λ k _ w H1 s1=>?_)⟩;cases k with
 |true=>
  rw[if_pos rfl]at w ⊢;exact k2 τ σ H1 ρ lab Q (R.up s1) (w.imp λ z _ w H' s=>w H' (s1.trans s))
 |false=>
  rw[if_neg Bool.false_ne_true]at w ⊢;exact w H1 s1
theorem wK(ha:ST C a ga)(hb:SW C (.BoolOp .Or (b::rest) pos) gb):SW C (.BoolOp .Or (a::b::rest) pos) (orT ga gb):=by
 obtain⟨t,h1,h2⟩:=ha;obtain⟨u,k1,k2⟩:=hb;refine⟨_,λ i=>aIS (h1 i) (k1 i),λ τ σ H ρ lab Q R W=>h2 τ σ H ρ lab _ R (W.bd.imp λ k _ w H1 s1=>?_)⟩;cases k with
 |false=>
  rw[if_neg Bool.false_ne_true]at w ⊢;exact k2 τ σ H1 ρ lab Q (R.up s1) (w.imp λ z _ w H' s=>w H' (s1.trans s))
 |true=>
  rw[if_pos rfl]at w ⊢;exact w H1 s1
theorem gm(ha:ST C a ga):ST C (.UnaryOp .Not a pos) (ie ga):=by
 obtain⟨t,h1,h2⟩:=ha;exact⟨_,λ i=>aBa (h1 i),λ τ σ H ρ lab Q R W=>h2 τ σ H ρ lab _ R (W.bd.imp λ k _ w H1 s1=>w H1 s1)⟩
end
inductive Ou where
 |nx (ρ:En)|rt (d:D)|bk (ρ:En)|ct (ρ:En)|ex (c:Str)|st
def Rs.bo{α:Type}:Rs α->(α->Ou)->Ou
 | .ok a,f=>f a
 | .ex c,_=>.ex c
 | .st,_=>.st
@[simp] theorem dW(a:α)(f:α->Ou):(Rs.ok a).bo f=f a:=aM rfl
@[simp] theorem bo_ex(c:Str)(f:α->Ou):(Rs.ex c:Rs α).bo f= .ex c:=aM rfl
def Ou.sq:Ou->(En->Ou)->Ou
 | .nx ρ,f=>f ρ
 |o,_=>o
@[simp] theorem bR(ρ:En)(f:En->Ou):(Ou.nx ρ).sq f=f ρ:=aM rfl
@[simp] theorem sq_rt(d:D)(f:En->Ou):(Ou.rt d).sq f= .rt d:=aM rfl
@[simp] theorem sq_ex(c:Str)(f:En->Ou):(Ou.ex c).sq f= .ex c:=aM rfl
def WS(K:PySem.W.Frag)(G:Gx)(τ:List (V×D))(o:Ou)(De:Ends):Prop:=match o with
 | .nx ρ=>∀σ H lab,RR K G τ ρ σ H lab->De.nx σ H
 | .bk ρ=>∀σ H lab,RR K G τ ρ σ H lab->De.bk σ H
 | .ct ρ=>∀σ H lab,RR K G τ ρ σ H lab->De.ct σ H
 | .rt d=>∀v H,aU G.H0 H->Rp K (λ p=>G.H0 p=none) H v d->De.rt v H
 | .ex c=>∀H',aU G.H0 H'->G.E (.ref (G.cl c)) none H'
 | .st=>False
theorem WS.bo{K:PySem.W.Frag}(h:WS K G τ (r.bo k) De):WR G r (λ a=>WS K G τ (k a) De):=by
 cases r with
 |ok a=>exact h
 |ex c=>exact h
 |st=>exact h
def aLS(K:PySem.W.Frag)(G:Gx)(t:TS)(f:En->Ou):Prop:=∀τ σ H ρ lab (De:Ends),RR K G τ ρ σ H lab->WS K G τ (f ρ) De->t De σ H
def SS(C:Ct)(s:Stmt)(f:En->Ou):Prop:=∃t,(∀i,PS (C.X i) s t)/\aLS C.K C.G t f
def SSs(C:Ct)(s:List Stmt)(f:En->Ou):Prop:=∃t,(∀i,PSs (C.X i) s t)/\aLS C.K C.G t f
section
variable{C:Ct}{pos:Pos}{s:Stmt}{ss:List Stmt}{f g:En->Ou}{e:Expr}{m:Mode}{fe:En->Rs D}
theorem bY:SSs C [] .nx:=⟨_,λ _=>yQ,λ τ σ H ρ lab De R W=>W σ H lab R⟩
def aW(f g:En->Ou):En->Ou:=λ ρ=>(f ρ).sq g
theorem aL(h:SS C s f):SSs C [s] f:=let⟨t,h1,h2⟩:=h;⟨t,λ i=>kZ (h1 i),h2⟩
theorem aJ(h:SS C s f)(k:SSs C ss g):SSs C (s::ss) (aW f g):=by
 obtain⟨t,h1,h2⟩:=h;obtain⟨u,k1,k2⟩:=k;refine⟨_,λ i=>eO (h1 i) (k1 i),λ τ σ H ρ lab De R W=>h2 τ σ H ρ lab _ R ?_⟩;unfold aW at W;cases h:f ρ with
 |nx ρ'=>rw[h]at W;exact λ σ' H' lab' R'=>k2 τ σ' H' ρ' lab' De R' W
 |rt d=>rw[h]at W;exact W
 |bk ρ'=>rw[h]at W;exact W
 |ct ρ'=>rw[h]at W;exact W
 |ex c=>rw[h]at W;exact W
 |st=>rw[h]at W;exact W
def frz(i:Nat)(ρ:En):En:=match ρ[i]? with
 |some (.ow d)=>ρ.set i (.nw d)
 |some (.o2 l)=>ρ.set i (.nw (.lst (l.map .lst)))
 |_=>ρ
def aKy:Mode->Bool
 |some L=>L.all (·!=0)
 |none=>false
def retS(fe:En->Rs D):En->Ou:=λ ρ=>(fe ρ).bo .rt
theorem bB(he:SE C m e fe)(hm:aKy m=true:=by rfl):SS C (.Return (some e) pos) (retS fe):=by
 obtain⟨t,h1,h2⟩:=he;refine⟨_,λ i=>uU (h1 i),λ τ σ H ρ lab De R W=>h2 τ σ H ρ lab _ R (W.bo.imp λ d _ w v H' s r=>w v H' (R.old.trans s) (r.wk λ p o _ z=>?_))⟩;rcases z with z|z
 ·exact R.old.free z
 ·cases m with
  |none=>cases hm
  |some L=>
   refine R.new p λ e0=>?_
   have:=List.all_eq_true.mp hm _ z
   rw[e0]at this;simp at this
def ji(fe:En->Rs D):En->Ou:=λ ρ=>(fe ρ).bo λ _=>.nx ρ
theorem xx(he:SE C m e fe)(hs:∀i,swapsWith e none pos.line (C.X i).env=pure false:=by intro _;rfl):SS C (.Expr e pos) (ji fe):=by
 obtain⟨t,h1,h2⟩:=he;exact⟨_,λ i=>pI (h1 i) (hs i),λ τ σ H ρ lab De R W=>h2 τ σ H ρ lab _ R (W.bo.imp λ d _ w v H' s r=>w σ H' lab (R.up s))⟩
def ifS(c:En->Rs Bool)(f g:En->Ou):En->Ou:=λ ρ=>(c ρ).bo λ k=>if k=true then f ρ else g ρ
theorem eG{a b:List Stmt}(hc:ST C c fc)(ha:SSs C a f)(hb:SSs C b g):SS C (.If c a b pos) (ifS fc f g):=by
 obtain⟨tc,c1,c2⟩:=hc;obtain⟨t,h1,h2⟩:=ha;obtain⟨u,k1,k2⟩:=hb;refine⟨_,λ i=>aEm (c1 i) (h1 i) (k1 i),λ τ σ H ρ lab De R W=>c2 τ σ H ρ lab _ R (W.bo.imp λ k _ w H1 s1=>?_)⟩;cases k with
 |true=>rw[if_pos rfl]at w ⊢;exact h2 τ σ H1 ρ lab De (R.up s1) w
 |false=>rw[if_neg Bool.false_ne_true]at w ⊢;exact k2 τ σ H1 ρ lab De (R.up s1) w
def SV(C:Ct)(i:Nat)(s:Stmt)(m:Mode)(f:En->Rs D):Prop:=∃t,(∀j,PS (C.X j) s (z6 t (n8 i)))/\gj C.K C.G m t f
theorem kE(he:SE C m e fe)(hN:∀j,(C.X j).N[i]? =some x:=by intro _;rfl)(hx:∀j,Loc (C.X j).env.scope x:=by intro _;first|exact Or.inl rfl|exact Or.inr rfl)(hs:∀j,swapsWith e (some (.Name x pos')) pos.line (C.X j).env=pure false:=by intro _;rfl)(hf:∀j,(C.X j).fn x=true\/(C.X j).env.scope.names.lookup x=some .local:=by intro _;first|exact .inl rfl|exact .inr rfl)(nd:∀j,(C.X j).N.Nodup:=by intro _;assumption):
  SV C i (.Assign [.Name x pos'] e pos) m fe:=by
 obtain⟨t,h1,h2⟩:=he;exact⟨t,λ j=>kh (nd j) (hN j) (hx j) (h1 j) (hs j) (hf j),h2⟩
def SVF(C:Ct)(i:Nat)(s:Stmt)(m:Mode)(f:En->Rs D):Prop:=∃t,(∀j,PS (C.X j) s (z6 t (n8 i)))/\aKT C.K C.G m t f
theorem uA(he:SF C m e fe)(hN:∀j,(C.X j).N[i]? =some x:=by intro _;rfl)(hx:∀j,Loc (C.X j).env.scope x:=by intro _;first|exact Or.inl rfl|exact Or.inr rfl)(hs:∀j,swapsWith e (some (.Name x pos')) pos.line (C.X j).env=pure false:=by intro _;rfl)(hf:∀j,(C.X j).fn x=true\/(C.X j).env.scope.names.lookup x=some .local:=by intro _;first|exact .inl rfl|exact .inr rfl)(nd:∀j,(C.X j).N.Nodup:=by intro _;assumption):
  SVF C i (.Assign [.Name x pos'] e pos) m fe:=by
 obtain⟨t,h1,h2⟩:=he;exact⟨t,λ j=>kh (nd j) (hN j) (hx j) (h1 j) (hs j) (hf j),h2⟩
def aCg(P:Nat->Bool):Mode->Bool
 |some L=>L.all P
 |none=>false
theorem pM(h:aCg P m=true):∀k,inM m k->P k=true:=by
 intro k hk;cases m with
 |none=>cases h
 |some L=>exact List.all_eq_true.mp h k hk
abbrev okS:Mode->Bool:=aCg λ k=>decide (k<=1)
abbrev okN:Mode->Bool:=aCg λ k=>k==1
abbrev okO(i:Nat):Mode->Bool:=aCg λ k=>k==1||k==i+2
def cu(i:Nat)(fe:En->Rs D):En->Ou:=λ ρ=>(fe ρ).bo λ d=>.nx (ρ.set i (.sh d))
def sS(i:Nat)(fe:En->Rs D):En->Ou:=λ ρ=>(fe ρ).bo λ d=>.nx (ρ.set i (.nw d))
def jV(i:Nat)(fe:En->Rs D):En->Ou:=λ ρ=>(fe ρ).bo λ d=>.nx (ρ.set i (.ow d))
theorem RR.shared{K:PySem.W.Frag}(hm:okS m=true)(R:RR K G τ ρ σ H lab)(s:aU H H')(r:Rp K (fpM m lab H) H' v d):
  RR K G τ ρ σ H' (cU H 1 lab)/\Rp K (λ p=>(cU H 1 lab p).1<=1) H' v d:=R.fresh (P:=λ k=>k<=1) (by decide) (λ k hk=>of_decide_eq_true (pM hm k hk)) s r
theorem cT{i:Nat}(h:SV C i s m fe)(hm:okS m=true:=by rfl):SS C s (cu i fe):=by
 obtain⟨t,h1,h2⟩:=h;refine⟨_,h1,λ τ σ H ρ lab De R W=>h2 τ σ H ρ lab _ R (W.bo.imp λ d _ w v H' s r=>?_)⟩;obtain⟨R',r'⟩:=R.shared hm s r;exact w _ _ _ (R'.put (s:=.sh d) r')
theorem pC(h:SV C i s m fe)(hm:okN m=true:=by rfl):SS C s (sS i fe):=by
 obtain⟨t,h1,h2⟩:=h;refine⟨_,h1,λ τ σ H ρ lab De R W=>h2 τ σ H ρ lab _ R (W.bo.imp λ d _ w v H' s r=>?_)⟩;obtain⟨R',r'⟩:=R.fresh (P:=λ k=>k=1) rfl (λ k hk=>beq_iff_eq.mp (pM hm k hk)) s r;exact w _ _ _ (R'.put (s:=.nw d) r')
theorem kJ(h:SVF C i s m fe)(hm:okO i m=true:=by rfl):SS C s (jV i fe):=by
 obtain⟨t,h1,h2⟩:=h;refine⟨_,h1,λ τ σ H ρ lab De R W=>h2 τ σ H ρ lab _ R (W.bo.imp λ d _ w v H' s r ht=>?_)⟩;obtain⟨lab',R',r'⟩:=R.freshO i (λ k hk=>by have:=pM hm k hk;simpa using this) s r ht;exact w _ _ _ (R'.put (s:=.ow d) r')
def aHx(K:PySem.W.Frag)(G:Gx)(g:TG)(fg:D->En->Rs En):Prop:=∀τ v d σ H ρ lab (Q:L2.St->Hp->Prop) ρ',RR K G τ ρ σ H lab->Rp K (λ p=>(lab p).1<=1) H v d->fg d ρ= .ok ρ'->(∀σ',RR K G τ ρ' σ' H lab->Q σ' H)->g v σ H Q
def aLT(K:PySem.W.Frag)(G:Gx)(g:TGs)(fg:List D->En->Rs En):Prop:=∀τ vs ds σ H ρ lab (Q:L2.St->Hp->Prop) ρ',RR K G τ ρ σ H lab->Rps K (λ p=>(lab p).1<=1) H vs ds->fg ds ρ= .ok ρ'->(∀σ',RR K G τ ρ' σ' H lab->Q σ' H)->g vs σ H Q
def SG(C:Ct)(tg:Expr)(ks:List Nat)(fg:D->En->Rs En):Prop:=∃g,(∀i,PG (C.X i) tg g)/\aHx C.K C.G g fg/\qI g ks/\aAy g
def SGs(C:Ct)(tg:List Expr)(ks:List Nat)(fg:List D->En->Rs En):Prop:=∃g,(∀i,PGs (C.X i) tg g)/\aLT C.K C.G g fg/\vY g ks/\rF g
def gnm(i:Nat):D->En->Rs En:=λ d ρ=>.ok (ρ.set i (.sh d))
def dF:List D->En->Rs En:=λ ds ρ=>match ds with
 |[]=>.ok ρ
 |_=>.st
def aX(f:D->En->Rs En)(g:List D->En->Rs En):List D->En->Rs En:=λ ds ρ=>match ds with
 |d::r=>(f d ρ).bd (g r)
 |_=>.st
def cz(n:Nat)(g:List D->En->Rs En):D->En->Rs En:=λ d ρ=>match d with
 | .tup ds=>if ds.length=n then g ds ρ else .st
 |_=>.st
variable{ks:List Nat}{fg:D->En->Rs En}{fgs:List D->En->Rs En}{tg:Expr}{tgs:List Expr}
theorem bN(hN:∀j,(C.X j).N[i]? =some x:=by intro _;rfl)(hx:∀j,Loc (C.X j).env.scope x:=by intro _;first|exact Or.inl rfl|exact Or.inr rfl)(hf:∀j,(C.X j).fn x=true\/(C.X j).env.scope.names.lookup x=some .local:=by intro _;first|exact .inl rfl|exact .inr rfl)(nd:∀j,(C.X j).N.Nodup:=by intro _;assumption)(hk:i∈ks:=by decide):SG C (.Name x pos) ks (gnm i):=
 ⟨_,λ j=>aGp (nd j) (hN j) (hx j) (hf j),λ τ v d σ H ρ lab Q ρ' R r e q=>by cases e;exact q _ (R.put (s:=.sh d) r),aHc hk,aHe⟩
theorem jJ:SGs C [] ks dF:=by
 refine⟨_,λ _=>aGo,λ τ vs ds σ H ρ lab Q ρ' R r e q=>?_,aHb,aHd⟩;cases r with
 |nil=>cases e;exact⟨rfl,q _ R⟩
 |cons _ _=>cases e
theorem bj(h:SG C tg ks fg)(k:SGs C tgs ks fgs)(hs:∀i,(assignEach (tg::tgs) (C.X i).env).map (·.2)=assign tg (C.X i).env::(assignEach tgs (C.X i).env).map (·.2):=by intro _;rfl):SGs C (tg::tgs) ks (aX fg fgs):=by
 obtain⟨g,h1,h2,h3,h4⟩:=h;obtain⟨u,k1,k2,k3,k4⟩:=k;refine⟨_,λ i=>aEq (h1 i) (k1 i) (hs i),λ τ vs ds σ H ρ lab Q ρ' R r e q=>?_,aFl h3 h4 k3 k4,aFq h4 k4⟩;cases r with
 |nil=>cases e
 |cons h r=>
  obtain⟨ρ1,e1,e2⟩:=cW e;exact⟨_,_,rfl,h2 τ _ _ σ H ρ lab _ ρ1 R h e1 λ σ1 R1=>k2 τ _ _ σ1 H ρ1 lab Q ρ' R1 r e2 q⟩
theorem lX(h:SGs C tgs ks fgs)(hn:∀i,(assignEach tgs (C.X i).env).length=n:=by intro _;rfl)(hst:∀i,(assignEach tgs (C.X i).env).findIdx? (·.1)=none:=by intro _;rfl):SG C (.Tuple tgs k pos) ks (cz n fgs):=by
 obtain⟨u,k1,k2,k3,k4⟩:=h;refine⟨aHf C.K n u,λ i=>by rw[<-C.hK i];exact aJI (C.calm i) (k1 i) (hn i) (hst i),λ τ v d σ H ρ lab Q ρ' R r e q=>?_,aKC k3,aKD k4⟩;cases r with
 |tup h r=>
  unfold cz at e;dsimp only at e;split at e
  ·rename_i hl
   exact⟨_,_,rfl,h,by rw[r.length];exact hl,k2 τ _ _ σ H ρ lab Q ρ' R r e q⟩
  ·cases e
 |_=>cases e
def zR(fe:En->Rs D)(fg:D->En->Rs En):En->Ou:=λ ρ=>(fe ρ).bo λ d=>match fg d ρ with
 | .ok ρ'=>.nx ρ'
 |_=>.st
theorem aEL(he:SE C m e fe)(hg:SG C tg ks fg)(hm:okS m=true:=by rfl)(hs:∀i,swapsWithSole [tg] e pos.line (C.X i).env=pure false:=by intro _;rfl)(hw:∀i,swappedStores [tg] e (C.X i).env=pure none:=by intro _;rfl)
  (h1:∀i,(assignEach [tg] (C.X i).env).map (·.2)=[assign tg (C.X i).env]:=by intro _;rfl):SS C (.Assign [tg] e pos) (zR fe fg):=by
 obtain⟨t,p1,p2⟩:=he;obtain⟨g,q1,q2,_,_⟩:=hg;refine⟨_,λ i=>aEn (p1 i) (q1 i) (hs i) (hw i) (h1 i),λ τ σ H ρ lab De R W=>p2 τ σ H ρ lab _ R (W.bo.imp λ d _ w v H' s r=>?_)⟩;obtain⟨R',r'⟩:=R.shared hm s r;cases hgd:fg d ρ with
 |ok ρ'=>rw[hgd]at w;exact q2 τ v d σ H' ρ _ _ ρ' R' r' hgd λ σ' R2=>w σ' H' _ R2
 |ex c=>rw[hgd]at w;exact False.elim w
 |st=>rw[hgd]at w;exact False.elim w
def JL(K:PySem.W.Frag)(lab:Lab)(J:It)(H:Hp)(ds:List D):Prop:=∀i,(ds.length<=i->J.stop i H)/\(i<ds.length->J.go i H/\∀x H',J.yld i H x H'->aU H H'/\∃d,ds[i]? =some d/\Rp K (λ p=>(lab p).1<=1) H' x d)
def aHw(K:PySem.W.Frag)(G:Gx)(wi:TI)(f:En->Rs (List D)):Prop:=∀τ σ H ρ lab (Rr:It->Hp->Prop),RR K G τ ρ σ H lab->
 WR G (f ρ) (λ ds=>∀J H1 lab1 τ1,aU H H1->(∀p o,H p=some o->lab1 p=lab p)->RR K G (τ1++τ) ρ σ H1 lab1->(∀lab' H',(∀q∈τ1,Rp K (λ p=>(lab' p).1<=1) H' q.1 q.2)->JL K lab' J H' ds)->Rr J H1)->wi σ H Rr
def SI(C:Ct)(tg iter:Expr)(f:En->Rs (List D)):Prop:=∃wi,(∀i,PI (C.X i) tg iter wi)/\aHw C.K C.G wi f
def aLG(K:PySem.W.Frag)(tl:TE):TI:=λ σ H R=>tl σ H λ x H1=>∃a,x= .ref a/\(((∃xs,SqL K H1 a xs)/\R (Itl K a) H1)\/((∃xs,SqT K H1 a xs)/\R (Itt K a) H1))
theorem aJH(hl:PE X l tl):PI X tg l (aLG X.K tl):=by
 intro pins s σ H R I h;refine thn (hl pins s σ H _ I h) λ v s1 ⟨x,H1,I1,r1,a,e,q1⟩=>?_
 subst e;cases r1;have hp:∀b∈[s1.heap.objs.size],qJ X pins H1 b:=λ b hb=>by
  have e:b=s1.heap.objs.size:=by simpa using hb
  rw[e];exact I1.fpOk (Nat.le_refl _) (I1.hok.fresh (Nat.le_refl _))
 rcases q1 with ⟨⟨xs,hq⟩,q⟩|⟨⟨xs,hq⟩,q⟩
 ·obtain⟨its,rv,p,hz⟩:=I1.list hq
  refine wpAny_pyIter_list p.isList ?_;exact⟨_,_,_,_,H1,rfl,I1.kept (t':=s1.toks) λ b o e=>Heap.get?_push_of_some _ e,aDI a _,⟨_,Heap.get?_push_size _ rfl,rfl,rfl⟩,hp,q⟩
 ·obtain⟨its,rv,p,hz⟩:=I1.tuple hq
  refine wpAny_pyIter_tuple (show s1.heap.IsTuple a its.toArray from p) ?_;exact⟨_,_,_,_,H1,rfl,I1.kept (t':=s1.toks) λ b o e=>Heap.get?_push_of_some _ e,aBG a _,⟨_,Heap.get?_push_size _ rfl,rfl,rfl⟩,hp,q⟩
def itD:D->Rs (List D)
 | .tup l=>.ok l
 | .lst l=>.ok l
 | .scr l=>.ok (l.map .int)
 |_=>.st
def cX(fe:En->Rs D):En->Rs (List D):=λ ρ=>(fe ρ).bd itD
theorem aCr{K:PySem.W.Frag}(h:SqL K H a xs)(r:Rps K (λ p=>(lab p).1<=1) H xs ds):JL K lab (Itl K a) H ds:=by
 have hl:=r.length;refine λ i=>⟨λ hi=>⟨xs,h,by lia⟩,λ hi=>⟨⟨xs,xs[i]'(by lia),h,by simp[hl,hi]⟩,λ x H' y=>?_⟩⟩
 obtain⟨e,y⟩:=y;subst e;obtain⟨d,h1,h2⟩:=r.get (y xs h);exact⟨aU.refl _,d,h1,h2⟩
theorem aJt{K:PySem.W.Frag}(h:SqT K H a xs)(r:Rps K (λ p=>(lab p).1<=1) H xs ds):JL K lab (Itt K a) H ds:=by
 have hl:=r.length;refine λ i=>⟨λ hi=>⟨xs,h,by lia⟩,λ hi=>⟨⟨xs,xs[i]'(by lia),h,by simp[hl,hi]⟩,λ x H' y=>?_⟩⟩
 obtain⟨e,y⟩:=y;subst e;obtain⟨d,h1,h2⟩:=r.get (y xs h);exact⟨aU.refl _,d,h1,h2⟩
theorem fP(he:SE C m e fe)(hm:okS m=true:=by rfl):SI C tg e (cX fe):=by
 obtain⟨t,p1,p2⟩:=he;refine⟨aLG C.K t,λ i=>by rw[<-C.hK i];exact aJH (p1 i),λ τ σ H ρ lab Rr R W=>p2 τ σ H ρ lab _ R (W.bd.imp λ d _ w v H1 s r=>?_)⟩;obtain⟨R',r'⟩:=R.shared hm s r;cases d with
 |tup l=>
  cases r' with
  |tup h q=>
   rename_i a xs;refine⟨_,rfl,.inr ⟨⟨_,h⟩,w _ H1 _ [(.ref a,.tup l)] s (λ p o e=>bV e) ⟨R'.len,R'.sl,R'.old,R'.new,λ z hz=>?_⟩ λ lab' H' hq=>?_⟩⟩
   ·rcases List.mem_cons.mp hz with rfl|hz
    ·exact .tup h q
    ·exact R'.tm z hz
   ·have z:=hq _ (List.mem_cons_self ..)
    cases z with
    |tup h' q'=>exact aJt h' q'
 |lst l=>
  cases r' with
  |lst h mm q=>
   rename_i a xs;refine⟨_,rfl,.inl ⟨⟨_,SqL.of h⟩,w _ H1 _ [(.ref a,.lst l)] s (λ p o e=>bV e) ⟨R'.len,R'.sl,R'.old,R'.new,λ z hz=>?_⟩ λ lab' H' hq=>?_⟩⟩
   ·rcases List.mem_cons.mp hz with rfl|hz
    ·exact .lst h mm q
    ·exact R'.tm z hz
   ·have z:=hq _ (List.mem_cons_self ..)
    cases z with
    |lst h' _ q'=>exact aCr (SqL.of h') (q'.wk λ _ _ _ z=>z.1)
 |scr l=>
  cases r' with
  |scr h=>
   rename_i a;refine⟨_,rfl,.inl ⟨⟨_,h.sq⟩,w _ H1 _ [(.ref a,.scr l)] s (λ p o e=>bV e) ⟨R'.len,R'.sl,R'.old,R'.new,λ z hz=>?_⟩ λ lab' H' hq=>?_⟩⟩
   ·rcases List.mem_cons.mp hz with rfl|hz
    ·exact .scr h
    ·exact R'.tm z hz
   ·have z:=hq _ (List.mem_cons_self ..)
    cases z with
    |scr h'=>exact aCr h'.sq Rps.ints
 |_=>exact False.elim w
end
section
variable{C:Ct}{pos:Pos}{s:Stmt}{ss:List Stmt}{f g:En->Ou}{e a b:Expr}{es:List Expr}{m m1 m2:Mode}{fe fa fb:En->Rs D}{ks:List Nat}{fg:D->En->Rs En}{tg:Expr}{fi:En->Rs (List D)}{ga:En->Rs (List D)}
def bG(lo hi:Int):List D:=(List.range (hi-lo).toNat).map λ(k:Nat)=>.int (lo+(k:Int))
def fW:List D->Rs (List D)
 |[.int j]=>if -(2^62)<=j/\j<2^62 then .ok (bG 0 j)else .st
 |_=>.st
def aBY:List D->Rs (List D)
 |[.int i,.int j]=>if (-(2^62)<=i/\i<2^62)/\(-(2^62)<=j/\j<2^62)then .ok (bG i j)else .st
 |_=>.st
def dZ(r:List D->Rs (List D))(ga:En->Rs (List D)):En->Rs (List D):=λ ρ=>(ga ρ).bd r
theorem aF3{K:PySem.W.Frag}{lo hi:Int}:JL K lab (Itr lo (hi-lo).toNat) H (bG lo hi):=by
 have hl:(bG lo hi).length=(hi-lo).toNat:=by unfold bG;simp
 refine λ i=>⟨λ h=>by show(hi-lo).toNat<=i;lia,λ h=>⟨by show i<(hi-lo).toNat;lia,λ x H' y=>?_⟩⟩
 obtain⟨e,rfl⟩:=y;subst e;refine⟨aU.refl _,.int (lo+i),?_,.int _⟩;unfold bG;rw[List.getElem?_map,List.getElem?_range (by lia)];rfl
theorem gR(ha:SA C m [a] ga)(hm:C.mg "range"=none)(hs:∀i,starEach [a] (C.X i).env=[(false,eval a (C.X i).env)]:=by intro _;rfl)(hg:∀i,Gl (C.X i) "range":=by intro _;rfl):SI C tg (.Call (.Name "range" p) [a] [] pos) (dZ fW ga):=by
 obtain⟨t,h1,h2⟩:=ha;refine⟨_,λ i=>aDY (hg i) (by rw[(C.cx i).2.2.2.1];exact hm) (h1 i) (hs i),λ τ σ H ρ lab Rr R W=>h2 τ σ H ρ lab _ R (W.bd.imp λ ds _ w vs H1 s r=>?_)⟩;unfold fW at w;split at w
 ·rename_i j _
  split at w
  ·rename_i hj
   cases r with
   |cons h r=>
    cases h;cases r;refine⟨j,rfl,hj.1,hj.2,?_⟩;have z:=w (Itr 0 (j-0).toNat) H1 lab [] s (λ _ _ _=>rfl) (R.up s) λ lab' H' _=>aF3
    rwa [Int.sub_zero]at z
  ·exact False.elim w
 ·exact False.elim w
theorem aC2(ha:SA C m [a,b] ga)(hm:C.mg "range"=none)(hs:∀i,starEach [a,b] (C.X i).env=[(false,eval a (C.X i).env),(false,eval b (C.X i).env)]:=by intro _;rfl)(hs2:∀i,starEach [b] (C.X i).env=[(false,eval b (C.X i).env)]:=by intro _;rfl)(hg:∀i,Gl (C.X i) "range":=by intro _;rfl):SI C tg (.Call (.Name "range" p) [a,b] [] pos) (dZ aBY ga):=by
 obtain⟨t,h1,h2⟩:=ha;refine⟨_,λ i=>aDX (hg i) (by rw[(C.cx i).2.2.2.1];exact hm) (h1 i) (hs i) (hs2 i),λ τ σ H ρ lab Rr R W=>h2 τ σ H ρ lab _ R (W.bd.imp λ ds _ w vs H1 s r=>?_)⟩;unfold aBY at w;split at w
 ·rename_i i j _
  split at w
  ·rename_i hj
   cases r with
   |cons h r=>
    cases h;cases r with
    |cons h r=>
     cases h;cases r;exact⟨i,j,rfl,⟨hj.1.1,hj.1.2,hj.2.1,hj.2.2⟩,w (Itr i (j-i).toNat) H1 lab [] s (λ _ _ _=>rfl) (R.up s) λ lab' H' _=>aF3⟩
  ·exact False.elim w
 ·exact False.elim w
def forL(fg:D->En->Rs En)(b:En->Ou):List D->En->Ou
 |[],ρ=>.nx ρ
 |d::ds,ρ=>match fg d ρ with
  | .ok ρ1=>match b ρ1 with
   | .nx ρ2=>forL fg b ds ρ2
   | .ct ρ2=>forL fg b ds ρ2
   | .bk ρ2=>.nx ρ2
   |o=>o
  |_=>.st
def dw(fi:En->Rs (List D))(fg:D->En->Rs En)(b:En->Ou):En->Ou:=λ ρ=>(fi ρ).bo λ ds=>forL fg b ds ρ
theorem dm(hi:SI C tg e fi)(hg:SG C tg ks fg)(hb:SSs C ss f)(hs:∀i,∀x,foldedSetIterable e (C.X i).env x=pure x:=by intro _ _;rfl):SS C (.For tg e ss [] pos) (dw fi fg f):=by
 obtain⟨wi,i1,i2⟩:=hi;obtain⟨gg,g1,g2,_,g4⟩:=hg;obtain⟨tb,b1,b2⟩:=hb;refine⟨_,λ i=>aJD (C.own i) (C.calm i) (i1 i) (g1 i) (b1 i) (hs i),λ τ σ H ρ lab De R W=>i2 τ σ H ρ lab _ R (W.bo.imp λ ds _ w J H1 lab1 τ1 s1 _ R1 jl=>?_)⟩;refine⟨λ i n σ' H'=>∃ρ' lab',RR C.K C.G (τ1++τ) ρ' σ' H' lab'/\n=ds.length-i/\i<=ds.length/\WS C.K C.G τ (forL fg f (ds.drop i) ρ') De,⟨ds.length,ρ,lab1,R1,by lia,by lia,w⟩,?_⟩;rintro i n σ' H' ⟨ρ',lab',R',rfl,hi,w'⟩;have jj:=jl lab' H' λ q hq=>R'.tm q (List.mem_append_left _ hq)
 by_cases hlt:i<ds.length
 ·obtain⟨go,yl⟩:=(jj i).2 hlt
  refine .inr ⟨go,λ σ2 H2=>∃ρ2 lab2,RR C.K C.G (τ1++τ) ρ2 σ2 H2 lab2/\WS C.K C.G τ (forL fg f (ds.drop (i+1)) ρ2) De,λ σ2 H2 ⟨ρ2,lab2,R2,w2⟩=>⟨ds.length-(i+1),by lia,ρ2,lab2,R2,rfl,hlt,w2⟩,λ x H2 hy=>?_⟩;obtain⟨s2,d,ed,rx⟩:=yl x H2 hy;replace R':=R'.up s2;have ed2:ds.drop i=d::ds.drop (i+1):=by
   rw[List.drop_eq_getElem_cons hlt]
   have:=List.getElem?_eq_getElem hlt
   rw[ed]at this;cases this;rfl
  rw[ed2]at w';unfold forL at w';cases eg:fg d ρ' with
  |ex c=>rw[eg]at w';exact False.elim w'
  |st=>rw[eg]at w';exact False.elim w'
  |ok ρ1=>
   rw[eg]at w';refine g2 (τ1++τ) x d σ' H2 ρ' lab' _ ρ1 R' rx eg λ σ1 R1'=>b2 (τ1++τ) σ1 H2 ρ1 lab' _ R1' ?_
   dsimp only at w';cases eb:f ρ1 with
   |nx ρ2=>rw[eb]at w';exact λ σ2 H3 lab2 R2=>⟨ρ2,lab2,R2,w'⟩
   |ct ρ2=>rw[eb]at w';exact λ σ2 H3 lab2 R2=>⟨ρ2,lab2,R2,w'⟩
   |bk ρ2=>rw[eb]at w';exact λ σ2 H3 lab2 R2=>w' σ2 H3 lab2 R2.drop
   |rt d=>rw[eb]at w';exact w'
   |ex c=>rw[eb]at w';exact w'
   |st=>rw[eb]at w';exact w'
 ·have e:i=ds.length:=by lia
  subst e;rw[List.drop_length]at w';exact .inl ⟨(jj _).1 (Nat.le_refl _),w' σ' H' lab' R'.drop⟩
def itW(c:En->Rs Bool)(b:En->Ou):Nat->En->Ou
 |0,_=>.st
 |n+1,ρ=>(c ρ).bo λ k=>if k=true then(match b ρ with
   | .nx ρ2=>itW c b n ρ2
   | .ct ρ2=>itW c b n ρ2
   | .bk ρ2=>.nx ρ2
   |o=>o)else .nx ρ
def fuel:Nat:=1000000
def xn(c:En->Rs Bool)(b:En->Ou):En->Ou:=itW c b fuel
theorem aEK(hc:ST C c fc)(hb:SSs C ss f):SS C (.While c ss [] pos) (xn fc f):=by
 obtain⟨tc,c1,c2⟩:=hc;obtain⟨tb,b1,b2⟩:=hb;refine⟨_,λ i=>aEi (C.own i) (c1 i) (b1 i),λ τ σ H ρ lab De R W=>?_⟩;refine⟨λ n σ' H'=>∃ρ' lab',RR C.K C.G τ ρ' σ' H' lab'/\WS C.K C.G τ (itW fc f n ρ') De,⟨fuel,ρ,lab,R,W⟩,?_⟩;rintro n σ' H' ⟨ρ',lab',R',w'⟩;cases n with
 |zero=>exact False.elim w'
 |succ n=>
  refine c2 τ σ' H' ρ' lab' _ R' (WS.bo (show WS C.K C.G τ ((fc ρ').bo _) De from w') |>.imp λ k _ w H1 s1=>?_);cases k with
  |false=>
   rw[if_neg Bool.false_ne_true]at w ⊢;exact w σ' H1 lab' (R'.up s1)
  |true=>
   rw[if_pos rfl]at w ⊢;refine⟨λ σ2 H2=>∃ρ2 lab2,RR C.K C.G τ ρ2 σ2 H2 lab2/\WS C.K C.G τ (itW fc f n ρ2) De,λ σ2 H2 ⟨ρ2,lab2,R2,w2⟩=>⟨n,Nat.lt_succ_self n,ρ2,lab2,R2,w2⟩,?_⟩;refine b2 τ σ' H1 ρ' lab' _ (R'.up s1) ?_;cases eb:f ρ' with
   |nx ρ2=>rw[eb]at w;exact λ σ2 H3 lab2 R2=>⟨ρ2,lab2,R2,w⟩
   |ct ρ2=>rw[eb]at w;exact λ σ2 H3 lab2 R2=>⟨ρ2,lab2,R2,w⟩
   |bk ρ2=>rw[eb]at w;exact w
   |rt d=>rw[eb]at w;exact w
   |ex c=>rw[eb]at w;exact w
   |st=>rw[eb]at w;exact w
def uQ(x:Str)(ga:En->Rs (List D)):En->Ou:=λ ρ=>(ga ρ).bo λ ds=>if ds.length<=sizeLine then .ex x else .st
theorem z7{rest:List Expr}(hd:C.dOk=true)(hm:C.mg x=some (.ref Ca))(hcl:C.G.cl x=Ca)(hC:gk C.K Ca)(ha:SA C m (e₀::rest) ga)(he:∀i,starEach (e₀::rest) (C.X i).env=(false,eval e₀ (C.X i).env)::starEach rest (C.X i).env:=by intro _;rfl)(hplain:∀i,(backTo cpos (starEach rest (C.X i).env)).any (·.1)=false:=by intro _;rfl)(hdb:(x==("__debug__":Str))=false:=by decide)(hg:∀i,Gl (C.X i) x:=by intro _;rfl):SS C (.Raise (some (.Call (.Name x np) (e₀::rest) [] cpos)) none pos) (uQ x ga):=by
 obtain⟨t,h1,h2⟩:=ha;refine⟨_,λ i=>aEk (C.dcx hd i) (C.calm i) (by rw[(C.cx i).2.2.2.1];exact hm) (by rw[C.hK i];exact hC) (hg i) (h1 i) (he i) (hplain i) hdb,λ τ σ H ρ lab De R W=>h2 τ σ H ρ lab _ R (W.bo.imp λ ds _ w vs H1 s r=>?_)⟩;by_cases hz:ds.length<=sizeLine
 ·rw[if_pos hz]at w
  refine⟨by rw[r.length];exact hz,?_⟩
  have:=w H1 (R.old.trans s)
  rwa [hcl]at this
 ·rw[if_neg hz]at w
  exact False.elim w
def spF(K:PySem.W.Frag)(cl:Str->Addr)(n:Nat)(F:List D->Rs D):Sp:=λ vs H Q E=>∃ds,vs.length=n/\Rps K (λ _=>True) H vs ds/\WR ⟨H,E,cl⟩ (F ds) (λ d=>∀v H',aU H H'->Rp K (λ p=>H p=none) H' v d->Q v H')
def aO(F:List D->Rs D)(ga:En->Rs (List D)):En->Rs D:=λ ρ=>(ga ρ).bd F
theorem aES{K:PySem.W.Frag}(hn:∀ρ ds,ga ρ= .ok ds->ds.length=n)(h:aHy K G m t ga):gj K G (some []) (zZ (spF K G.cl n F) [] G.E t) (aO F ga):=by
 intro τ σ H ρ lab Q R W;refine h τ σ H ρ lab _ R (W.bd.imp λ ds eds w vs H1 s r=>⟨ds,by rw[List.append_nil,r.length];exact hn ρ ds eds,by rw[List.append_nil];exact r.wk λ _ _ _ _=>trivial,?_⟩);cases hF:F ds with
 |ok d=>
  rw[hF]at w;exact λ v H' s' r'=>w v H' (s.trans s') (r'.wk λ p o _ z=>.inl (s.free z))
 |ex c=>rw[hF]at w;exact λ H' s'=>w H' ((R.old.trans s).trans s')
 |st=>rw[hF]at w;exact w
variable{k:Nat}{fn:Addr}{fd:FuncData}{ps:List Str}{x:Str}{p:Pos}{F:List D->Rs D}{n:Nat}
theorem aGd(hF:cY C.prog C.w C.K C.mg C.base (CX1 C.prog C.w) k fn fd ps (spF C.K C.G.cl n F))(hr:k<=C.k)(hm:C.mg x=some (.ref fn))(hk:PySem.W.keepIn C.K (.ref fn)=true)(hb:Binds C.K fd ps [])(ha:SA C m (e::es) ga)(hn:∀ρ ds,ga ρ= .ok ds->ds.length=n)(hdb:(x==("__debug__":Str))=false:=by decide)(he:∀i,starEach (e::es) (C.X i).env=(false,eval e (C.X i).env)::starEach es (C.X i).env:=by intro _;rfl)(hpl:∀i,(backTo pos (starEach es (C.X i).env)).any (·.1)=false:=by intro _;rfl)(hg:∀i,Gl (C.X i) x:=by intro _;rfl):SE C (some []) (.Call (.Name x p) (e::es) [] pos) (aO F ga):=by
 obtain⟨t,h1,h2⟩:=ha;refine⟨_,λ i=>?_,aES hn h2⟩;obtain⟨e1,e2,e3,e4,e5⟩:=C.cx i;refine aGu (CX:=CX1 (C.X i).prog (C.X i).w) (by rw[e1,e2,e3,e4,e5];exact hF) ((C.room i).mono hr) (hg i) (by rw[e4];exact hm) (by rw[e3];exact hk) (by rw[e3];exact hb) .nil (C.pass i) (h1 i) hdb (he i) (hpl i)
theorem aHQ(h:aG ρ= .ok ds):ds.length=0:=by cases h;rfl
theorem aFS(h:∀ρ ds,ga ρ= .ok ds->ds.length=n):∀ρ ds,aA fa ga ρ= .ok ds->ds.length=n+1:=λ ρ ds e=>by
 obtain⟨d,_,e⟩:=cW e;obtain⟨r,er,e⟩:=cW e;cases e;rw[List.length_cons,h ρ r er]
end
def aq(mg:Str->Option Value):Str->Addr:=λ x=>match mg x with
 |some (.ref a)=>a
 |_=>0
abbrev ctD(P:Program)(w:World)(K:PySem.W.Frag)(mg:Str->Option Value)(base:Heap)(N:List Str)(q:Str)(sc:Scope)(f:Addr)(cdv:Value)(A:Around)(outer:List Env)(s:Shared)(H:Hp)(E:XK)(k:Nat)(hr:dg k (A.deeper (envOfC q sc s.heap.objs.size f cdv))):Ct where
 ι:=Unit
 X:=λ _=>sr (CX1 P w) P w K mg base N q sc f cdv A outer s H E
 prog:=P
 w:=w
 K:=K
 mg:=mg
 base:=base
 k:=k
 G:=⟨H,E,aq mg⟩
 cx:=λ _=>⟨rfl,rfl,rfl,rfl,rfl⟩
 calm:=λ _=>rfl
 room:=λ _=>hr
 own:=λ _=>dB.own dB.of
 pass:=λ _=>dB.pass dB.of
 dOk:=true
 dcx:=λ _ _=>dB.of
def bA(n:Nat)(ds:List D):En:=ds.map .sh++List.replicate (n-ds.length) .no
def eH(n:Nat)(f:En->Ou):List D->Rs D:=λ ds=>match f (bA n ds)with
 | .nx _=>.ok .non
 | .rt d=>.ok d
 | .ex c=>.ex c
 |_=>.st
theorem RR.start{K:PySem.W.Frag}(r:Rps K (λ _=>True) H vs ds):RR K ⟨H,E,cl⟩ [] (bA N.length ds) (start N vs) H (λ _=>(0,0)):=by
 have hl:=r.length;refine⟨by unfold bA L2.start;simp[hl],λ i s e=>?_,aU.refl H,λ p hp=>absurd rfl hp,λ q hq=>by cases hq⟩;unfold bA at e;by_cases hi:i<ds.length
 ·rw[List.getElem?_append_left (by simpa using hi),List.getElem?_map]at e
  cases ed:ds[i]? with
  |none=>rw[ed]at e;cases e
  |some d=>
   rw[ed]at e;cases e;obtain⟨x,ex,rx⟩:=r.getD ed;refine .inr ⟨x,?_,rx.wk λ _ _ _ _=>Nat.zero_le _⟩;unfold L2.start;rw[List.getElem?_append_left (by simpa[hl]using hi),List.getElem?_map,ex];rfl
 ·rw[List.getElem?_append_right (by simpa using hi),List.getElem?_replicate]at e
  split at e
  ·cases e;exact .inl rfl
  ·cases e
section
variable{P:Program}{w:World}{K:PySem.W.Frag}{mg:Str->Option Value}{base:Heap}
theorem aKG{x q:Str}{st:Stmt}(F:L2.Fun K x q st fn fd)(S:ak N ps (aF st))
  (hb:∀cdv A outer s H E hr,SSs (ctD P w K mg base N q (aF st) fn cdv A outer s H E k hr) (cj st) f):
  cY P w K mg base (CX1 P w) (k+1) fn fd ps (spF K (aq mg) ps.length (eH N.length f)):=by
 refine F.okX S (λ vs H Q E ⟨ds,hl,_⟩=>hl) λ cdv A outer s H vs Q E hr ⟨ds,hl,r,W⟩=>?_
 obtain⟨t,h1,h2⟩:=hb cdv A outer s H E hr;refine⟨t,h1 (),h2 [] _ H _ _ _ (RR.start r) ?_⟩;unfold eH at W;cases e:f (bA N.length ds)with
 |nx ρ=>rw[e]at W;exact λ σ' H' lab R=>W .non H' R.old .non
 |rt d=>rw[e]at W;exact λ v H' s r=>W v H' s r
 |ex c=>rw[e]at W;exact W
 |bk ρ=>rw[e]at W;exact False.elim W
 |ct ρ=>rw[e]at W;exact False.elim W
 |st=>rw[e]at W;exact False.elim W
theorem aHi{st:Stmt}(F:L2.Fun K x q st fn fd)(S:ak N ps (aF st))
  (hb:∀cdv A outer s H E hr,SSs (ctD P w K mg base N q (aF st) fn cdv A outer s H E k hr) (cj st) f)(hn:ps.length=n)(hF:eH N.length f=FF):
  cY P w K mg base (CX1 P w) (k+1) fn fd ps (spF K (aq mg) n FF):=by
 subst hn hF;exact aKG F S hb
end
theorem OpR.or(h:OpR X f r)(h':OpR X f r'):OpR X f (λ x y H Q=>r x y H Q\/r' x y H Q):=by
 intro pins s σ H x y v u Q I rx ry q;rcases q with q|q
 ·exact h pins s σ H x y v u Q I rx ry q
 ·exact h' pins s σ H x y v u Q I rx ry q
theorem OpS.or{K:PySem.W.Frag}(h:OpS K r fd)(h':OpS K r' fd'):OpS K (λ x y H Q=>r x y H Q\/r' x y H Q) (λ d e=>match fd d e with
  | .ok z=>.ok z
  |_=>fd' d e):=by
 intro A x y d e H Q z rx ry ez q;dsimp only at ez;cases hd:fd d e with
 |ok w=>rw[hd]at ez;cases ez;exact .inl (h A x y d e H Q _ rx ry hd q)
 |ex c=>rw[hd]at ez;exact .inr (h' A x y d e H Q z rx ry ez q)
 |st=>rw[hd]at ez;exact .inr (h' A x y d e H Q z rx ry ez q)
section
variable{K:PySem.W.Frag}
def i2(p:Int->Int->Bool)(g:Int->Int->D):D->D->Rs D
 | .int i,.int j=>if p i j=true then .ok (g i j)else .st
 |_,_=>.st
theorem aBf{g:Int->Int->Int}(hp:∀i j,p i j=true->c i j):OpS K (rI c λ i j=>.int (g i j)) (i2 p λ i j=>.int (g i j)):=by
 intro A x y d e H Q z rx ry ez q;unfold i2 at ez;split at ez
 ·rename_i i j
  split at ez
  ·rename_i h
   cases ez;obtain rfl:=rx.int_inv;obtain rfl:=ry.int_inv;exact⟨i,j,rfl,rfl,hp i j h,q _ H (aU.refl H) (.int _)⟩
  ·cases ez
 ·cases ez
theorem aGy{g:Int->Int->Int}:OpS K (rI0 λ i j=>.int (g i j)) (i2 (λ _ _=>true) λ i j=>.int (g i j)):=by
 intro A x y d e H Q z rx ry ez q;unfold i2 at ez;split at ez
 ·rename_i i j
  cases ez;obtain rfl:=rx.int_inv;obtain rfl:=ry.int_inv;exact⟨i,j,rfl,rfl,q _ H (aU.refl H) (.int _)⟩
 ·cases ez
theorem yU{g:Int->Int->Bool}:OpS K (rI0 λ i j=>.bl (g i j)) (i2 (λ _ _=>true) λ i j=>.bl (g i j)):=by
 intro A x y d e H Q z rx ry ez q;unfold i2 at ez;split at ez
 ·rename_i i j
  cases ez;obtain rfl:=rx.int_inv;obtain rfl:=ry.int_inv;exact⟨i,j,rfl,rfl,q _ H (aU.refl H) (.bl _)⟩
 ·cases ez
theorem yt{g:Int->Int->Int}:∀x y z,i2 p (λ i j=>.int (g i j)) x y= .ok z->imm z=true:=by
 intro x y z e;unfold i2 at e;split at e
 ·split at e
  ·cases e;rfl
  ·cases e
 ·cases e
theorem aFf{g:Int->Int->Bool}:∀x y z,i2 p (λ i j=>.bl (g i j)) x y= .ok z->imm z=true:=by
 intro x y z e;unfold i2 at e;split at e
 ·split at e
  ·cases e;rfl
  ·cases e
 ·cases e
def fX:D->D->Rs D
 | .int i,.int j=>.ok (.int (i+j))
 | .lst l,.lst m=>if l.length+m.length<=sizeLine then .ok (.lst (l++m))else .st
 | .tup l,.tup m=>if l.length+m.length<=sizeLine then .ok (.tup (l++m))else .st
 |_,_=>.st
def aIQ(K:PySem.W.Frag):R2:=λ x y H Q=>∃a b xs ys,x= .ref a/\y= .ref b/\SqT K H a xs/\SqT K H b ys/\xs.length+ys.length<=sizeLine/\
 (xs=[]->Q (.ref b) H)/\(ys=[]->Q (.ref a) H)/\New H (.tup (xs++ys)) Q
theorem aHD:OpR X (binaryOp .Add) (aIQ X.K):=by
 intro pins s σ H x y v u Q I rx ry h;obtain⟨a,b,xs,ys,rfl,rfl,ha,hb,hz,q0,q1,q2⟩:=h;by_cases hx:xs=[]
 ·subst hx
  cases rx;cases ry;obtain⟨its,r1,p1,_⟩:=I.tuple ha;obtain⟨its2,r2,p2,_⟩:=I.tuple hb;cases r1;exact HT.aGF p1 p2 ⟨.ref b,H,I,rfl,q0 rfl⟩
 ·exact aHE pins s σ H _ _ v u Q I rx ry ⟨a,b,xs,ys,rfl,rfl,ha,hb,hx,hz,q1,λ _ p hp=>q2.at hp⟩
def aEd(K:PySem.W.Frag):R2:=λ x y H Q=>rI0 (λ i j=>.int (i+j)) x y H Q\/(aEc x y H Q\/aIQ K x y H Q)
theorem aHF:OpR X (binaryOp .Add) (aEd X.K):=OpR.or aJe (OpR.or yV aHD)
theorem aJY:OpS K (aEd K) fX:=by
 intro A x y d e H Q z rx ry ez q;unfold fX at ez;split at ez
 ·cases ez;obtain rfl:=rx.int_inv;obtain rfl:=ry.int_inv;exact .inl ⟨_,_,rfl,rfl,q _ H (aU.refl H) (.int _)⟩
 ·split at ez
  ·rename_i hl
   cases ez;obtain⟨_,_,rfl,h1,m1,r1⟩:=rx.lst_inv;obtain⟨_,_,rfl,h2,m2,r2⟩:=ry.lst_inv;refine .inr (.inl ⟨_,_,_,_,rfl,rfl,h1,h2,by rw[r1.length,r2.length];exact hl,λ p H' s hp hn=>q _ H' s (.lst hp (.inl hn) ?_)⟩);exact(((r1.wk λ _ _ _ z=>z.1).append (r2.wk λ _ _ _ z=>z.1)).wk (A':=λ q=>(H q=none\/A q)/\q≠p) λ q o e z=>⟨.inr z,λ e'=>by subst e';rw[hn]at e;cases e⟩).up s
  ·cases ez
 ·split at ez
  ·rename_i hl
   cases ez;obtain⟨_,_,rfl,h1,r1⟩:=rx.tup_inv;obtain⟨_,_,rfl,h2,r2⟩:=ry.tup_inv;have r1':=r1.wk (A':=λ p=>H p=none\/A p) λ _ _ _ z=>.inr z
   have r2':=r2.wk (A':=λ p=>H p=none\/A p) λ _ _ _ z=>.inr z
   refine .inr (.inr ⟨_,_,_,_,rfl,rfl,h1,h2,by rw[r1.length,r2.length];exact hl,λ e=>?_,λ e=>?_,λ p H' s hp hn=>q _ H' s (.tup (SqT.of hp) ((r1'.append r2').up s))⟩)
   ·subst e
    cases r1';exact q _ H (aU.refl H) (.tup h2 r2')
   ·subst e
    cases r2';rw[List.append_nil]at q;exact q _ H (aU.refl H) (.tup h1 r1')
  ·cases ez
 ·cases ez
def jf:D->D->Rs D
 | .int i,.int j=>if (decide (-(2^64)<i)&&decide (i<2^64))||(decide (-(2^64)<j)&&decide (j<2^64))then .ok (.int (i*j))else .st
 | .lst l,.int k=>if decide (-(2^63)<=k)&&decide (k<2^63)&&decide (l.length*k.toNat<=sizeLine)&&vp l then .ok (.lst (List.replicate k.toNat l).flatten)else .st
 |_,_=>.st
theorem Rps.rep(r:Rps K A H xs ds):∀k:Nat,Rps K A H (List.replicate k xs).flatten (List.replicate k ds).flatten
 |0=>.nil
 |k+1=>by
  rw[List.replicate_succ,List.replicate_succ,List.flatten_cons,List.flatten_cons];exact r.append (Rps.rep r k)
def aIN:R2:=λ x y H Q=>rI aIE (λ i j=>.int (i*j)) x y H Q\/aKj x y H Q
theorem aHB:OpR X (binaryOp .Mult) aIN:=OpR.or aJ4 aJ1
theorem aJV:OpS K aIN jf:=by
 intro A x y d e H Q z rx ry ez q;unfold jf at ez;split at ez
 ·split at ez
  ·rename_i hc
   cases ez;obtain rfl:=rx.int_inv;obtain rfl:=ry.int_inv;refine .inl ⟨_,_,rfl,rfl,?_,q _ H (aU.refl H) (.int _)⟩;simp only[Bool.or_eq_true,Bool.and_eq_true,decide_eq_true_eq]at hc;exact hc
  ·cases ez
 ·split at ez
  ·rename_i hc
   simp only[Bool.and_eq_true,decide_eq_true_eq]at hc;cases ez;obtain⟨_,_,rfl,h1,m1,r1⟩:=rx.lst_inv;obtain rfl:=ry.int_inv;refine .inr ⟨_,_,_,rfl,rfl,h1,hc.1.1.1,hc.1.1.2,by rw[r1.length];exact hc.1.2,λ p hp=>q _ _ (bT hp _) (.lst au (.inl hp) ?_)⟩;exact((r1.rep _).wk (A':=λ q=>(H q=none\/A q)/\q≠p) λ q o e z=>⟨.inr z.1,λ e'=>by subst e';rw[hp]at e;cases e⟩).up (bT hp _)
  ·cases ez
 ·cases ez
def intsOf:List D->Option (List Int)
 |[]=>some []
 | .int i::r=>(intsOf r).map (i::·)
 |_=>none
theorem dN:∀{l:List D} {ns:List Int},intsOf l=some ns->l=ns.map .int
 |[],ns,h=>by cases h;rfl
 | .int i::r,ns,h=>by
  simp only[intsOf,Option.map_eq_some_iff]at h;obtain⟨ms,h1,rfl⟩:=h;rw[dN h1];rfl
 | .non::_,_,h=>by cases h
 | .bl _::_,_,h=>by cases h
 | .str _::_,_,h=>by cases h
 | .tup _::_,_,h=>by cases h
 | .lst _::_,_,h=>by cases h
 | .dct _ _::_,_,h=>by cases h
 | .set _::_,_,h=>by cases h
 | .scr _::_,_,h=>by cases h
theorem fj:∀ns:List Int,intsOf (ns.map .int)=some ns
 |[]=>rfl
 |n::ns=>by simp only[List.map_cons,intsOf,fj ns,Option.map_some]
def ltT(p:List Int->List Int->Bool):D->D->Rs D
 | .tup l,.tup m=>match intsOf l,intsOf m with
  |some ns,some ms=>.ok (.bl (p ns ms))
  |_,_=>.st
 |_,_=>.st
theorem aC7(r:Rp K A H x (.tup l))(e:intsOf l=some ns):∃a,x= .ref a/\SqT K H a (ns.map V.int):=by
 have:=dN e
 subst this;cases r with
 |tup h r=>
  have:=r.ints_of
  subst this;exact⟨_,rfl,h⟩
theorem aCf(hr:∀x y H Q,(∃a b ns ms,x= .ref a/\y= .ref b/\SqT K H a (ns.map V.int)/\SqT K H b (ms.map V.int)/\Q (.bl (p ns ms)) H)->r x y H Q):OpS K r (ltT p):=by
 intro A x y d e H Q z rx ry ez q;unfold ltT at ez;split at ez
 ·split at ez
  ·rename_i ns ms e1 e2
   cases ez;obtain⟨a,rfl,ha⟩:=aC7 rx e1;obtain⟨b,rfl,hb⟩:=aC7 ry e2;exact hr _ _ _ _ ⟨a,b,ns,ms,rfl,rfl,ha,hb,q _ H (aU.refl H) (.bl _)⟩
  ·cases ez
 ·cases ez
def ltD:D->D->Rs D:=λ d e=>match i2 (λ _ _=>true) (λ i j=>.bl (decide (i<j))) d e with
 | .ok z=>.ok z
 |_=>ltT HT.lexLt d e
def leD:D->D->Rs D:=λ d e=>match i2 (λ _ _=>true) (λ i j=>.bl (decide (i<=j))) d e with
 | .ok z=>.ok z
 |_=>ltT HT.lexLe d e
def gtD:D->D->Rs D:=i2 (λ _ _=>true) (λ i j=>.bl (decide (j<i)))
def geD:D->D->Rs D:=i2 (λ _ _=>true) (λ i j=>.bl (decide (j<=i)))
theorem aJ6(hu:X.A.units<cLine):OpR X (compareOp .Lt) (λ x y H Q=>rI0 (λ i j=>.bl (decide (i<j))) x y H Q\/aGh X.K x y H Q):=OpR.or aKt (aJ7 hu)
theorem aJ8(hu:X.A.units<cLine):OpR X (compareOp .LtE) (λ x y H Q=>rI0 (λ i j=>.bl (decide (i<=j))) x y H Q\/aGi X.K x y H Q):=OpR.or aKu (aJ9 hu)
theorem aFD:OpS K (λ x y H Q=>rI0 (λ i j=>.bl (decide (i<j))) x y H Q\/aGh K x y H Q) ltD:=OpS.or yU (aCf λ _ _ _ _ h=>h)
theorem aFE:OpS K (λ x y H Q=>rI0 (λ i j=>.bl (decide (i<=j))) x y H Q\/aGi K x y H Q) leD:=OpS.or yU (aCf λ _ _ _ _ h=>h)
theorem aCu(e:ltT p x y= .ok z):imm z=true:=by
 unfold ltT at e;split at e
 ·split at e
  ·cases e;rfl
  ·cases e
 ·cases e
theorem aFe:∀x y z,ltD x y= .ok z->imm z=true:=by
 intro x y z e;unfold ltD at e;split at e
 ·rename_i w hw;cases e;exact aFf _ _ _ hw
 ·exact aCu e
theorem aKA:∀x y z,leD x y= .ok z->imm z=true:=by
 intro x y z e;unfold leD at e;split at e
 ·rename_i w hw;cases e;exact aFf _ _ _ hw
 ·exact aCu e
def aFK:D->Rs D
 | .int i=>.ok (.int (-i))
 |_=>.st
theorem aI8:UnS K (rU λ i=>.int (-i)) aFK:=by
 intro A x d H Q z rx ez q;cases rx with
 |int i=>cases ez;exact⟨i,rfl,q _ H (aU.refl H) (.int _)⟩
 |_=>cases ez
theorem aH7:∀x z,aFK x= .ok z->imm z=true:=by
 intro x z e;cases x with
 |int i=>cases e;rfl
 |_=>cases e
def atD(l:List D)(i:Int):Rs D:=match atI l i with
 |some d=>.ok d
 |none=>.st
def ixD:D->D->Rs D
 | .tup l,.int i=>atD l i
 | .lst l,.int i=>atD l i
 | .scr l,.int i=>atD (l.map .int) i
 |_,_=>.st
theorem Rps.at(r:Rps K A H xs ds)(e:atI ds i=some d):∃x,atI xs i=some x/\Rp K A H x d:=by
 unfold atI at e ⊢;rw[r.length];cases h:ixN ds.length i with
 |none=>rw[h]at e;cases e
 |some j=>
  rw[h]at e;obtain⟨x,e1,e2⟩:=r.getD (i:=j) (d:=d) e;exact⟨x,e1,e2⟩
theorem aKs:OpS K (rIx K) ixD:=by
 intro A x y d e H Q z rx ry ez q;unfold ixD at ez;split at ez
 ·unfold atD at ez
  split at ez
  ·rename_i w hw
   cases ez;obtain⟨_,_,rfl,h,r⟩:=rx.tup_inv;obtain rfl:=ry.int_inv;obtain⟨v,e1,e2⟩:=r.at hw;exact .inr (.inl ⟨_,_,_,v,rfl,rfl,h,e1,q v H (aU.refl H) (e2.wk λ _ _ _ z=>.inr z)⟩)
  ·cases ez
 ·unfold atD at ez
  split at ez
  ·rename_i w hw
   cases ez;obtain⟨_,_,rfl,h,m,r⟩:=rx.lst_inv;obtain rfl:=ry.int_inv;obtain⟨v,e1,e2⟩:=r.at hw;exact .inl ⟨_,_,_,v,rfl,rfl,SqL.of h,e1,q v H (aU.refl H) (e2.wk λ _ _ _ z=>.inr z.1)⟩
  ·cases ez
 ·unfold atD at ez
  split at ez
  ·rename_i w hw
   cases ez;obtain⟨_,rfl,h⟩:=rx.scr_inv;obtain rfl:=ry.int_inv;obtain⟨v,e1,e2⟩:=(Rps.ints (K:=K) (A:=A) (H:=H)).at hw;exact .inl ⟨_,_,_,v,rfl,rfl,h.sq,e1,q v H (aU.refl H) (e2.wk λ _ _ _ z=>.inr z)⟩
  ·cases ez
 ·cases ez
def j6:List D->Rs D
 |[.tup l]=>.ok (.int l.length)
 |[.lst l]=>.ok (.int l.length)
 |[.scr l]=>.ok (.int l.length)
 |_=>.st
theorem aKJ:v4 K (λ xs H Q=>∃p ys,xs=[.ref p]/\(SqL K H p ys\/SqT K H p ys)/\Q (.int ys.length) H) j6:=by
 intro A xs ds H Q z r ez q;unfold j6 at ez;split at ez
 ·cases ez
  obtain⟨_,rfl,h0⟩:=r.one_inv;obtain⟨_,_,rfl,h,r⟩:=h0.tup_inv;exact⟨_,_,rfl,.inr h,by rw[r.length];exact q _ H (aU.refl H) (.int _)⟩
 ·cases ez
  obtain⟨_,rfl,h0⟩:=r.one_inv;obtain⟨_,_,rfl,h,m,r⟩:=h0.lst_inv;exact⟨_,_,rfl,.inl (SqL.of h),by rw[r.length];exact q _ H (aU.refl H) (.int _)⟩
 ·cases ez
  obtain⟨_,rfl,h0⟩:=r.one_inv;obtain⟨_,rfl,h⟩:=h0.scr_inv;exact⟨_,_,rfl,.inl h.sq,by rw[List.length_map];exact q _ H (aU.refl H) (.int _)⟩
 ·cases ez
theorem aH9:∀x z,j6 x= .ok z->imm z=true:=by
 intro x z e;unfold j6 at e;split at e<;>first|(cases e;rfl)|cases e
def tyD:D->String
 | .non=>"NoneType"| .bl _=>"bool"| .int _=>"int"| .str _=>"str"| .tup _=>"tuple"| .lst _=>"list"| .dct _ _=>"dict"| .set _=>"set"| .scr _=>"script"| .fn _=>"function"
def fZ(T:String):D->Rs D:=λ d=>if nZ (tyD d) T true=true then .ok (.bl true)else if nZ (tyD d) T false=true then .ok (.bl false)else .st
def aIO(K:PySem.W.Frag)(T:String):List V->Hp->VK->Prop:=λ xs H Q=>∃x d A b,xs=[x,.ty T]/\Rp K A H x d/\nZ (tyD d) T b=true/\Q (.bl b) H
theorem aDt:cO X (.builtin "isinstance") (aIO X.K T):=by
 intro pins s σ H xs us Q I rv h;obtain⟨x,d,A,b,rfl,rd,ok,q⟩:=h;cases rd with
 |tup h r=>
  obtain⟨u,w',rfl,ru,rw'⟩:=vals2 rv;cases ru;cases rw';obtain⟨its,_,⟨o,h1,h2,_⟩,_⟩:=I.tuple h;exact PySem.W.kia_one PySem.W.kitx_tuple I.kIn ⟨o,h1,h2⟩ (aBz ok) (λ z=>nomatch z) λ tk=>⟨.bl b,H,I.tok _,rfl,q⟩
 |set h m hS nd=>cases b<;>simp[nZ,tyD]at ok
 |scr h=>cases b<;>simp[nZ,tyD]at ok
 |fn h=>cases b<;>simp[nZ,tyD]at ok
 |non=>exact jq pins s σ H _ us Q I rv ⟨_,T,_,b,rfl,.non,ok,q⟩
 |bl c=>exact jq pins s σ H _ us Q I rv ⟨_,T,_,b,rfl,.bl c,ok,q⟩
 |int c=>exact jq pins s σ H _ us Q I rv ⟨_,T,_,b,rfl,.int c,ok,q⟩
 |str c=>exact jq pins s σ H _ us Q I rv ⟨_,T,_,b,rfl,.str c,ok,q⟩
 |lst h m r=>exact jq pins s σ H _ us Q I rv ⟨_,T,_,b,rfl,.lst h,ok,q⟩
 |dK h m r=>exact jq pins s σ H _ us Q I rv ⟨_,T,_,b,rfl,.dK h,ok,q⟩
 |dT h m r=>
  obtain⟨u,w',rfl,ru,rw'⟩:=vals2 rv;cases ru;cases rw';obtain⟨⟨_,_,_,o,_,_,_,h1,h2,_⟩,_⟩:=(show bw X.prog X.w H s.heap _ (dxO _ _)from I.hok _ _ h.at_);exact PySem.W.kia_one PySem.W.kitx_dict I.kIn ⟨o,h1,h2.1⟩ (aBz ok) (λ z=>nomatch z) λ tk=>⟨.bl b,H,I.tok _,rfl,q⟩
end
section
variable{C:Ct}{pos p p2:Pos}{m:Mode}{a:Expr}{fa:En->Rs D}
theorem kO(ha:SE C m a fa)(hm:C.mg "isinstance"=none)(hmT:C.mg x=none)(hn:x≠"__name__":=by decide)(hd:(x==("__debug__":Str))=false:=by decide)(he:∀i,starEach [a,.Name x p2] (C.X i).env=(false,eval a (C.X i).env)::starEach [.Name x p2] (C.X i).env:=by intro _;rfl)(hpl:∀i,(backTo pos (starEach [.Name x p2] (C.X i).env)).any (·.1)=false:=by intro _;rfl)(hg:∀i,Gl (C.X i) "isinstance":=by intro _;rfl)(hv:bootBuiltins "isinstance"=some (.builtin "isinstance"):=by decide+kernel)(hgT:∀i,Gl (C.X i) x:=by intro _;rfl)(hvT:bootBuiltins x=some (.type T):=by decide+kernel):
  SE C (some []) (.Call (.Name "isinstance" p) [a,.Name x p2] [] pos) (op1 (fZ T) fa):=by
 obtain⟨t,h1,h2⟩:=ha;refine⟨tCB (aIO C.K T) (iB t (iB (tC (.ty T)) lV)),λ i=>?_,λ τ σ H ρ lab Q R W=>?_⟩
 ·rw[<-C.hK i]
  exact lz aDt (hg i) (by rw[(C.cx i).2.2.2.1];exact hm) hv (aa (h1 i) (aa (aCe (v:=.ty T) (hgT i) (by rw[(C.cx i).2.2.2.1];exact hmT) hvT rfl hn hd) cP) (he i)) (by decide) (by decide) (he i) (hpl i)
 ·refine h2 τ σ H ρ lab _ R (W.bd.imp λ d _ w x H1 s1 r1=>?_)
  obtain⟨z,ez,w⟩:=w.okD;unfold fZ at ez;split at ez
  ·rename_i h;cases ez;exact⟨x,d,_,true,rfl,r1,h,w _ H1 s1 (.bl _)⟩
  ·split at ez
   ·rename_i h;cases ez;exact⟨x,d,_,false,rfl,r1,h,w _ H1 s1 (.bl _)⟩
   ·cases ez
end
def qN:Slot->Slot
 | .ow d=>.sh d
 | .nw d=>.sh d
 | .oz d=>.sh d
 | .o2 l=>.sh (.lst (l.map .lst))
 |s=>s
def shE(ρ:En):En:=ρ.map qN
def stV(js:List (Option Nat))(σ:L2.St):L2.St:=js.map λ o=>o.bind λ j=>(σ[j]?).join
def stE(js:List (Option Nat))(ρ:En):En:=js.map λ o=>match o with
 |none=>.no
 |some j=>(ρ[j]?).getD .no
theorem aGf{K:PySem.W.Frag}(h:eF K H lab i v s):∃d,(s= .no\/qN s= .sh d)/\(s= .no\/Rp K (λ _=>True) H v d):=by
 cases s with
 |no=>exact⟨.non,.inl rfl,.inl rfl⟩
 |sh d=>exact⟨d,.inr rfl,.inr (Rp.wk (λ _ _ _ _=>trivial) h)⟩
 |nw d=>exact⟨d,.inr rfl,.inr (Rp.wk (λ _ _ _ _=>trivial) h)⟩
 |ow d=>exact⟨d,.inr rfl,.inr (Rp.wk (λ _ _ _ _=>trivial) h.1)⟩
 |oz d=>exact⟨d,.inr rfl,.inr (Rp.wk (λ _ _ _ _=>trivial) (aIU h))⟩
 |o2 l=>exact⟨_,.inr rfl,.inr (Rp.wk (λ _ _ _ _=>trivial) (aCh h))⟩
theorem RR.shE{K:PySem.W.Frag}(R:RR K G τ ρ σ H lab):RR K G τ (shE ρ) σ H (λ _=>(0,0)):=by
 refine⟨by unfold VL.shE;rw[List.length_map];exact R.len,λ i s e=>?_,R.old,λ p hp=>absurd rfl hp,λ q hq=>(R.tm q hq).wk λ _ _ _ _=>Nat.zero_le _⟩;unfold VL.shE at e;rw[List.getElem?_map]at e;cases e0:ρ[i]? with
 |none=>rw[e0]at e;cases e
 |some s0=>
  rw[e0]at e;cases e;rcases R.sl i s0 e0 with rfl|⟨v,ev,hv⟩
  ·exact .inl rfl
  ·obtain⟨d,h1,h2⟩:=aGf hv
   rcases h1 with rfl|h1
   ·exact .inl rfl
   ·rcases h2 with rfl|h2
    ·exact .inl rfl
    ·exact .inr ⟨v,ev,by rw[h1];exact h2.wk λ _ _ _ _=>Nat.zero_le _⟩
theorem aEJ{i:Nat}(e:(stE js ρ)[i]? =some s):s= .no\/∃j,js[i]? =some (some j)/\ρ[j]? =some s:=by
 unfold stE at e;rw[List.getElem?_map]at e;cases ej:js[i]? with
 |none=>rw[ej]at e;cases e
 |some o=>
  rw[ej]at e;cases o with
  |none=>cases e;exact .inl rfl
  |some j=>
   cases er:ρ[j]? with
   |none=>simp[er]at e;exact .inl e.symm
   |some s'=>simp[er]at e;subst e;exact .inr ⟨j,rfl,er⟩
theorem RR.block{K:PySem.W.Frag}{τ:List (V×D)}(R:RR K G τ (VL.shE ρ) σ H lab)(hz:∀p,(lab p).1<=1)(hl:H l=none):
  RR K G τ (stE js (VL.shE ρ)) (stV js σ) H (λ p=>if p=l then(2,0)else(0,0)):=by
 have nl:∀p o,H p=some o->p≠l:=λ p o e z=>by subst z;rw[hl]at e;cases e
 refine⟨by unfold stE stV;rw[List.length_map,List.length_map],λ i s e=>?_,R.old,λ p hp=>?_,λ q hq=>(R.tm q hq).wk λ p o e _=>by rw[if_neg (nl p o e)];exact Nat.zero_le _⟩
 ·rcases aEJ e with rfl|⟨j,ej,es⟩
  ·exact .inl rfl
  ·rcases R.sl j s es with rfl|⟨v,ev,hv⟩
   ·exact .inl rfl
   ·refine .inr ⟨v,?_,?_⟩
    ·unfold stV
     rw[List.getElem?_map,ej];simp[ev]
    ·unfold VL.shE at es
     rw[List.getElem?_map]at es;cases e0:ρ[j]? with
     |none=>rw[e0]at es;cases es
     |some s0=>
      rw[e0]at es;cases es;cases s0 with
      |no=>trivial
      |oz d=>exact Rp.wk (λ p o e _=>by show(if p=l then((2,0):Nat×Nat)else(0,0)).1<=1;rw[if_neg (nl p o e)];exact Nat.zero_le _) hv
      |nw d=>exact Rp.wk (λ p o e _=>by show(if p=l then((2,0):Nat×Nat)else(0,0)).1<=1;rw[if_neg (nl p o e)];exact Nat.zero_le _) hv
      |sh d=>exact Rp.wk (λ p o e _=>by show(if p=l then((2,0):Nat×Nat)else(0,0)).1<=1;rw[if_neg (nl p o e)];exact Nat.zero_le _) hv
      |ow d=>exact Rp.wk (λ p o e _=>by show(if p=l then((2,0):Nat×Nat)else(0,0)).1<=1;rw[if_neg (nl p o e)];exact Nat.zero_le _) hv
      |o2 d=>exact Rp.wk (λ p o e _=>by show(if p=l then((2,0):Nat×Nat)else(0,0)).1<=1;rw[if_neg (nl p o e)];exact Nat.zero_le _) hv
 ·by_cases hp':p=l
  ·subst hp';exact R.old.free hl
  ·exact absurd (show(if p=l then((2,0):Nat×Nat)else(0,0)).1=0 by rw[if_neg hp']) hp
def aLh(XN N:List Str)(js:List (Option Nat))(ks:List Nat)(sc:Scope):Bool:=(List.range js.length).all λ i=>match js[i]? with
 |some (some j)=>match N[i]?,XN[j]? with
  |some x,some y=>x==y&&sc.names.lookup x==some .free&& !ks.contains i
  |_,_=>false
 |_=>true
theorem zN(h1:sc.kind= .function)(h2:(sc.names.all λ y=>y.2 != .cell||sc.names.lookup y.1==some .cell)=true)(h3:(sc.names.all λ y=>y.2 != .local||sc.names.lookup y.1==some .local)=true)
  (h4:(sc.names.all λ y=>y.2 != .free||(X.env.kindOf y.1==some .cell||X.env.kindOf y.1==some .free))=true)(h5:js.length=N.length)(h6:aLh X.N N js ks sc=true):dX X sc N (stV js) ks:=by
 refine⟨h1,λ y hy e=>?_,λ y hy e=>?_,λ y hy e=>?_,λ σ=>by unfold stV;rw[List.length_map];exact h5,λ σ i x v e1 e2=>?_⟩
 ·have:=List.all_eq_true.mp h2 y hy
  rw[e]at this;simpa using this
 ·have:=List.all_eq_true.mp h3 y hy
  rw[e]at this;simpa using this
 ·have:=List.all_eq_true.mp h4 y hy
  rw[e]at this;simpa using this
 ·unfold stV at e2
  rw[List.getElem?_map]at e2;cases ej:js[i]? with
  |none=>rw[ej]at e2;cases e2
  |some o=>
   rw[ej]at e2;cases o with
   |none=>cases e2
   |some j=>
    have hi:i<js.length:=(List.getElem?_eq_some_iff.mp ej).1
    have:=List.all_eq_true.mp h6 i (List.mem_range.mpr hi)
    rw[ej,e1]at this;dsimp only at this;cases ey:X.N[j]? with
    |none=>rw[ey]at this;cases this
    |some y=>
     rw[ey]at this;simp only[Bool.and_eq_true,beq_iff_eq,Bool.not_eq_true']at this;obtain⟨⟨h,h'⟩,h''⟩:=this;subst h;refine⟨h',λ hk=>?_,j,ey,?_⟩
     ·rw[List.contains_iff_mem.mpr hk]at h'';cases h''
     ·simp only[Option.map_some,Option.bind_some,Option.some.injEq]at e2
      cases es:σ[j]? with
      |none=>rw[es]at e2;cases e2
      |some w=>rw[es]at e2;simp at e2;subst e2;rfl
abbrev Ct.blk(C:Ct)(sc:Scope)(N:List Str):Ct where
 ι:=C.ι×Addr×List Addr×Shared×Hp
 X:=λ i=>(C.X i.1).block sc i.2.1 N i.2.2.1 i.2.2.2.1 i.2.2.2.2
 prog:=C.prog
 w:=C.w
 K:=C.K
 mg:=C.mg
 base:=C.base
 k:=C.k
 G:={C.G with E:=λ _ _ _=>False}
 cx:=λ i=>C.cx i.1
 calm:=λ i=>C.calm i.1
 room:=λ i=>C.room i.1
 own:=λ i=>PassesOwn.never
 pass:=λ i pins σ H s e s' I h=>by obtain⟨_,_,_,_,_,_,_,_,_,_,_,_,_,hE⟩:=h;exact hE
 dOk:=false
 dcx:=λ h=>absurd h Bool.false_ne_true
def lcL(ρ:En)(fg:D->En->Rs En)(ft:En->Rs Bool)(fe:En->Rs D):List D->Rs (List D)
 |[]=>.ok []
 |d::ds=>(fg d ρ).bd λ ρ1=>(ft ρ1).bd λ k=>if k=true then(fe ρ1).bd λ y=>(lcL ρ fg ft fe ds).bd λ ys=>.ok (y::ys)else lcL ρ fg ft fe ds
def lcD(fi:En->Rs (List D))(js:List (Option Nat))(fg:D->En->Rs En)(ft:En->Rs Bool)(fe:En->Rs D):En->Rs D:=λ ρ=>(fi (shE ρ)).bd λ ds=>
 if ds.length<sizeLine then(match lcL (stE js (shE ρ)) fg ft fe ds with
  | .ok l=>.ok (.lst l)
  |_=>.st)else .st
def aGO(C:Ct)(ifs:List Expr)(f:En->Rs Bool):Prop:=∃t,(∀i,aAv (C.X i) ifs t)/\aCR C.K C.G t f
def jT:En->Rs Bool:=λ _=>.ok true
theorem qO:aGO C [] jT:=⟨_,λ _=>aJL,λ τ σ H ρ lab Q R W=>W H (aU.refl H)⟩
theorem uG(h:ST C c f):aGO C [c] f:=let⟨t,h1,h2⟩:=h;⟨t,λ i=>aJK (h1 i),h2⟩
theorem aAZ(h:lcL ρ fg ft fe (d::ds)= .ok l):
  ∃ρ1 k,fg d ρ= .ok ρ1/\ft ρ1= .ok k/\((k=true/\∃y ys,fe ρ1= .ok y/\lcL ρ fg ft fe ds= .ok ys/\l=y::ys)\/(k=false/\lcL ρ fg ft fe ds= .ok l)):=by
 unfold lcL at h;obtain⟨ρ1,e1,h⟩:=cW h;obtain⟨k,e2,h⟩:=cW h;refine⟨ρ1,k,e1,e2,?_⟩;cases k with
 |true=>
  rw[if_pos rfl]at h;obtain⟨y,e3,h⟩:=cW h;obtain⟨ys,e4,h⟩:=cW h;cases h;exact .inl ⟨rfl,y,ys,e3,e4,rfl⟩
 |false=>
  rw[if_neg Bool.false_ne_true]at h;exact .inr ⟨rfl,h⟩
theorem RR.but_blk{K:PySem.W.Frag}{τ:List (V×D)}(R:RR K G τ (stE js (VL.shE ρ)) σ H (λ p=>if p=l then(2,0)else(0,0)))(B:lJ l H H')(hl:H l=some o)(ho:jN o=true)(h0:G.H0 l=none):
  RR K G τ (stE js (VL.shE ρ)) σ H' (λ p=>if p=l then(2,0)else(0,0)):=by
 have lab1l:¬((λ p=>if p=l then((2,0):Nat×Nat)else(0,0)) l).1<=1:=by simp
 refine⟨R.len,λ j s e=>?_,λ b o hb=>?_,R.new,λ q hq=>(R.tm q hq).but B hl ho lab1l⟩
 ·rcases R.sl j s e with z|⟨u,e1,e2⟩
  ·exact .inl z
  ·refine .inr ⟨u,e1,?_⟩
   rcases aEJ e with rfl|⟨jx,ej,es⟩
   ·trivial
   ·unfold VL.shE at es
    rw[List.getElem?_map]at es;cases e0:ρ[jx]? with
    |none=>rw[e0]at es;cases es
    |some s0=>rw[e0]at es;cases es;cases s0<;>first|trivial|exact Rp.but B hl ho lab1l e2
 ·exact B b o (λ z=>by subst z;rw[h0]at hb;cases hb) (R.old b o hb)
theorem RR.blk0{K:PySem.W.Frag}(R:RR K G τ (VL.shE ρ) σ H lab)(hG:G'.H0=G.H0):RR K G' τ (VL.shE ρ) σ H (λ _=>(0,0)):=by
 refine⟨R.len,λ i s e=>?_,by rw[hG];exact R.old,λ p hp=>absurd rfl hp,λ q hq=>(R.tm q hq).wk λ _ _ _ _=>Nat.zero_le _⟩;rcases R.sl i s e with rfl|⟨v,ev,hv⟩
 ·exact .inl rfl
 ·unfold VL.shE at e
  rw[List.getElem?_map]at e;cases e0:ρ[i]? with
  |none=>rw[e0]at e;cases e
  |some s0=>rw[e0]at e;cases e;cases s0<;>first|exact .inl rfl|exact .inr ⟨v,ev,Rp.wk (λ _ _ _ _=>Nat.zero_le _) hv⟩
section
variable{K:PySem.W.Frag}{G:Gx}{wi:TI}{fi:En->Rs (List D)}{js:List (Option Nat)}{g:TG}{fg:D->En->Rs En}{tt:TT}{ft:En->Rs Bool}{te:TE}{fe:En->Rs D}
theorem aER(hi:aHw K G wi fi)(hg:aHx K {G with E:=λ _ _ _=>False} g fg)(ht:aCR K {G with E:=λ _ _ _=>False} tt ft)(he:gj K {G with E:=λ _ _ _=>False} (some []) te fe):
  gj K G (some []) (tLC wi (stV js) g tt te) (lcD fi js fg ft fe):=by
 intro τ σ H ρ lab Q R W;refine hi τ σ H _ _ _ R.shE (W.bd.imp λ ds _ w J H1 lab1 τ1 s1 _ R1 jl=>?_);intro l hl;obtain⟨hlen,out,hout,w⟩:ds.length<sizeLine/\∃out,lcL (stE js (VL.shE ρ)) fg ft fe ds= .ok out/\QE K (some []) lab H Q (.lst out):=by
  by_cases hlen:ds.length<sizeLine
  ·rw[if_pos hlen]at w
   cases hout:lcL (stE js (VL.shE ρ)) fg ft fe ds with
   |ok out=>rw[hout]at w;exact⟨hlen,out,rfl,w⟩
   |ex c=>rw[hout]at w;exact False.elim w
   |st=>rw[hout]at w;exact False.elim w
  ·rw[if_neg hlen]at w
   exact False.elim w
 have R0:RR K {G with E:=λ _ _ _=>False} (τ1++τ) (VL.shE ρ) σ H1 (λ _=>(0,0)):=R1.blk0 rfl;have RB:=R0.block (js:=js) (λ _=>Nat.zero_le _) hl;have hHl:H l=none:=s1.free hl;have lab1l:¬((λ p=>if p=l then((2,0):Nat×Nat)else(0,0)) l).1<=1:=by simp
 refine⟨λ i n acc H2=>∃pre,n=ds.length-i/\i<=ds.length/\H2 l=some (.lst acc)/\RR K {G with E:=λ _ _ _=>False} (τ1++τ) (stE js (VL.shE ρ)) (stV js σ) H2 (λ p=>if p=l then(2,0)else(0,0))/\aU H H2/\acc.length<=i/\
  Rps K (λ p=>H p=none/\p≠l) H2 acc pre/\∃post,lcL (stE js (VL.shE ρ)) fg ft fe (ds.drop i)= .ok post/\out=pre++post,⟨ds.length,[],by lia,by lia,au,RB.up (bT hl _),s1.trans (bT hl _),Nat.le_refl _,.nil,out,hout,rfl⟩,?_⟩
 rintro i n acc H2 ⟨pre,rfl,hi,hH2,R2,s2,hacc,rpre,post,hpost,eout⟩;refine⟨hH2,by lia,?_⟩;have jj:=jl _ H2 λ q hq=>R2.tm q (List.mem_append_left _ hq)
 by_cases hlt:i<ds.length
 ·obtain⟨go,yl⟩:=(jj i).2 hlt
  refine .inr ⟨go,λ x H3 hy=>?_⟩;obtain⟨s3,d,ed,rx⟩:=yl x H3 hy;replace R2:=R2.up s3;replace hH2:=s3 _ _ hH2;replace s2:=s2.trans s3;replace rpre:=rpre.up s3;have ed2:ds.drop i=d::ds.drop (i+1):=by
   rw[List.drop_eq_getElem_cons hlt]
   have:=List.getElem?_eq_getElem hlt
   rw[ed]at this;cases this;rfl
  rw[ed2]at hpost;obtain⟨ρ1,k,e1,e2,e3⟩:=aAZ hpost;refine hg (τ1++τ) x d _ H3 _ _ _ ρ1 R2 rx e1 λ σ4 R4=>?_
  refine ht (τ1++τ) σ4 H3 ρ1 _ _ R4 ?_;rw[e2];intro H5 s5;rcases e3 with ⟨rfl,y,ys,e3,e4,rfl⟩|⟨rfl,e4⟩
  ·rw[if_pos rfl]
   refine he (τ1++τ) σ4 H5 ρ1 _ _ (R4.up s5) ?_;rw[e3];intro v H6 s6 r6;have hl6:H6 l=some (.lst acc):=s6 _ _ (s5 _ _ hH2);have B:lJ l H6 (upd H6 l (.lst (acc++[v]))):=λ b o ne hb=>by rw[aV ne];exact hb
   refine⟨hl6,ds.length-(i+1),by lia,pre++[y],rfl,hlt,au,?_,?_,by rw[List.length_append];simp;lia,?_,ys,e4,by rw[eout];simp⟩
   ·exact(R2.up (s5.trans s6)).but_blk B hl6 rfl (R1.old.free hl)
   ·exact λ b o hb=>B b o (λ z=>by subst z;rw[hHl]at hb;cases hb) (((s2.trans s5).trans s6) b o hb)
   ·refine((rpre.up (s5.trans s6)).append (.cons (r6.wk λ p o _ z=>?_) .nil)).but B hl6 rfl λ z=>z.2 rfl
    rcases z with z|z
    ·exact⟨(s2.trans s5).free z,λ e=>by subst e;rw[s5 _ _ hH2]at z;cases z⟩
    ·cases z
  ·rw[if_neg Bool.false_ne_true]
   exact⟨ds.length-(i+1),by lia,pre,rfl,hlt,s5 _ _ hH2,R2.up s5,s2.trans s5,by lia,rpre.up s5,post,e4,eout⟩
 ·have ei:i=ds.length:=by lia
  subst ei;rw[List.drop_length]at hpost;cases hpost;rw[List.append_nil]at eout;subst eout;exact .inl ⟨(jj _).1 (Nat.le_refl _),w _ H2 s2 (.lst hH2 (.inl hHl) (rpre.wk λ p o _ z=>⟨.inl z.1,z.2⟩))⟩
end
section
variable{C:Ct}{pos:Pos}{elt tg iter:Expr}{ifs:List Expr}{sc:Scope}{N:List Str}{js:List (Option Nat)}{ks:List Nat}{fi:En->Rs (List D)}{fg:D->En->Rs En}{ft:En->Rs Bool}{fe:En->Rs D}
theorem bx{C:Ct}(nd:N.Nodup:=by decide+kernel)(hk:i∈ks:=by decide)(hN:∀j,((C.blk sc N).X j).N[i]? =some x:=by intro _;rfl)(hx:∀j,Loc ((C.blk sc N).X j).env.scope x:=by intro _;first|exact Or.inl rfl|exact Or.inr rfl)
  (hf:∀j,((C.blk sc N).X j).fn x=true\/((C.blk sc N).X j).env.scope.names.lookup x=some .local:=by intro _;first|exact .inl rfl|exact .inr rfl):SG (C.blk sc N) (.Name x pos) ks (gnm i):=
 bN hN hx hf (λ _=>nd) hk
theorem uK(hi:SI C tg iter fi)(hg:SG (C.blk sc N) tg ks fg)(ht:aGO (C.blk sc N) ifs ft)(he:SE (C.blk sc N) (some []) elt fe)(hs:∀i x,foldedSetIterable iter (C.X i).env x=pure x:=by intro _ _;rfl)(hB:∀i,dX (C.X i) sc N (stV js) ks:=by intro _;exact zN rfl rfl rfl rfl rfl rfl):SE C (some []) (.ListComp elt [⟨tg,iter,ifs,0⟩] sc pos) (lcD fi js fg ft fe):=by
 obtain⟨wi,i1,i2⟩:=hi;obtain⟨g,g1,g2,g3,g4⟩:=hg;obtain⟨tt,t1,t2⟩:=ht;obtain⟨te,e1,e2⟩:=he;exact⟨_,λ i=>aKp (hB i) (C.calm i) (i1 i) (λ c fp s₀ H₀=>g1 (i,c,fp,s₀,H₀)) g3 (λ c fp s₀ H₀=>t1 (i,c,fp,s₀,H₀)) (λ c fp s₀ H₀=>e1 (i,c,fp,s₀,H₀)) (hs i),aER i2 g2 t2 e2⟩
theorem aIH(hi:SI C tg iter fi)(hg:SG (C.blk sc N) tg ks fg)(ht:aGO (C.blk sc N) ifs ft)(he:SE (C.blk sc N) (some []) elt fe)(hN:∀j,(C.X j).N[i]? =some x:=by intro _;rfl)(hx:∀j,Loc (C.X j).env.scope x:=by intro _;first|exact Or.inl rfl|exact Or.inr rfl)(hsw:∀j,swapsWith (.ListComp elt [⟨tg,iter,ifs,0⟩] sc pos) (some (.Name x pos')) spos.line (C.X j).env=pure true:=by intro _;rfl)(hs:∀i x,foldedSetIterable iter (C.X i).env x=pure x:=by intro _ _;rfl)(hf:∀j,(C.X j).fn x=true\/(C.X j).env.scope.names.lookup x=some .local:=by intro _;first|exact .inl rfl|exact .inr rfl)(nd:∀j,(C.X j).N.Nodup:=by intro _;assumption)(hB:∀i,dX (C.X i) sc N (stV js) ks:=by intro _;exact zN rfl rfl rfl rfl rfl rfl):
  SV C i (.Assign [.Name x pos'] (.ListComp elt [⟨tg,iter,ifs,0⟩] sc pos) spos) (some []) (lcD fi js fg ft fe):=by
 obtain⟨wi,i1,i2⟩:=hi;obtain⟨g,g1,g2,g3,g4⟩:=hg;obtain⟨tt,t1,t2⟩:=ht;obtain⟨te,e1,e2⟩:=he;exact⟨_,λ j=>zy (nd j) (hN j) (hx j) (hB j) (C.calm j) (i1 j) (λ c fp s₀ H₀=>g1 (j,c,fp,s₀,H₀)) g3 (λ c fp s₀ H₀=>t1 (j,c,fp,s₀,H₀)) (λ c fp s₀ H₀=>e1 (j,c,fp,s₀,H₀)) (hsw j) (hs j) (hf j),aER i2 g2 t2 e2⟩
end
section
variable{K:PySem.W.Frag}{G:Gx}{wi:TI}{fi:En->Rs (List D)}{js:List (Option Nat)}{g:TG}{fg:D->En->Rs En}{tt:TT}{ft:En->Rs Bool}{te:TE}{fe:En->Rs D}{m:Mode}
end
section
variable{C:Ct}{pos:Pos}{elt tg iter:Expr}{ifs:List Expr}{sc:Scope}{N:List Str}{js:List (Option Nat)}{ks:List Nat}{fi:En->Rs (List D)}{fg:D->En->Rs En}{ft:En->Rs Bool}{fe:En->Rs D}{m:Mode}
end
theorem RR.mut{K:PySem.W.Frag}(R:RR K G τ ρ σ H lab)(ev:σ[i]? =some (some v))(hl:H l=some o)(ho:jN o=true)(hlab:(lab l).1=i+2)
  (B:lJ l H H')(h':eF K H' lab i v s'):RR K G τ (ρ.set i s') σ H' lab:=by
 refine⟨by rw[List.length_set];exact R.len,λ j x e=>?_,λ b u hb=>B b u (λ z=>?_) (R.old b u hb),R.new,λ q hq=>(R.tm q hq).but B hl ho λ z=>by lia⟩
 ·by_cases hj:i=j
  ·subst hj
   have hi:i<ρ.length:=by
    have:=(List.getElem?_eq_some_iff.mp e).1
    rwa [List.length_set]at this
   rw[List.getElem?_set_self hi]at e;cases e;exact .inr ⟨v,ev,h'⟩
  ·rw[List.getElem?_set_ne hj]at e
   rcases R.sl j x e with z|⟨u,e1,e2⟩
   ·exact .inl z
   ·refine .inr ⟨u,e1,?_⟩
    cases x with
    |no=>trivial
    |sh d=>exact Rp.but B hl ho (λ z=>by lia) e2
    |nw d=>exact Rp.but B hl ho (λ z=>by lia) e2
    |ow d=>exact⟨Rp.but B hl ho (λ z=>by lia) e2.1,e2.2⟩
    |oz d=>
     obtain⟨a,xs,ds,q1,q2,q3,q4,q5⟩:=e2;exact⟨a,xs,ds,q1,q2,B a _ (λ z=>by subst z;exact hj (by lia)) q3,q4,Rps.but B hl ho (λ z=>by lia) q5⟩
    |o2 ll=>
     obtain⟨a,xs,q1,q2,q3,q4,q5⟩:=e2;refine⟨a,xs,q1,B a _ (λ z=>?_) q2,q3,q4,λ jj y ds f1 f2=>(q5 jj y ds f1 f2).but B hl ho λ z=>?_⟩
     ·rw[z]at q3;rw[q3]at hlab;exact hj (by simpa using hlab.symm)
     ·rw[z]at hlab;exact hj (by simpa using hlab.symm)
 ·subst z
  have:=R.new b (by rw[hlab];lia)
  rw[this]at hb;cases hb
section
variable{C:Ct}{pos apos cpos p:Pos}{e a:Expr}{fe fa:En->Rs D}{i:Nat}{x:Str}{m:Mode}
def lR(i:Nat)(fe:En->Rs D):En->Ou:=λ ρ=>match ρ[i]? with
 |some (.ow (.lst ds))=>(fe ρ).bo λ d=>if ds.length<sizeLine then .nx (ρ.set i (.ow (.lst (ds++[d]))))else .st
 |_=>.st
theorem j8(i:Nat)(he:SE C m e fe)(hm:okN m=true:=by rfl)(hN:∀j,(C.X j).N[i]? =some x:=by intro _;rfl)(hv:∀j,Vis (C.X j).env.scope x:=by intro _;first|exact Or.inl rfl|exact Or.inr (Or.inl rfl)|exact Or.inr (Or.inr rfl))(hd:(x==("__debug__":Str))=false:=by decide)
  (hcd:(x==("__classdict__":Str))=false:=by decide)(hs1:∀j,starEach [e] (C.X j).env=[(false,eval e (C.X j).env)]:=by intro _;rfl)
  (hbase:∀j,attributeBase (.Name x p) "append" (C.X j).env (eval (.Name x p) (C.X j).env)=eval (.Name x p) (C.X j).env:=by intro _;rfl)
  (hfew:∀j,((backTo cpos (starEach [e] (C.X j).env)).all (λ x=>!x.1)&&(backToKw cpos (keywordEach [] (C.X j).env)).all (λ x=>x.1.isSome)&&decide ([e].length+([]:List Keyword).length+(if ([]:List Keyword).isEmpty then 0 else 1)<30))=true:=by intro _;rfl)
  (hline:(apos.endLine==cpos.line)=true:=by rfl)
  (hsw:∀j,swapsWith (.Call (.Attribute (.Name x p) "append" apos) [e] [] cpos) none pos.line (C.X j).env=pure false:=by intro _;rfl):
  SS C (.Expr (.Call (.Attribute (.Name x p) "append" apos) [e] [] cpos) pos) (lR i fe):=by
 obtain⟨t,h1,h2⟩:=he;refine⟨wJ (tBM C.K "list" uR (nF i) (iB t lV)),λ j=>pI (by rw[<-C.hK j];exact wW PySem.F.plainAttrs_list PySem.F.slot_list_append PySem.F.type_list_append ud (fY (hN j) (hv j) hd hcd) (aa (h1 j) cP (hs1 j)) (hbase j) (hfew j) hline (hs1 j) rfl) (hsw j),λ τ σ H ρ lab De R W=>?_⟩;unfold lR at W;cases es:ρ[i]? with
 |none=>rw[es]at W;exact False.elim W
 |some s=>
  rw[es]at W;split at W
  ·rename_i ds hs
   cases hs;rcases R.sl i _ es with z|⟨v,ev,hv'⟩
   ·cases z
   ·obtain⟨hv1,htop⟩:=hv'
    obtain⟨a0,ea0,la0⟩:=htop rfl;subst ea0;cases hv1 with
    |lst h mm r=>
     rename_i xs;refine⟨.ref a0,ev,.inl ⟨rfl,xs,SqL.of h⟩,h2 τ σ H ρ lab _ R (W.bo.imp λ d _ w y H2 s2 r2=>?_)⟩;by_cases hz:ds.length<sizeLine
     ·rw[if_pos hz]at w
      refine⟨a0,xs,y,rfl,rfl,s2 _ _ h,by rw[r.length];exact hz,λ H3 B h3=>?_⟩;obtain⟨R',r'⟩:=R.fresh (P:=λ k=>k=1) rfl (λ k hk=>beq_iff_eq.mp (pM hm k hk)) s2 r2;have la:(cU H 1 lab a0).1=i+2:=by rw[bV h];exact la0
      refine w σ H3 _ (R'.mut ev (s2 _ _ h) rfl la B ⟨.lst h3 (.inr la) ?_,λ _=>⟨a0,rfl,la⟩⟩);have ra:Rps C.K (λ p=>((cU H 1 lab p).1=1\/(cU H 1 lab p).1=i+2)/\p≠a0) H2 (xs++[y]) (ds++[d]):=by
       refine(r.mono s2 λ p o e z=>⟨by rw[bV e];exact z.1,z.2⟩).append (.cons (r'.wk λ p o e z=>⟨.inl z,λ q=>?_⟩) .nil);subst q;rw[la]at z;lia
      exact ra.but B (s2 _ _ h) rfl λ z=>z.2 rfl
     ·rw[if_neg hz]at w
      exact False.elim w
  ·exact False.elim W
def at2(ll:List (List D)):D->Option (Nat×List D)
 | .int n=>(ixN ll.length n).bind λ j=>(ll[j]?).map λ ds=>(j,ds)
 |_=>none
def oF(i:Nat)(fa fe:En->Rs D):En->Ou:=λ ρ=>match ρ[i]? with
 |some (.o2 ll)=>(fa ρ).bo λ k=>match at2 ll k with
  |some (j,ds)=>(fe ρ).bo λ d=>if ds.length<sizeLine then .nx (ρ.set i (.o2 (ll.set j (ds++[d]))))else .st
  |none=>.st
 |_=>.st
theorem aGL(h:at2 ll k=some (j,ds)):∃n,k= .int n/\ixN ll.length n=some j/\ll[j]? =some ds:=by
 cases k with
 |int n=>
  simp only[at2,Option.bind_eq_some_iff,Option.map_eq_some_iff]at h;obtain⟨j',h1,ds',h2,h3⟩:=h;cases h3;exact⟨n,rfl,h1,h2⟩
 |_=>cases h
theorem uD(i:Nat){p2:Pos}(ha:SE C m a fa)(he:SE C (some []) e fe)(hN:∀j,(C.X j).N[i]? =some x:=by intro _;rfl)(hv:∀j,Vis (C.X j).env.scope x:=by intro _;first|exact Or.inl rfl|exact Or.inr (Or.inl rfl)|exact Or.inr (Or.inr rfl))(hd:(x==("__debug__":Str))=false:=by decide)
  (hcd:(x==("__classdict__":Str))=false:=by decide)(hs1:∀j,starEach [e] (C.X j).env=[(false,eval e (C.X j).env)]:=by intro _;rfl)(hp:tR a:=by exact λ _ _=>rfl)
  (hbase:∀j,attributeBase (.Subscript (.Name x p) a p2) "append" (C.X j).env (eval (.Subscript (.Name x p) a p2) (C.X j).env)=eval (.Subscript (.Name x p) a p2) (C.X j).env:=by intro _;rfl)
  (hfew:∀j,((backTo cpos (starEach [e] (C.X j).env)).all (λ x=>!x.1)&&(backToKw cpos (keywordEach [] (C.X j).env)).all (λ x=>x.1.isSome)&&decide ([e].length+([]:List Keyword).length+(if ([]:List Keyword).isEmpty then 0 else 1)<30))=true:=by intro _;rfl)
  (hline:(apos.endLine==cpos.line)=true:=by rfl)
  (hsw:∀j,swapsWith (.Call (.Attribute (.Subscript (.Name x p) a p2) "append" apos) [e] [] cpos) none pos.line (C.X j).env=pure false:=by intro _;rfl):
  SS C (.Expr (.Call (.Attribute (.Subscript (.Name x p) a p2) "append" apos) [e] [] cpos) pos) (oF i fa fe):=by
 obtain⟨t,h1,h2⟩:=he;obtain⟨ta,a1,a2⟩:=ha;refine⟨wJ (tBM C.K "list" uR (tOp (aIx C.K) (nF i) ta) (iB t lV)),λ j=>pI (by rw[<-C.hK j];exact wW PySem.F.plainAttrs_list PySem.F.slot_list_append PySem.F.type_list_append ud (aEt yq (fY (hN j) (hv j) hd hcd) (a1 j) hp) (aa (h1 j) cP (hs1 j)) (hbase j) (hfew j) hline (hs1 j) rfl) (hsw j),λ τ σ H ρ lab De R W=>?_⟩;unfold oF at W;cases es:ρ[i]? with
 |none=>rw[es]at W;exact False.elim W
 |some s=>
  rw[es]at W;cases s with
  |o2 ll=>
   dsimp only at W;rcases R.sl i _ es with z|⟨v,ev,top,xs,rfl,ht,hlt,hlen,hin⟩
   ·cases z
   ·refine⟨.ref top,ev,a2 τ σ H ρ lab _ R (W.bo.imp λ k _ w kv H1 s1 r1=>?_)⟩
    cases hk:at2 ll k with
    |none=>rw[hk]at w;exact False.elim w
    |some q=>
     obtain⟨j,ds⟩:=q;rw[hk]at w;dsimp only at w;obtain⟨n,rfl,hj,hds⟩:=aGL hk;cases r1;have hjx:∃xj,xs[j]? =some xj:=by
      have:j<xs.length:=by rw[hlen];exact(List.getElem?_eq_some_iff.mp hds).1
      exact⟨_,List.getElem?_eq_getElem this⟩
     obtain⟨xj,hxj⟩:=hjx;have hr:=hin j xj ds hxj hds;cases hr with
     |lst hl ml rl=>
      rename_i l ys;refine⟨top,xs,n,.ref l,rfl,rfl,SqL.of (s1 _ _ ht),by unfold atI;rw[hlen,hj];exact hxj,.inl ⟨rfl,ys,SqL.of (s1 _ _ hl)⟩,h2 τ σ H1 ρ lab _ (R.up s1) (w.bo.imp λ d _ w y H2 s2 r2=>?_)⟩;by_cases hz:ds.length<sizeLine
      ·rw[if_pos hz]at w
       have s12:=s1.trans s2;refine⟨l,ys,y,rfl,rfl,s12 _ _ hl,by rw[rl.length];exact hz,λ H3 B h3=>?_⟩;have ltop:l≠top:=λ e=>by rw[e,hlt]at ml;cases ml
       let lab':Lab:=λ p=>match H1 p with
        |none=>(i+2,j+1)
        |some _=>lab p
       have lo:∀{p o},H1 p=some o->lab' p=lab p:=λ{p o} e=>by show(match H1 p with|none=>_|some _=>_)=_;rw[e]
       have ln:∀{p},H1 p=none->lab' p=(i+2,j+1):=λ{p} e=>by show(match H1 p with|none=>_|some _=>_)=_;rw[e]
       have R':RR C.K C.G τ ρ σ H2 lab':=((R.up s1).relab (λ p o e=>lo e) λ p hp=>by
        cases e:H1 p with
        |none=>exact(R.old.trans s1).free e
        |some o=>rw[lo e]at hp;exact R.new p hp).up s2
       have labl:lab' l=(i+2,j+1):=by rw[lo (s1 _ _ hl)];exact ml
       refine w σ H3 lab' (R'.mut ev (s12 _ _ hl) rfl (by rw[labl]) B ⟨top,xs,rfl,B _ _ (Ne.symm ltop) (s12 _ _ ht),by rw[lo (s1 _ _ ht)];exact hlt,by rw[List.length_set];exact hlen,λ jj z dz f1 f2=>?_⟩);by_cases hjj:j=jj
       ·subst hjj
        rw[hxj]at f1;cases f1;rw[List.getElem?_set_self (List.getElem?_eq_some_iff.mp hds).1]at f2;cases f2;refine .lst h3 labl ?_;have ra:Rps C.K (λ p=>lab' p=(i+2,j+1)/\p≠l) H2 (ys++[y]) (ds++[d]):=by
         refine(rl.mono s12 λ p o e z=>⟨by rw[lo (s1 _ _ e)];exact z.1,z.2⟩).append (.cons (r2.wk λ p o e z=>?_) .nil);rcases z with z|z
         ·exact⟨ln z,λ q=>by subst q;rw[s1 _ _ hl]at z;cases z⟩
         ·cases z
        exact ra.but B (s12 _ _ hl) rfl λ z=>z.2 rfl
       ·rw[List.getElem?_set_ne hjj]at f2
        refine((hin jj z dz f1 f2).mono s12 (A':=λ p=>lab' p=(i+2,jj+1)) λ p o e q=>by rw[lo (s1 _ _ e)];exact q).but B (s12 _ _ hl) rfl λ q=>?_
        rw[labl]at q;simp only[Prod.mk.injEq]at q;lia
      ·rw[if_neg hz]at w
       exact False.elim w
  |_=>exact False.elim W
end
mutual
def eqD:D->D->Bool
 | .non,.non=>true
 | .bl a,.bl b=>a==b
 | .bl a,.int b=>(if a then 1 else 0)==b
 | .int a,.bl b=>a==(if b then 1 else 0)
 | .int a,.int b=>a==b
 | .str a,.str b=>a==b
 | .tup l,.tup m=>gw l m
 | .lst l,.lst m=>gw l m
 |_,_=>false
def gw:List D->List D->Bool
 |[],[]=>true
 |x::xs,y::ys=>eqD x y&&gw xs ys
 |_,_=>false
end
mutual
def fU:D->Nat
 | .tup l=>cB l+1
 | .lst l=>cB l+1
 |_=>0
def cB:List D->Nat
 |[]=>0
 |d::r=>max (fU d) (cB r)
end
mutual
def aN:D->Bool
 | .tup l=>ao l
 | .lst l=>ao l
 | .dct _ _=>false
 | .set _=>false
 | .scr _=>false
 | .fn _=>false
 |_=>true
def ao:List D->Bool
 |[]=>true
 |d::r=>aN d&&ao r
end
mutual
theorem gf:∀d:D,aN d=true->eqD d d=true
 | .non,_=>by simp[eqD]
 | .bl b,_=>by simp[eqD]
 | .int i,_=>by simp[eqD]
 | .str x,_=>by simp[eqD]
 | .tup l,h=>by simp only[eqD];exact fu l (by simpa[aN]using h)
 | .lst l,h=>by simp only[eqD];exact fu l (by simpa[aN]using h)
 | .dct _ _,h=>by simp[aN]at h
 | .set _,h=>by simp[aN]at h
 | .scr _,h=>by simp[aN]at h
theorem fu:∀l:List D,ao l=true->gw l l=true
 |[],_=>by simp[gw]
 |d::r,h=>by
  simp only[ao,Bool.and_eq_true]at h;simp only[gw,Bool.and_eq_true];exact⟨gf d h.1,fu r h.2⟩
end
structure ju(K:PySem.W.Frag)(H:Hp)(s:Shared):Prop where
 tup:∀{a:Addr} {xs:List V},SqT K H a xs->∃its:List Value,Vals xs its/\s.heap.IsTuple a its.toArray
 lst:∀{a:Addr} {xs:List V},H a=some (.lst xs)->∃its:List Value,Vals xs its/\s.heap.IsList a its.toArray
 inj:∀{a:Addr} {xs ys:List V},SqT K H a xs->SqT K H a ys->xs=ys
 ne:∀{a:Addr} {xs ys:List V},SqT K H a xs->H a=some (.lst ys)->False
theorem Inv.seqOk(I:L2.Inv X pins σ H s):ju X.K H s where
 tup:=λ h=>let⟨its,r,p,_⟩:=I.tuple h;⟨its,r,p⟩
 lst:=λ h=>let⟨its,r,p,_⟩:=I.list (SqL.of h);⟨its,r,p.isList⟩
 inj:=λ h h'=>I.tuple_inj h h'
 ne:=λ h h'=>by
  obtain⟨its,_,⟨o,e,c,_⟩,_⟩:=I.tuple h;obtain⟨its2,_,⟨o2,n2,e2,c2,_⟩,_⟩:=I.list (SqL.of h');rw[e]at e2;cases e2;rw[c]at c2;injection c2 with c3
  exact absurd c3 (by decide)
section
variable{K:PySem.W.Frag}{H:Hp}{s:Shared}
theorem aQ(h:aN (.dct a b)=true):False:=by simp[aN]at h
theorem bJ(h:aN (.set a)=true):False:=by simp[aN]at h
theorem bK(h:aN (.scr a)=true):False:=by simp[aN]at h
theorem bc(h:aN (.fn a)=true):False:=by simp[aN]at h
theorem iG(h:aN (.tup a)=true):ao a=true:=by simpa[aN]using h
theorem iH(h:aN (.lst a)=true):ao a=true:=by simpa[aN]using h
theorem jL(h:ao (d::a)=true):aN d=true/\ao a=true:=by
 simp only[ao,Bool.and_eq_true]at h;exact h
def aIC(K:PySem.W.Frag)(s:Shared)(H:Hp)(x:V)(d:D):Prop:=ju K H s->∀(A':Addr->Prop) (e:D),Rp K A' H x e->aN d=true->aN e=true->d=e
def aAx(K:PySem.W.Frag)(s:Shared)(H:Hp)(xs:List V)(ds:List D):Prop:=ju K H s->∀(A':Addr->Prop) (es:List D),Rps K A' H xs es->ao ds=true->ao es=true->ds=es
theorem aH2(ha:SqT K H a xs)(ih:aAx K s H xs ds):aIC K s H (.ref a) (.tup ds):=λ ok A' e h n1 n2=>by
 cases h with
 |tup hb r'=>
  have e:=ok.inj ha hb;subst e;rw[ih ok _ _ r' (iG n1) (iG n2)]
 |lst hb _ _=>exact(ok.ne ha hb).elim
 |dK _ _ _=>exact(aQ n2).elim
 |dT _ _ _=>exact(aQ n2).elim
 |set _ _ _ _=>exact(bJ n2).elim
 |scr _=>exact(bK n2).elim
 |fn _=>exact(bc n2).elim
theorem aH3(ha:H a=some (.lst xs))(ih:aAx K s H xs ds):aIC K s H (.ref a) (.lst ds):=λ ok A' e h n1 n2=>by
 cases h with
 |tup hb r'=>exact(ok.ne hb ha).elim
 |lst hb _ r'=>
  rw[ha]at hb;cases hb;rw[ih ok _ _ r' (iH n1) (iH n2)]
 |dK _ _ _=>exact(aQ n2).elim
 |dT _ _ _=>exact(aQ n2).elim
 |set _ _ _ _=>exact(bJ n2).elim
 |scr _=>exact(bK n2).elim
 |fn _=>exact(bc n2).elim
theorem aFb(h1:aIC K s H x d)(h2:aAx K s H xs ds):aAx K s H (x::xs) (d::ds):=λ ok A' es h n1 n2=>by
 cases h with
 |cons k r'=>rw[h1 ok _ _ k (jL n1).1 (jL n2).1,h2 ok _ _ r' (jL n1).2 (jL n2).2]
theorem Rp.inj(ok:ju K H s)(r:Rp K A H x d)(h:Rp K A' H x e)(n1:aN d=true)(n2:aN e=true):d=e:=
 Rp.rec (motive_1:=λ _ H x d _=>aIC K s H x d) (motive_2:=λ _ H xs ds _=>aAx K s H xs ds)
  (λ _ _ _ h _ _=>by cases h;rfl) (λ _ _ _ _ h _ _=>by cases h;rfl) (λ _ _ _ _ h _ _=>by cases h;rfl) (λ _ _ _ _ h _ _=>by cases h;rfl) (λ ha _ ih=>aH2 ha ih) (λ ha _ _ ih=>aH3 ha ih)
  (λ _ _ _ _ _ _ _ _ n1 _=>(aQ n1).elim) (λ _ _ _ _ _ _ _ _ n1 _=>(aQ n1).elim) (λ _ _ _ _ _ _ _ _ n1 _=>(bJ n1).elim) (λ _ _ _ _ _ n1 _=>(bK n1).elim) (λ _ _ _ _ _ n1 _=>(bc n1).elim)
  (λ _ _ _ h _ _=>by cases h;rfl) (λ _ _ h1 h2=>aFb h1 h2) r ok A' e h n1 n2
end
theorem mK:∀(l m:List D),gw l m=((List.range (min l.length m.length)).all (λ j=>match l[j]?,m[j]? with|some a,some b=>eqD a b|_,_=>true)&&l.length==m.length)
 |[],[]=>by simp[gw]
 |[],y::ys=>by simp[gw]
 |x::xs,[]=>by simp[gw]
 |x::xs,y::ys=>by
  have ih:=mK xs ys;simp only[gw,ih,List.length_cons,Nat.succ_min_succ,List.range_succ_eq_map,List.all_cons,List.all_map,List.getElem?_cons_zero,Function.comp_def,List.getElem?_cons_succ,Nat.succ_eq_add_one,Nat.add_one_inj,Bool.and_assoc];congr 1;congr 1;simp
theorem jk:∀{l:List D} {d:D},d∈l->fU d<=cB l
 |x::r,d,h=>by
  simp only[cB];rcases List.mem_cons.mp h with rfl|h
  ·exact Nat.le_max_left _ _
  ·exact Nat.le_trans (jk h) (Nat.le_max_right _ _)
theorem eV:∀{l:List D} {d:D},d∈l->ao l=true->aN d=true
 |x::r,d,h,n=>by
  simp only[ao,Bool.and_eq_true]at n;rcases List.mem_cons.mp h with rfl|h
  ·exact n.1
  ·exact eV h n.2
theorem cA(hn:n=ds.length)(hm:m=es.length):((List.range (min n m)).all (λ j=>match ds[j]?,es[j]? with|some a,some b=>eqD a b|_,_=>true)&&n==m)=gw ds es:=by
 subst hn hm;exact(mK ds es).symm
section
variable{K:PySem.W.Frag}{H:Hp}{s:Shared}
def aGQ(K:PySem.W.Frag)(H:Hp)(s:Shared)(n:Nat):Prop:=∀(A1 A2:Addr->Prop) (x y:V) (d e:D) (A:Around) (u v:Value),Rp K A1 H x d->Rp K A2 H y e->RelV x u->RelV y v->fU d<=n->aN d=true->aN e=true->A.units+n<cLine->SeqAt.EqAt A s u v (eqD d e)
def aGR(K:PySem.W.Frag)(H:Hp)(s:Shared)(n:Nat):Prop:=∀(A1 A2:Addr->Prop) (xs ys:List V) (ds es:List D) (A:Around) (us vs:List Value),Rps K A1 H xs ds->Rps K A2 H ys es->Vals xs us->Vals ys vs->cB ds<=n->ao ds=true->ao es=true->A.units+n<cLine->
  ∀(j:Nat) (h1:j<us.toArray.size) (h2:j<vs.toArray.size),SeqAt.EqAt A s us.toArray[j] vs.toArray[j] (match ds[j]?,es[j]? with|some a,some b=>eqD a b|_,_=>true)
theorem vJ(ok:ju K H s)(n:Nat)(IH:∀k,n=k+1->aGR K H s k):aGQ K H s n:=by
 intro A1 A2 x y d e A u v r1 r2 ru rv hd nd ne hu;have hu0:A.units<cLine:=by lia
 cases r1 with
 |tup h1 q1=>
  rename_i a xs ds;cases ru;obtain⟨its,w1,t1⟩:=ok.tup h1;cases r2 with
  |tup h2 q2=>
   rename_i b ys es;cases rv;obtain⟨its2,w2,t2⟩:=ok.tup h2;by_cases hab:a=b
   ·subst hab
    have e:=Rp.inj ok (Rp.tup h1 q1) (Rp.tup h2 q2) nd ne;rw[<-e,gf _ nd];exact SeqAt.EqAt.same _
   ·simp only[fU]at hd
    obtain⟨k,rfl⟩:∃k,n=k+1:=⟨n-1,by lia⟩
    have z:=SeqAt.RcAt.tuples t1 t2 hu0 (IH k rfl _ _ _ _ _ _ _ _ _ q1 q2 w1 w2 (by lia) (iG nd) (iG ne) (by show A.units+1+k<cLine;lia));rw[cA (by rw[List.size_toArray,<-w1.length,q1.length]) (by rw[List.size_toArray,<-w2.length,q2.length])]at z;simp only[eqD];exact SeqAt.EqAt.of_refs hab z
  |lst h2 mm2 q2=>
   cases rv;obtain⟨its2,w2,t2⟩:=ok.lst h2;simp only[eqD];exact SeqAt.EqAt.tuple_list t1 t2 hu0
  |dK _ _ _=>exact(aQ ne).elim
  |dT _ _ _=>exact(aQ ne).elim
  |set _ _ _ _=>exact(bJ ne).elim
  |scr _=>exact(bK ne).elim
  |fn _=>exact(bc ne).elim
  |non=>cases rv;simp only[eqD];exact SeqAt.EqAt.tuple_none t1 hu0
  |bl b=>cases rv;simp only[eqD];exact SeqAt.EqAt.tuple_bool b t1 hu0
  |int i=>obtain⟨tk,rfl⟩:=rv;simp only[eqD];exact SeqAt.EqAt.tuple_int i tk t1 hu0
  |str i=>obtain⟨tk,rfl⟩:=rv;simp only[eqD];exact SeqAt.EqAt.tuple_str i tk t1 hu0
 |lst h1 mm1 q1=>
  rename_i a xs ds;cases ru;obtain⟨its,w1,t1⟩:=ok.lst h1;cases r2 with
  |lst h2 mm2 q2=>
   rename_i b ys es;cases rv;obtain⟨its2,w2,t2⟩:=ok.lst h2;by_cases hab:a=b
   ·subst hab
    have e:=Rp.inj ok (Rp.lst h1 mm1 q1) (Rp.lst h2 mm2 q2) nd ne;rw[<-e,gf _ nd];exact SeqAt.EqAt.same _
   ·simp only[fU]at hd
    obtain⟨k,rfl⟩:∃k,n=k+1:=⟨n-1,by lia⟩
    have l1:its.toArray.size=ds.length:=by rw[List.size_toArray,<-w1.length,q1.length]
    have l2:its2.toArray.size=es.length:=by rw[List.size_toArray,<-w2.length,q2.length]
    by_cases hl:its.toArray.size=its2.toArray.size
    ·have z:=SeqAt.RcAt.lists t1 t2 hl hu0 (IH k rfl _ _ _ _ _ _ _ _ _ q1 q2 w1 w2 (by lia) (iH nd) (iH ne) (by show A.units+1+k<cLine;lia))
     have z':=cA (ds:=ds) (es:=es) l1 l2;rw[<-hl,Nat.min_self,beq_self_eq_true,Bool.and_true]at z';rw[z']at z;simp only[eqD];exact SeqAt.EqAt.of_refs hab z
    ·have z:=SeqAt.RcAt.lists_lengths t1 t2 (by simpa using hl) hu0
     have z':=cA (ds:=ds) (es:=es) l1 l2;rw[beq_eq_false_iff_ne.mpr hl,Bool.and_false]at z';simp only[eqD];rw[<-z'];exact SeqAt.EqAt.of_refs hab z
  |tup h2 q2=>
   cases rv;obtain⟨its2,w2,t2⟩:=ok.tup h2;simp only[eqD];exact SeqAt.EqAt.list_tuple t1 t2 hu0
  |dK _ _ _=>exact(aQ ne).elim
  |dT _ _ _=>exact(aQ ne).elim
  |set _ _ _ _=>exact(bJ ne).elim
  |scr _=>exact(bK ne).elim
  |fn _=>exact(bc ne).elim
  |non=>cases rv;simp only[eqD];exact SeqAt.EqAt.list_none t1 hu0
  |bl b=>cases rv;simp only[eqD];exact SeqAt.EqAt.list_bool b t1 hu0
  |int i=>obtain⟨tk,rfl⟩:=rv;simp only[eqD];exact SeqAt.EqAt.list_int i tk t1 hu0
  |str i=>obtain⟨tk,rfl⟩:=rv;simp only[eqD];exact SeqAt.EqAt.list_str i tk t1 hu0
 |dK _ _ _=>exact(aQ nd).elim
 |dT _ _ _=>exact(aQ nd).elim
 |set _ _ _ _=>exact(bJ nd).elim
 |scr _=>exact(bK nd).elim
 |fn _=>exact(bc nd).elim
 |non=>
  cases ru;cases r2 with
  |tup h2 q2=>cases rv;obtain⟨_,_,t2⟩:=ok.tup h2;simp only[eqD];exact SeqAt.EqAt.none_tuple t2 hu0
  |lst h2 mm2 q2=>cases rv;obtain⟨_,_,t2⟩:=ok.lst h2;simp only[eqD];exact SeqAt.EqAt.none_list t2 hu0
  |dK _ _ _=>exact(aQ ne).elim
  |dT _ _ _=>exact(aQ ne).elim
  |set _ _ _ _=>exact(bJ ne).elim
  |scr _=>exact(bK ne).elim
  |fn _=>exact(bc ne).elim
  |non=>cases rv;simp only[eqD];exact SeqAt.EqAt.same _
  |bl b=>cases rv;simp only[eqD];exact SeqAt.EqAt.none_bool b
  |int i=>obtain⟨tk,rfl⟩:=rv;simp only[eqD];exact SeqAt.EqAt.none_int i tk
  |str i=>obtain⟨tk,rfl⟩:=rv;simp only[eqD];exact SeqAt.EqAt.none_str i tk
 |bl a=>
  cases ru;cases r2 with
  |tup h2 q2=>cases rv;obtain⟨_,_,t2⟩:=ok.tup h2;simp only[eqD];exact SeqAt.EqAt.bool_tuple a t2 hu0
  |lst h2 mm2 q2=>cases rv;obtain⟨_,_,t2⟩:=ok.lst h2;simp only[eqD];exact SeqAt.EqAt.bool_list a t2 hu0
  |dK _ _ _=>exact(aQ ne).elim
  |dT _ _ _=>exact(aQ ne).elim
  |set _ _ _ _=>exact(bJ ne).elim
  |scr _=>exact(bK ne).elim
  |fn _=>exact(bc ne).elim
  |non=>cases rv;simp only[eqD];exact SeqAt.EqAt.bool_none a
  |bl b=>cases rv;simp only[eqD];exact SeqAt.EqAt.bool_bool a b
  |int i=>obtain⟨tk,rfl⟩:=rv;simp only[eqD];exact SeqAt.EqAt.bool_int a i tk
  |str i=>obtain⟨tk,rfl⟩:=rv;simp only[eqD];exact SeqAt.EqAt.bool_str a i tk
 |int a=>
  obtain⟨tu,rfl⟩:=ru;cases r2 with
  |tup h2 q2=>cases rv;obtain⟨_,_,t2⟩:=ok.tup h2;simp only[eqD];exact SeqAt.EqAt.int_tuple a tu t2 hu0
  |lst h2 mm2 q2=>cases rv;obtain⟨_,_,t2⟩:=ok.lst h2;simp only[eqD];exact SeqAt.EqAt.int_list a tu t2 hu0
  |dK _ _ _=>exact(aQ ne).elim
  |dT _ _ _=>exact(aQ ne).elim
  |set _ _ _ _=>exact(bJ ne).elim
  |scr _=>exact(bK ne).elim
  |fn _=>exact(bc ne).elim
  |non=>cases rv;simp only[eqD];exact SeqAt.EqAt.int_none a tu
  |bl b=>cases rv;simp only[eqD];exact SeqAt.EqAt.int_bool a tu b
  |int i=>obtain⟨tk,rfl⟩:=rv;simp only[eqD];exact SeqAt.EqAt.int_int a tu i tk
  |str i=>obtain⟨tk,rfl⟩:=rv;simp only[eqD];exact SeqAt.EqAt.int_str a tu i tk
 |str a=>
  obtain⟨tu,rfl⟩:=ru;cases r2 with
  |tup h2 q2=>cases rv;obtain⟨_,_,t2⟩:=ok.tup h2;simp only[eqD];exact SeqAt.EqAt.str_tuple a tu t2 hu0
  |lst h2 mm2 q2=>cases rv;obtain⟨_,_,t2⟩:=ok.lst h2;simp only[eqD];exact SeqAt.EqAt.str_list a tu t2 hu0
  |dK _ _ _=>exact(aQ ne).elim
  |dT _ _ _=>exact(aQ ne).elim
  |set _ _ _ _=>exact(bJ ne).elim
  |scr _=>exact(bK ne).elim
  |fn _=>exact(bc ne).elim
  |non=>cases rv;simp only[eqD];exact SeqAt.EqAt.str_none a tu
  |bl b=>cases rv;simp only[eqD];exact SeqAt.EqAt.str_bool a tu b
  |int i=>obtain⟨tk,rfl⟩:=rv;simp only[eqD];exact SeqAt.EqAt.str_int a tu i tk
  |str i=>obtain⟨tk,rfl⟩:=rv;simp only[eqD];exact SeqAt.EqAt.str_str a tu i tk
theorem xO(ok:ju K H s)(n:Nat)(IH:aGQ K H s n):aGR K H s n:=by
 intro A1 A2 xs ys ds es A us vs q1 q2 w1 w2 hd nd ne hu j h1 h2;have hj1:j<us.length:=by simpa using h1
 have hj2:j<vs.length:=by simpa using h2
 have hx:j<xs.length:=by rw[w1.length];exact hj1
 have hy:j<ys.length:=by rw[w2.length];exact hj2
 have ex:=List.getElem?_eq_getElem hx;have ey:=List.getElem?_eq_getElem hy;obtain⟨d,ed,rd⟩:=q1.get ex;obtain⟨e,ee,re⟩:=q2.get ey;obtain⟨u,eu,ru⟩:=w1.get ex;obtain⟨v,ev,rv⟩:=w2.get ey;have e1:us.toArray[j]=u:=by
  rw[List.getElem_toArray];exact Option.some.inj ((List.getElem?_eq_getElem hj1).symm.trans eu)
 have e2:vs.toArray[j]=v:=by
  rw[List.getElem_toArray];exact Option.some.inj ((List.getElem?_eq_getElem hj2).symm.trans ev)
 rw[e1,e2,ed,ee];exact IH _ _ _ _ _ _ _ _ _ rd re ru rv (Nat.le_trans (jk (List.mem_of_getElem? ed)) hd) (eV (List.mem_of_getElem? ed) nd) (eV (List.mem_of_getElem? ee) ne) hu
theorem aFv(ok:ju K H s):∀n,aGQ K H s n
 |0=>vJ ok 0 λ k h=>absurd h (by simp)
 |n+1=>vJ ok (n+1) λ k h=>by
  have h':=Nat.succ.inj h;subst h';exact xO ok n (aFv ok n)
theorem yx(ok:ju K H s):∀{A1 A2:Addr->Prop} {x y:V} {d e:D} (n:Nat) {A:Around} {u v:Value},Rp K A1 H x d->Rp K A2 H y e->RelV x u->RelV y v->fU d<=n->aN d=true->aN e=true->A.units+n<cLine->SeqAt.EqAt A s u v (eqD d e)
 |_,_,_,_,_,_,n,A,u,v,r1,r2,ru,rv,hd,nd,ne,hu=>aFv ok n _ _ _ _ _ _ _ _ _ r1 r2 ru rv hd nd ne hu
theorem vK(ok:ju K H s):∀{A1 A2:Addr->Prop} {xs ys:List V} {ds es:List D} (n:Nat) {A:Around} {us vs:List Value},Rps K A1 H xs ds->Rps K A2 H ys es->Vals xs us->Vals ys vs->cB ds<=n->ao ds=true->ao es=true->A.units+n<cLine->
  ∀(j:Nat) (h1:j<us.toArray.size) (h2:j<vs.toArray.size),SeqAt.EqAt A s us.toArray[j] vs.toArray[j] (match ds[j]?,es[j]? with|some a,some b=>eqD a b|_,_=>true)
 |_,_,xs,ys,ds,es,n,A,us,vs,q1,q2,w1,w2,hd,nd,ne,hu,j,h1,h2=>xO ok n (aFv ok n) _ _ _ _ _ _ _ _ _ q1 q2 w1 w2 hd nd ne hu j h1 h2
theorem aB5(ok:ju K H s)(n:Nat)(r1:Rp K A1 H x d)(r2:Rp K A2 H y e)(ru:RelV x u)(rv:RelV y v)(hd:fU d<=n)(nd:aN d=true)(ne:aN e=true)(hu:A.units+n<cLine):
  SeqAt.RcAt A s u v (eqD d e)/\SeqAt.RcNeAt A s u v (!eqD d e):=by
 have hu0:A.units<cLine:=by lia
 cases r1 with
 |tup h1 q1=>
  rename_i a xs ds;cases ru;obtain⟨its,w1,t1⟩:=ok.tup h1;cases r2 with
  |tup h2 q2=>
   rename_i b ys es;cases rv;obtain⟨its2,w2,t2⟩:=ok.tup h2;simp only[fU]at hd;obtain⟨k,rfl⟩:∃k,n=k+1:=⟨n-1,by lia⟩
   have he:=vK ok (A:=A.in1) k q1 q2 w1 w2 (by lia) (iG nd) (iG ne) (by show A.units+1+k<cLine;lia);have z:=SeqAt.RcAt.tuples t1 t2 hu0 he;have z2:=SeqAt.RcNeAt.tuples t1 t2 hu0 he;rw[cA (by rw[List.size_toArray,<-w1.length,q1.length]) (by rw[List.size_toArray,<-w2.length,q2.length])]at z z2;simp only[eqD];exact⟨z,z2⟩
  |lst h2 mm2 q2=>
   cases rv;obtain⟨its2,w2,t2⟩:=ok.lst h2;simp only[eqD];exact⟨SeqAt.RcAt.tuple_list t1 t2 hu0,SeqAt.RcNeAt.tuple_list t1 t2 hu0⟩
  |dK _ _ _=>exact(aQ ne).elim
  |dT _ _ _=>exact(aQ ne).elim
  |set _ _ _ _=>exact(bJ ne).elim
  |scr _=>exact(bK ne).elim
  |fn _=>exact(bc ne).elim
  |non=>cases rv;simp only[eqD];exact⟨SeqAt.RcAt.tuple_none t1 hu0,SeqAt.RcNeAt.tuple_none t1 hu0⟩
  |bl b=>cases rv;simp only[eqD];exact⟨SeqAt.RcAt.tuple_bool b t1 hu0,SeqAt.RcNeAt.tuple_bool b t1 hu0⟩
  |int i=>obtain⟨tk,rfl⟩:=rv;simp only[eqD];exact⟨SeqAt.RcAt.tuple_int i tk t1 hu0,SeqAt.RcNeAt.tuple_int i tk t1 hu0⟩
  |str i=>obtain⟨tk,rfl⟩:=rv;simp only[eqD];exact⟨SeqAt.RcAt.tuple_str i tk t1 hu0,SeqAt.RcNeAt.tuple_str i tk t1 hu0⟩
 |lst h1 mm1 q1=>
  rename_i a xs ds;cases ru;obtain⟨its,w1,t1⟩:=ok.lst h1;cases r2 with
  |lst h2 mm2 q2=>
   rename_i b ys es;cases rv;obtain⟨its2,w2,t2⟩:=ok.lst h2;simp only[fU]at hd;obtain⟨k,rfl⟩:∃k,n=k+1:=⟨n-1,by lia⟩
   have l1:its.toArray.size=ds.length:=by rw[List.size_toArray,<-w1.length,q1.length]
   have l2:its2.toArray.size=es.length:=by rw[List.size_toArray,<-w2.length,q2.length]
   have z':=cA (ds:=ds) (es:=es) l1 l2;by_cases hl:its.toArray.size=its2.toArray.size
   ·have he:=vK ok (A:=A.in1) k q1 q2 w1 w2 (by lia) (iH nd) (iH ne) (by show A.units+1+k<cLine;lia)
    have z:=SeqAt.RcAt.lists t1 t2 hl hu0 he;have z2:=SeqAt.RcNeAt.lists t1 t2 hl hu0 he;rw[<-hl,Nat.min_self,beq_self_eq_true,Bool.and_true]at z';rw[z']at z z2;simp only[eqD];exact⟨z,z2⟩
   ·rw[beq_eq_false_iff_ne.mpr hl,Bool.and_false]at z'
    simp only[eqD];rw[<-z'];exact⟨SeqAt.RcAt.lists_lengths t1 t2 (by simpa using hl) hu0,SeqAt.RcNeAt.lists_lengths t1 t2 (by simpa using hl) hu0⟩
  |tup h2 q2=>
   cases rv;obtain⟨its2,w2,t2⟩:=ok.tup h2;simp only[eqD];exact⟨SeqAt.RcAt.list_tuple t1 t2 hu0,SeqAt.RcNeAt.list_tuple t1 t2 hu0⟩
  |dK _ _ _=>exact(aQ ne).elim
  |dT _ _ _=>exact(aQ ne).elim
  |set _ _ _ _=>exact(bJ ne).elim
  |scr _=>exact(bK ne).elim
  |fn _=>exact(bc ne).elim
  |non=>cases rv;simp only[eqD];exact⟨SeqAt.RcAt.list_none t1 hu0,SeqAt.RcNeAt.list_none t1 hu0⟩
  |bl b=>cases rv;simp only[eqD];exact⟨SeqAt.RcAt.list_bool b t1 hu0,SeqAt.RcNeAt.list_bool b t1 hu0⟩
  |int i=>obtain⟨tk,rfl⟩:=rv;simp only[eqD];exact⟨SeqAt.RcAt.list_int i tk t1 hu0,SeqAt.RcNeAt.list_int i tk t1 hu0⟩
  |str i=>obtain⟨tk,rfl⟩:=rv;simp only[eqD];exact⟨SeqAt.RcAt.list_str i tk t1 hu0,SeqAt.RcNeAt.list_str i tk t1 hu0⟩
 |dK _ _ _=>exact(aQ nd).elim
 |dT _ _ _=>exact(aQ nd).elim
 |set _ _ _ _=>exact(bJ nd).elim
 |scr _=>exact(bK nd).elim
 |fn _=>exact(bc nd).elim
 |non=>
  cases ru;cases r2 with
  |tup h2 q2=>cases rv;obtain⟨_,_,t2⟩:=ok.tup h2;simp only[eqD];exact⟨SeqAt.RcAt.none_tuple t2 hu0,SeqAt.RcNeAt.none_tuple t2 hu0⟩
  |lst h2 mm2 q2=>cases rv;obtain⟨_,_,t2⟩:=ok.lst h2;simp only[eqD];exact⟨SeqAt.RcAt.none_list t2 hu0,SeqAt.RcNeAt.none_list t2 hu0⟩
  |dK _ _ _=>exact(aQ ne).elim
  |dT _ _ _=>exact(aQ ne).elim
  |set _ _ _ _=>exact(bJ ne).elim
  |scr _=>exact(bK ne).elim
  |fn _=>exact(bc ne).elim
  |non=>cases rv;simp only[eqD];exact⟨SeqAt.RcAt.none_none,SeqAt.RcNeAt.none_none⟩
  |bl b=>cases rv;simp only[eqD];exact⟨SeqAt.RcAt.none_bool b,SeqAt.RcNeAt.none_bool b⟩
  |int i=>obtain⟨tk,rfl⟩:=rv;simp only[eqD];exact⟨SeqAt.RcAt.none_int i tk,SeqAt.RcNeAt.none_int i tk⟩
  |str i=>obtain⟨tk,rfl⟩:=rv;simp only[eqD];exact⟨SeqAt.RcAt.none_str i tk,SeqAt.RcNeAt.none_str i tk⟩
 |bl a=>
  cases ru;cases r2 with
  |tup h2 q2=>cases rv;obtain⟨_,_,t2⟩:=ok.tup h2;simp only[eqD];exact⟨SeqAt.RcAt.bool_tuple a t2 hu0,SeqAt.RcNeAt.bool_tuple a t2 hu0⟩
  |lst h2 mm2 q2=>cases rv;obtain⟨_,_,t2⟩:=ok.lst h2;simp only[eqD];exact⟨SeqAt.RcAt.bool_list a t2 hu0,SeqAt.RcNeAt.bool_list a t2 hu0⟩
  |dK _ _ _=>exact(aQ ne).elim
  |dT _ _ _=>exact(aQ ne).elim
  |set _ _ _ _=>exact(bJ ne).elim
  |scr _=>exact(bK ne).elim
  |fn _=>exact(bc ne).elim
  |non=>cases rv;simp only[eqD];exact⟨SeqAt.RcAt.bool_none a,SeqAt.RcNeAt.bool_none a⟩
  |bl b=>cases rv;simp only[eqD];exact⟨SeqAt.RcAt.bool_bool a b,SeqAt.RcNeAt.bool_bool a b⟩
  |int i=>obtain⟨tk,rfl⟩:=rv;simp only[eqD];exact⟨SeqAt.RcAt.bool_int a i tk,SeqAt.RcNeAt.bool_int a i tk⟩
  |str i=>obtain⟨tk,rfl⟩:=rv;simp only[eqD];exact⟨SeqAt.RcAt.bool_str a i tk,SeqAt.RcNeAt.bool_str a i tk⟩
 |int a=>
  obtain⟨tu,rfl⟩:=ru;cases r2 with
  |tup h2 q2=>cases rv;obtain⟨_,_,t2⟩:=ok.tup h2;simp only[eqD];exact⟨SeqAt.RcAt.int_tuple a tu t2 hu0,SeqAt.RcNeAt.int_tuple a tu t2 hu0⟩
  |lst h2 mm2 q2=>cases rv;obtain⟨_,_,t2⟩:=ok.lst h2;simp only[eqD];exact⟨SeqAt.RcAt.int_list a tu t2 hu0,SeqAt.RcNeAt.int_list a tu t2 hu0⟩
  |dK _ _ _=>exact(aQ ne).elim
  |dT _ _ _=>exact(aQ ne).elim
  |set _ _ _ _=>exact(bJ ne).elim
  |scr _=>exact(bK ne).elim
  |fn _=>exact(bc ne).elim
  |non=>cases rv;simp only[eqD];exact⟨SeqAt.RcAt.int_none a tu,SeqAt.RcNeAt.int_none a tu⟩
  |bl b=>cases rv;simp only[eqD];exact⟨SeqAt.RcAt.int_bool a tu b,SeqAt.RcNeAt.int_bool a tu b⟩
  |int i=>obtain⟨tk,rfl⟩:=rv;simp only[eqD];exact⟨SeqAt.RcAt.int_int a tu i tk,SeqAt.RcNeAt.int_int a tu i tk⟩
  |str i=>obtain⟨tk,rfl⟩:=rv;simp only[eqD];exact⟨SeqAt.RcAt.int_str a tu i tk,SeqAt.RcNeAt.int_str a tu i tk⟩
 |str a=>
  obtain⟨tu,rfl⟩:=ru;cases r2 with
  |tup h2 q2=>cases rv;obtain⟨_,_,t2⟩:=ok.tup h2;simp only[eqD];exact⟨SeqAt.RcAt.str_tuple a tu t2 hu0,SeqAt.RcNeAt.str_tuple a tu t2 hu0⟩
  |lst h2 mm2 q2=>cases rv;obtain⟨_,_,t2⟩:=ok.lst h2;simp only[eqD];exact⟨SeqAt.RcAt.str_list a tu t2 hu0,SeqAt.RcNeAt.str_list a tu t2 hu0⟩
  |dK _ _ _=>exact(aQ ne).elim
  |dT _ _ _=>exact(aQ ne).elim
  |set _ _ _ _=>exact(bJ ne).elim
  |scr _=>exact(bK ne).elim
  |fn _=>exact(bc ne).elim
  |non=>cases rv;simp only[eqD];exact⟨SeqAt.RcAt.str_none a tu,SeqAt.RcNeAt.str_none a tu⟩
  |bl b=>cases rv;simp only[eqD];exact⟨SeqAt.RcAt.str_bool a tu b,SeqAt.RcNeAt.str_bool a tu b⟩
  |int i=>obtain⟨tk,rfl⟩:=rv;simp only[eqD];exact⟨SeqAt.RcAt.str_int a tu i tk,SeqAt.RcNeAt.str_int a tu i tk⟩
  |str i=>obtain⟨tk,rfl⟩:=rv;simp only[eqD];exact⟨SeqAt.RcAt.str_str a tu i tk,SeqAt.RcNeAt.str_str a tu i tk⟩
end
section
variable{K:PySem.W.Frag}{H:Hp}{s:Shared}
open Classical in
def gr(K:PySem.W.Frag)(H:Hp)(d:D)(u:Value):Bool:=if h:∃e,aN e=true/\∃y,RelV y u/\Rp K (λ _=>True) H y e then eqD (choose h) d else false
theorem lB(ok:ju K H s)(r:RelV y u)(h:Rp K A H y e)(ne:aN e=true):gr K H d u=eqD e d:=by
 have hx:∃e,aN e=true/\∃y,RelV y u/\Rp K (λ _=>True) H y e:=⟨e,ne,y,r,h.wk λ _ _ _ _=>trivial⟩
 unfold gr;rw[dif_pos hx];obtain⟨n',y',r',h'⟩:=Classical.choose_spec hx;have e1:=RelV.inj r r';subst e1;rw[Rp.inj ok h' h n' ne]
def inD(d:D)(es:List D):Bool:=es.any λ e=>eqD e d
theorem jt(ok:ju K H s):∀{A:Addr->Prop} {xs:List V} {es:List D} {us:List Value},Rps K A H xs es->Vals xs us->ao es=true->us.any (gr K H d)=inD d es:=by
 intro A xs es us h v n;induction v generalizing es with
 |nil=>cases h;rfl
 |cons k t ih=>
  cases h with
  |cons h r=>
   simp only[ao,Bool.and_eq_true]at n;unfold inD;rw[List.any_cons,List.any_cons,lB ok k h n.1,ih r n.2];rfl
theorem jP(ok:ju K H s)(rx:Rp K A0 H x d)(rv:RelV x v)(hu:A.units+n<cLine)(nd:aN d=true):∀{A1:Addr->Prop} {xs:List V} {es:List D} {us:List Value},Rps K A1 H xs es->Vals xs us->cB es<=n->ao es=true->∀u∈us,SeqAt.EqAt A s u v (gr K H d u):=by
 intro A1 xs es us h v' hd ne u hm;induction v' generalizing es with
 |nil=>cases hm
 |cons k t ih=>
  cases h with
  |cons h r=>
   simp only[cB]at hd;simp only[ao,Bool.and_eq_true]at ne;rcases List.mem_cons.mp hm with z|z
   ·subst z
    rw[lB ok k h ne.1];exact yx ok n h rx k rv (Nat.le_trans (Nat.le_max_left _ _) hd) ne.1 nd hu
   ·exact ih r (Nat.le_trans (Nat.le_max_right _ _) hd) ne.2 z
end
section
variable{X:Cx}
def aEb(K:PySem.W.Frag)(neg:Bool):R2:=λ x y H Q=>∃A B d e,Rp K A H x d/\Rp K B H y e/\fU d<=60/\aN d=true/\aN e=true/\Q (.bl (if neg then !eqD d e else eqD d e)) H
theorem aJb(hu:X.A.units+64<cLine):OpR X (compareOp .Eq) (aEb X.K false):=by
 intro pins s σ H x y v u Q I rx ry h;obtain⟨A,B,d,e,r1,r2,hd,nd,ne,q⟩:=h;exact(aB5 (Inv.seqOk I) 60 r1 r2 rx ry hd nd ne (by lia)).1 X.prog X.w X.xe _ ⟨.bl (eqD d e),H,I,rfl,q⟩
theorem aJ3(hu:X.A.units+64<cLine):OpR X (compareOp .NotEq) (aEb X.K true):=by
 intro pins s σ H x y v u Q I rx ry h;obtain⟨A,B,d,e,r1,r2,hd,nd,ne,q⟩:=h;exact(aB5 (Inv.seqOk I) 60 r1 r2 rx ry hd nd ne (by lia)).2 X.prog X.w X.xe _ ⟨.bl (!eqD d e),H,I,rfl,q⟩
def aDS(K:PySem.W.Frag)(neg:Bool):R2:=λ x y H Q=>∃A B d a es,Rp K A H x d/\y= .ref a/\(Rp K B H (.ref a) (.lst es)\/Rp K B H (.ref a) (.tup es))/\cB es<=60/\aN d=true/\ao es=true/\Q (.bl (if neg then !inD d es else inD d es)) H
theorem aJa(hu:X.A.units+64<cLine):OpR X (compareOp .In) (aDS X.K false):=by
 intro pins s σ H x y v u Q I rx ry h;obtain⟨A,B,d,a,es,rd,rfl,ra,hd,nd,ne,q⟩:=h;cases ry;have ok:=Inv.seqOk I;have hu1:X.A.in1.units+60<cLine:=by show X.A.units+1+60<cLine;lia
 rcases ra with ra|ra
 ·cases ra with
  |lst ha _ r=>
   obtain⟨its,rv,tl⟩:=ok.lst ha;refine SeqAt.in_listAt (gr X.K H d) tl (λ w hw=>jP ok rd rx hu1 nd r rv hd ne w (by simpa using hw)) ⟨.bl _,H,I,rfl,?_⟩;rw[show its.toArray.any (gr X.K H d)=its.any (gr X.K H d)by simp,jt ok r rv ne];exact q
 ·cases ra with
  |tup ha r=>
   obtain⟨its,rv,tl⟩:=ok.tup ha;refine SeqAt.in_tupleAt (gr X.K H d) tl (λ w hw=>jP ok rd rx hu1 nd r rv hd ne w (by simpa using hw)) ⟨.bl _,H,I,rfl,?_⟩;rw[show its.toArray.any (gr X.K H d)=its.any (gr X.K H d)by simp,jt ok r rv ne];exact q
theorem aD2(hu:X.A.units+64<cLine):OpR X (compareOp .NotIn) (aDS X.K true):=by
 intro pins s σ H x y v u Q I rx ry h;obtain⟨A,B,d,a,es,rd,rfl,ra,hd,nd,ne,q⟩:=h;cases ry;have ok:=Inv.seqOk I;have hu1:X.A.in1.units+60<cLine:=by show X.A.units+1+60<cLine;lia
 rcases ra with ra|ra
 ·cases ra with
  |lst ha _ r=>
   obtain⟨its,rv,tl⟩:=ok.lst ha;refine SeqAt.notIn_listAt (gr X.K H d) tl (λ w hw=>jP ok rd rx hu1 nd r rv hd ne w (by simpa using hw)) ⟨.bl _,H,I,rfl,?_⟩;rw[show its.toArray.any (gr X.K H d)=its.any (gr X.K H d)by simp,jt ok r rv ne];exact q
 ·cases ra with
  |tup ha r=>
   obtain⟨its,rv,tl⟩:=ok.tup ha;refine SeqAt.notIn_tupleAt (gr X.K H d) tl (λ w hw=>jP ok rd rx hu1 nd r rv hd ne w (by simpa using hw)) ⟨.bl _,H,I,rfl,?_⟩;rw[show its.toArray.any (gr X.K H d)=its.any (gr X.K H d)by simp,jt ok r rv ne];exact q
end
section
variable{K:PySem.W.Frag}
def eqR(neg:Bool):D->D->Rs D:=λ d e=>if decide (fU d<=60)&&aN d&&aN e then .ok (.bl (if neg then !eqD d e else eqD d e))else .st
def inR(neg:Bool):D->D->Rs D:=λ d e=>match e with
 | .lst es=>if decide (cB es<=60)&&aN d&&ao es then .ok (.bl (if neg then !inD d es else inD d es))else .st
 | .tup es=>if decide (cB es<=60)&&aN d&&ao es then .ok (.bl (if neg then !inD d es else inD d es))else .st
 |_=>.st
theorem os_eq:OpS K (aEb K n) (eqR n):=by
 intro A x y d e H Q z rx ry ez q;unfold eqR at ez;split at ez
 ·rename_i h
  simp only[Bool.and_eq_true,decide_eq_true_eq]at h;cases ez;exact⟨A,A,d,e,rx,ry,h.1.1,h.1.2,h.2,q _ H (aU.refl H) (.bl _)⟩
 ·cases ez
theorem aFF:OpS K (aDS K n) (inR n):=by
 intro A x y d e H Q z rx ry ez q;unfold inR at ez;split at ez
 ·split at ez
  ·rename_i h
   simp only[Bool.and_eq_true,decide_eq_true_eq]at h;cases ez;cases ry with
   |lst ha mm r=>exact⟨A,A,d,_,_,rx,rfl,.inl (.lst ha mm r),h.1.1,h.1.2,h.2,q _ H (aU.refl H) (.bl _)⟩
  ·cases ez
 ·split at ez
  ·rename_i h
   simp only[Bool.and_eq_true,decide_eq_true_eq]at h;cases ez;cases ry with
   |tup ha r=>exact⟨A,A,d,_,_,rx,rfl,.inr (.tup ha r),h.1.1,h.1.2,h.2,q _ H (aU.refl H) (.bl _)⟩
  ·cases ez
 ·cases ez
theorem aKB:∀x y z,eqR n x y= .ok z->imm z=true:=by
 intro x y z e;unfold eqR at e;split at e
 ·cases e;rfl
 ·cases e
end
section
variable{K:PySem.W.Frag}
def boolsOf:List D->Option (List Bool)
 |[]=>some []
 | .bl i::r=>(boolsOf r).map (i::·)
 |_=>none
theorem qC:∀{l:List D} {ns:List Bool},boolsOf l=some ns->l=ns.map .bl
 |[],ns,h=>by cases h;rfl
 | .bl i::r,ns,h=>by
  simp only[boolsOf,Option.map_eq_some_iff]at h;obtain⟨ms,h1,rfl⟩:=h;rw[qC h1];rfl
 | .non::_,_,h=>by cases h
 | .int _::_,_,h=>by cases h
 | .str _::_,_,h=>by cases h
 | .tup _::_,_,h=>by cases h
 | .lst _::_,_,h=>by cases h
 | .dct _ _::_,_,h=>by cases h
 | .set _::_,_,h=>by cases h
 | .scr _::_,_,h=>by cases h
theorem sI:∀ns:List Bool,boolsOf (ns.map .bl)=some ns
 |[]=>rfl
 |n::ns=>by simp only[List.map_cons,boolsOf,sI ns,Option.map_some]
theorem xX{X:Cx}:∀{bs:List Bool} {us:List Value},Vals (bs.map V.bl) us->LSm.BoolsAre us bs
 |[],_,.nil=>.nil
 |b::bs,_,.cons r t=>by
  have e:_=Value.bool b:=r;subst e;exact .cons b (xX (X:=X) t)
theorem Rps.bools_of:∀{xs:List V} {bs:List Bool},Rps K A H xs (bs.map D.bl)->xs=bs.map V.bl
 |_,[],.nil=>rfl
 |_,n::ns,.cons h r=>by
  cases h;rw[List.map_cons,Rps.bools_of r]
def rD(f:List Bool->Bool):List D->Rs D
 |[.lst l]=>match boolsOf l with
  |some bs=>.ok (.bl (f bs))
  |none=>.st
 |_=>.st
theorem aGI{X:Cx}(hc:X.calm=true):cO X (.builtin "all") (λ xs H Q=>∃(p:Addr) (bs:List Bool),xs=[.ref p]/\H p=some (.lst (bs.map V.bl))/\Q (.bl (bs.all id)) H):=by
 intro pins s σ H xs us Q I r h;obtain⟨p,bs,rfl,hp,q⟩:=h;obtain⟨u,rfl,ru⟩:=vals1 r;cases ru;obtain⟨its,rv,pl,hz⟩:=I.list (SqL.of hp);have hb:=xX (X:=X) rv;have hl:=pl.isList;have hlt:p<s.heap.objs.size:=by obtain⟨_,e,_⟩:=hl;exact Heap.lt_size e
 refine call_all_walk (wpAny_pyIter_list hl ?_);refine⟨s.heap.objs.size,[s.heap.objs.size,p],[s.heap.objs.size],its.toArray.size,_,_,λ i=>(bs[i]?).getD true,rfl,Walks.list (A:=X.A.in1) (I.ok.hd hc) _ p (Nat.ne_of_lt hlt) its.toArray,
  ⟨⟨_,Heap.get?_push_size _ rfl,rfl,rfl⟩,hl.push _⟩,λ i v s' Q' E' hP hQ=>?_,λ h' tk hk=>?_⟩
 ·obtain⟨b,e,rfl⟩:=hb.get i v (by simpa using hP)
  simp only[e,Option.getD_some]at hQ;exact wpAny_truthy_bool hQ
 ·have e:((List.range its.toArray.size).all λ i=>(bs[i]?).getD true)=bs.all id:=by
   rw[List.size_toArray,hb.length];exact LSm.range_all bs
  rw[e];exact⟨.bl _,H,I.kept (LSm.kept_iter hk),rfl,q⟩
theorem aKK:v4 K (λ xs H Q=>∃(p:Addr) (bs:List Bool),xs=[.ref p]/\H p=some (.lst (bs.map V.bl))/\Q (.bl (f bs)) H) (rD f):=by
 intro A xs ds H Q z r ez q;unfold rD at ez;split at ez
 ·split at ez
  ·rename_i l bs e
   cases ez
   have:=qC e
   subst this;cases r with
   |cons h r=>
    cases r;cases h with
    |lst h m r=>
     have:=r.bools_of
     subst this;exact⟨_,bs,rfl,h,q _ H (aU.refl H) (.bl _)⟩
  ·cases ez
 ·cases ez
theorem aHa:∀x z,rD f x= .ok z->imm z=true:=by
 intro x z e;unfold rD at e;split at e
 ·split at e
  ·cases e;rfl
  ·cases e
 ·cases e
def mmD(f:Int->Int->Int):List D->Rs D
 |[.int i,.int j]=>.ok (.int (f i j))
 |_=>.st
theorem aI5:v4 K (λ xs H Q=>∃i j,xs=[.int i,.int j]/\Q (.int (f i j)) H) (mmD f):=by
 intro A xs ds H Q z r ez q;unfold mmD at ez;split at ez
 ·cases ez
  cases r with
  |cons h r=>
   cases h;cases r with
   |cons h r=>
    cases h;cases r;exact⟨_,_,rfl,q _ H (aU.refl H) (.int _)⟩
 ·cases ez
theorem aFd:∀x z,mmD f x= .ok z->imm z=true:=by
 intro x z e;unfold mmD at e;split at e
 ·cases e;rfl
 ·cases e
def dj:List D->Rs D
 |[.lst l]=>.ok (.tup l)
 |[.tup l]=>.ok (.tup l)
 |_=>.st
theorem aGC:v4 K (λ xs H Q=>∃p ys,xs=[.ref p]/\((SqL K H p ys/\∀l,H l=none->Q (.ref l) (upd H l (.tup ys)))\/(SqT K H p ys/\Q (.ref p) H))) dj:=by
 intro A xs ds H Q z r ez q;unfold dj at ez;split at ez
 ·cases ez
  cases r with
  |cons h r=>
   cases r;cases h with
   |lst h m r=>exact⟨_,_,rfl,.inl ⟨SqL.of h,λ l hl=>q _ _ (bT hl _) (.tup (SqT.of au) ((r.wk λ _ _ _ z=>.inr z.1).up (bT hl _)))⟩⟩
 ·cases ez
  cases r with
  |cons h r=>
   cases r;cases h with
   |tup h r=>exact⟨_,_,rfl,.inr ⟨h,q _ H (aU.refl H) (.tup h (r.wk λ _ _ _ z=>.inr z))⟩⟩
 ·cases ez
end
section
variable{C:Ct}{pos p2:Pos}{m m1 m2:Mode}{a e:Expr}{fa fe:En->Rs D}{lo hi:Option Expr}
def aHs(fd:D->D->Rs D)(i:Nat)(fe:En->Rs D):En->Ou:=λ ρ=>(op2 fd (di i) fe ρ).bo λ d=>.nx (ρ.set i (.sh d))
theorem aIk(he:SE C m e fe)(ho:∀j,PIp (C.X j) op (ipI f))(hN:∀j,(C.X j).N[i]? =some x:=by intro _;rfl)(hx:∀j,Loc (C.X j).env.scope x:=by intro _;first|exact Or.inl rfl|exact Or.inr rfl)(hf:∀j,(C.X j).fn x=true\/(C.X j).env.scope.names.lookup x=some .local:=by intro _;first|exact .inl rfl|exact .inr rfl)(nd:∀j,(C.X j).N.Nodup:=by intro _;assumption):SS C (.AugAssign (.Name x pos') op e pos) (aHs (i2 (λ _ _=>true) λ a b=>.int (f a b)) i fe):=by
 obtain⟨t,h1,h2⟩:=he;refine⟨_,λ j=>aJE (nd j) (hN j) (hx j) (h1 j) (ho j) (hf j),λ τ σ H ρ lab De R W=>?_⟩;have w0:=(WS.bo W).bd;refine aC0 C.K C.G i τ σ H ρ lab (λ v H'=>t σ H' λ y H1=>ipI f v y H1 λ z H2=>De.nx (σ.set i (some z)) H2) R (w0.imp λ d _ w v H' s r=>h2 τ σ H' ρ lab _ (R.up s) (w.bd.imp λ e _ w y H1 s1 r1=>?_));obtain⟨z,ez,w⟩:=w.okD;unfold i2 at ez;split at ez
 ·cases ez
  cases r;cases r1;exact⟨_,_,rfl,rfl,w _ _ _ (((R.up s).up s1).put (s:=.sh (.int _)) (Rp.int _))⟩
 ·cases ez
end
section
variable{C:Ct}{pos p:Pos}{m m1 m2 m3:Mode}{a b c e:Expr}{fa fb fc fe:En->Rs D}{ga:En->Rs (List D)}{es:List Expr}
theorem Ct.u0(C:Ct)(i:C.ι):(C.X i).A.units<cLine:=(C.room i).units0
theorem Ct.u64(C:Ct)(i:C.ι):(C.X i).A.units+64<cLine:=(C.room i).units
theorem Ct.ltR(C:Ct)(i:C.ι):OpR (C.X i) (compareOp .Lt) (λ x y H Q=>rI0 (λ i j=>.bl (decide (i<j))) x y H Q\/aGh C.K x y H Q):=by have h:=aJ6 (X:=C.X i) (C.u0 i);rw[C.hK i]at h;exact h
theorem Ct.leR(C:Ct)(i:C.ι):OpR (C.X i) (compareOp .LtE) (λ x y H Q=>rI0 (λ i j=>.bl (decide (i<=j))) x y H Q\/aGi C.K x y H Q):=by have h:=aJ8 (X:=C.X i) (C.u0 i);rw[C.hK i]at h;exact h
theorem Ct.eqRl(C:Ct)(i:C.ι):OpR (C.X i) (compareOp .Eq) (aEb C.K false):=by have h:=aJb (X:=C.X i) (C.u64 i);rw[C.hK i]at h;exact h
theorem Ct.neRl(C:Ct)(i:C.ι):OpR (C.X i) (compareOp .NotEq) (aEb C.K true):=by have h:=aJ3 (X:=C.X i) (C.u64 i);rw[C.hK i]at h;exact h
theorem Ct.inRl(C:Ct)(i:C.ι):OpR (C.X i) (compareOp .In) (aDS C.K false):=by have h:=aJa (X:=C.X i) (C.u64 i);rw[C.hK i]at h;exact h
theorem Ct.ninRl(C:Ct)(i:C.ι):OpR (C.X i) (compareOp .NotIn) (aDS C.K true):=by have h:=aD2 (X:=C.X i) (C.u64 i);rw[C.hK i]at h;exact h
theorem Ct.aDv(C:Ct)(i:C.ι):OpR (C.X i) (binaryOp .Add) (aEd C.K):=by have h:=aHF (X:=C.X i);rw[C.hK i]at h;exact h
def aGY:D->D->Rs D:=i2 (λ _ _=>true) λ i j=>.int (i-j)
def rT:D->D->Rs D:=i2 (λ _ j=>decide (0<j)&&decide (j<1073741824)) λ i j=>.int (i / j)
def qm:D->D->Rs D:=i2 (λ _ j=>decide (0<j)) λ i j=>.int (i%j)
def aJF:D->D->Rs D:=i2 (λ i j=>decide (0<=j)&&decide (j<=1000000)&&decide (i.natAbs<2^64)) λ i j=>.int (i^j.toNat)
theorem iV(ha:SE C m1 a fa)(hb:SE C m2 b fb):SE C (jn m1 m2) (.BinOp a .Add b pos) (op2 fX fa fb):=wN C.aDv aJY ha hb
theorem qR(ha:SE C m1 a fa)(hb:SE C m2 b fb):SE C (jn m1 m2) (.BinOp a .Mult b pos) (op2 jf fa fb):=wN (λ _=>aHB) aJV ha hb
theorem aIp(ha:SE C m1 a fa)(hb:SE C m2 b fb):SE C (some []) (.BinOp a .Sub b pos) (op2 aGY fa fb):=iT (wN (λ _=>aJ0) aGy ha hb) λ _ _ h=>mj yt h
theorem aC4(ha:SE C m1 a fa)(hb:SE C m2 b fb):SE C (some []) (.BinOp a .FloorDiv b pos) (op2 rT fa fb):=iT (wN (λ _=>aHC) (aBf λ i j h=>by simpa[aLY]using h) ha hb) λ _ _ h=>mj yt h
theorem qT(ha:SE C m1 a fa)(hb:SE C m2 b fb):SE C (some []) (.BinOp a .Mod b pos) (op2 qm fa fb):=iT (wN (λ _=>aJ5) (aBf λ i j h=>by simpa using h) ha hb) λ _ _ h=>mj yt h
theorem aIq(ha:SE C m1 a fa)(hb:SE C m2 b fb):SE C (some []) (.BinOp a .Pow b pos) (op2 aJF fa fb):=iT (wN (λ _=>aJ2) (aBf λ i j h=>by simp only[Bool.and_eq_true,decide_eq_true_eq]at h;exact⟨h.1.1,h.1.2,h.2⟩) ha hb) λ _ _ h=>mj yt h
theorem aIs(ha:SE C m a fa):SE C (some []) (.UnaryOp .USub a pos) (op1 aFK fa):=iT (aKd (λ _=>aI9) aI8 ha) λ _ _ h=>aH6 aH7 h
theorem aKf(ha:SE C m1 a fa)(hb:SE C m2 b fb):SE C (some []) (.Compare a [.Lt] [b] pos) (op2 ltD fa fb):=iT (aEX C.ltR aFD ha hb) λ _ _ h=>mj aFe h
theorem aKe(ha:SE C m1 a fa)(hb:SE C m2 b fb):SE C (some []) (.Compare a [.NotEq] [b] pos) (op2 (eqR true) fa fb):=iT (aEX C.neRl os_eq ha hb) λ _ _ h=>mj aKB h
theorem aCX(ha:SE C m1 a fa)(hb:SE C m2 b fb):ST C (.Compare a [.Lt] [b] pos) (tsb (op2 ltD fa fb)):=kI C.ltR aFD ha hb
theorem aK9(ha:SE C m1 a fa)(hb:SE C m2 b fb):ST C (.Compare a [.Gt] [b] pos) (tsb (op2 gtD fa fb)):=kI (λ _=>aKv) yU ha hb
theorem aKa(ha:SE C m1 a fa)(hb:SE C m2 b fb):ST C (.Compare a [.GtE] [b] pos) (tsb (op2 geD fa fb)):=kI (λ _=>aKw) yU ha hb
theorem aCY(ha:SE C m1 a fa)(hb:SE C m2 b fb):ST C (.Compare a [.Eq] [b] pos) (tsb (op2 (eqR false) fa fb)):=kI C.eqRl os_eq ha hb
theorem uC(ha:SE C m1 a fa)(hb:SE C m2 b fb):ST C (.Compare a [.NotEq] [b] pos) (tsb (op2 (eqR true) fa fb)):=kI C.neRl os_eq ha hb
theorem aII(ha:SE C m1 a fa)(hb:SE C m2 b fb)(hm:behindInMarks .In b=false:=by with_unfolding_all rfl):ST C (.Compare a [.In] [b] pos) (tsb (op2 (inR false) fa fb)):=kI C.inRl aFF ha hb hm
theorem aBN(ha:SE C m1 a fa)(hb:SE C m2 b fb)(hm:behindInMarks .NotIn b=false:=by with_unfolding_all rfl):ST C (.Compare a [.NotIn] [b] pos) (tsb (op2 (inR true) fa fb)):=kI C.ninRl aFF ha hb hm
theorem aGa(ha:SE C m1 a fa)(hb:SE C m2 b fb)(hc:SE C m3 c fc)(hm:lastMarks [.LtE,.LtE] [b,c]=false:=by with_unfolding_all rfl):SE C (some []) (.Compare a [.LtE,.LtE] [b,c] pos) (chD leD leD fa fb fc):=za C.leR aFE C.leR aFE aKA ha hb hc hm
theorem aG9(ha:SE C m1 a fa)(hb:SE C m2 b fb)(hc:SE C m3 c fc)(hm:lastMarks [.LtE,.Lt] [b,c]=false:=by with_unfolding_all rfl):SE C (some []) (.Compare a [.LtE,.Lt] [b,c] pos) (chD leD ltD fa fb fc):=za C.leR aFE C.ltR aFD aFe ha hb hc hm
theorem aj(ha:SE C m1 a fa)(hb:SE C m2 b fb)(hp:tR b:=by exact λ _ _=>rfl):SE C m1 (.Subscript a b pos) (op2 ixD fa fb):=by
 obtain⟨t,h1,h2⟩:=ha;obtain⟨u,k1,k2⟩:=hb;refine⟨tOp (rIx C.K) t u,λ i=>by rw[<-C.hK i];exact aEt aJw (h1 i) (k1 i) hp,λ τ σ H ρ lab Q R W=>?_⟩;refine h2 τ σ H ρ lab _ R (W.bd.imp λ d _ w x H1 s1 r1=>?_);refine k2 τ σ H1 ρ lab _ (R.up s1) (w.bd.imp λ e _ w y H2 s2 r2=>?_);obtain⟨z,ez,w⟩:=w.okD;have hi:imm e=true:=by
  unfold ixD at ez;split at ez<;>first|rfl|cases ez
 refine aKs (fpM m1 lab H) x y d e H2 Q z (r1.up s2) (r2.imm hi) ez λ v H' s r=>w v H' ((s1.trans s2).trans s) (r.wk λ p o _ q=>?_)
 rcases q with q|q
 ·exact .inl ((s1.trans s2).free q)
 ·exact q
theorem lY(hm:C.mg "len"=none)(ha:SA C m [a] ga)(he:∀i,starEach [a] (C.X i).env=[(false,eval a (C.X i).env)]:=by intro _;rfl)(hg:∀i,Gl (C.X i) "len":=by intro _;rfl):SE C (some []) (.Call (.Name "len" p) [a] [] pos) (opA j6 ga):=
 iT (pH (λ i=>by have h:=zL (X:=C.X i);rw[C.hK i]at h;exact h) aKJ hg hm PySem.boot_len ha (by decide) (by decide) he) λ _ _ h=>tO aH9 h
theorem aEZ(hm:C.mg "all"=none)(ha:SA C m [a] ga)(he:∀i,starEach [a] (C.X i).env=[(false,eval a (C.X i).env)]:=by intro _;rfl)(hg:∀i,Gl (C.X i) "all":=by intro _;rfl)(hv:bootBuiltins "all"=some (.builtin "all"):=by decide+kernel):SE C (some []) (.Call (.Name "all" p) [a] [] pos) (opA (rD λ bs=>bs.all id) ga):=
 iT (pH (λ i=>aGI (C.calm i)) aKK hg hm hv ha (by decide) (by decide) he) λ _ _ h=>tO aHa h
theorem aC3(hm:C.mg "min"=none)(ha:SA C m [a,b] ga)(he:∀i,starEach [a,b] (C.X i).env=(false,eval a (C.X i).env)::starEach [b] (C.X i).env:=by intro _;rfl)(hpl:∀i,(backTo pos (starEach [b] (C.X i).env)).any (·.1)=false:=by intro _;rfl)(hg:∀i,Gl (C.X i) "min":=by intro _;rfl)(hv:bootBuiltins "min"=some (.builtin "min"):=by decide+kernel):SE C (some []) (.Call (.Name "min" p) [a,b] [] pos) (opA (mmD λ i j=>if j<i then j else i) ga):=
 iT (pH (λ i=>aDr (C.calm i)) aI5 hg hm hv ha (by decide) (by decide) he hpl) λ _ _ h=>tO aFd h
theorem aG8(hm:C.mg "max"=none)(ha:SA C m [a,b] ga)(he:∀i,starEach [a,b] (C.X i).env=(false,eval a (C.X i).env)::starEach [b] (C.X i).env:=by intro _;rfl)(hpl:∀i,(backTo pos (starEach [b] (C.X i).env)).any (·.1)=false:=by intro _;rfl)(hg:∀i,Gl (C.X i) "max":=by intro _;rfl)(hv:bootBuiltins "max"=some (.builtin "max"):=by decide+kernel):SE C (some []) (.Call (.Name "max" p) [a,b] [] pos) (opA (mmD λ i j=>if j>i then j else i) ga):=
 iT (pH (λ i=>aDs (C.calm i)) aI5 hg hm hv ha (by decide) (by decide) he hpl) λ _ _ h=>tO aFd h
theorem jb(hm:C.mg "tuple"=none)(ha:SA C m [a] ga)(he:∀i,starEach [a] (C.X i).env=[(false,eval a (C.X i).env)]:=by intro _;rfl)(hg:∀i,Gl (C.X i) "tuple":=by intro _;rfl)(hv:bootBuiltins "tuple"=some (.type "tuple"):=by decide+kernel):SE C m (.Call (.Name "tuple" p) [a] [] pos) (opA dj ga):=
 aEY (λ i=>by have h:=wA (X:=C.X i);rw[C.hK i]at h;exact h) aGC hg hm hv ha (by decide) (by decide) he
theorem aIt{K:PySem.W.Frag}{a:Addr}(hO:Only H)(h:SqL K H a (ns.map V.int)):oG K H a ns:=by
 rcases h with (h|⟨o,h⟩)|h
 ·rcases hO a with z|⟨o,xs,z⟩
  ·rw[h]at z;cases z
  ·rw[h]at z;cases z
 ·exact .inl ⟨o,h⟩
 ·exact .inr h
end
section
variable{C:Ct}{pos apos cpos p:Pos}{e tg:Expr}{fe:En->Rs D}{fg:D->En->Rs En}{i:Nat}{x:Str}{m:Mode}{ks:List Nat}
end
section
variable{K:PySem.W.Frag}
end
section
variable{C:Ct}{pos p:Pos}{a:Expr}{ga:En->Rs (List D)}{m:Mode}
end
section
variable{C:Ct}{pos:Pos}{a b:Expr}{fa fb:En->Rs D}{m1 m2:Mode}
end
abbrev ctL(P:Program)(w:World)(K:PySem.W.Frag)(mg:Str->Option Value)(base:Heap)(N:List Str)(q:Str)(sc:Scope)(cl:List (Str×Addr))(f:Addr)(cdv:Value)(A:Around)(outer:List Env)(s:Shared)(H:Hp)(E:XK)(k:Nat)(hr:dg k (A.deeper (PySem.W.envX q sc s.heap.objs.size f cdv cl))):Ct where
 ι:=Unit
 X:=λ _=>cxL P w K mg base N q sc cl f cdv A outer s H E
 prog:=P
 w:=w
 K:=K
 mg:=mg
 base:=base
 k:=k
 G:=⟨H,E,aq mg⟩
 cx:=λ _=>⟨rfl,rfl,rfl,rfl,rfl⟩
 calm:=λ _=>rfl
 room:=λ _=>hr
 own:=λ _=>dB.own dB.ofL
 pass:=λ _=>dB.pass dB.ofL
 dOk:=true
 dcx:=λ _ _=>dB.ofL
def shS:Slot->Slot
 | .no=>.no
 | .sh d=>.sh d
 | .nw d=>.sh d
 | .ow d=>.sh d
 | .oz d=>.sh d
 | .o2 l=>.sh (.lst (l.map .lst))
theorem eF.shut{K:PySem.W.Frag}{H:Hp}{lab:Lab}{i:Nat}{v:V}{x:Slot}(h:eF K H lab i v x):eF K H (λ _=>(0,0)) i v (shS x):=by
 cases x with
 |no=>exact trivial
 |sh d=>exact Rp.wk (λ _ _ _ _=>Nat.zero_le _) h
 |nw d=>exact Rp.wk (λ _ _ _ _=>Nat.zero_le _) h
 |ow d=>exact Rp.wk (λ _ _ _ _=>Nat.zero_le _) h.1
 |oz d=>
  obtain⟨a,xs,ds,rfl,rfl,e3,e4,e5⟩:=h;exact .lst e3 (Nat.zero_le _) (Rps.wk (λ p o e z=>⟨Nat.zero_le _,λ ep=>by
   have z':(lab p).1<=1:=z;rw[ep,e4]at z';omega⟩) e5)
 |o2 l=>exact Rp.wk (λ _ _ _ _=>Nat.zero_le _) (aCh h)
theorem RR.shut{K:PySem.W.Frag}{G:Gx}{τ:List (V×D)}{ρ:En}{σ:L2.St}{H:Hp}{lab:Lab}{E:XK}{cl:Str->Addr}(R:RR K G τ ρ σ H lab):RR K ⟨H,E,cl⟩ [] (ρ.map shS) σ H (λ _=>(0,0)):=by
 refine⟨by rw[List.length_map];exact R.len,λ i s e=>?_,aU.refl H,λ p hp=>absurd rfl hp,λ q hq=>by cases hq⟩;rw[List.getElem?_map]at e;cases hr:ρ[i]? with
 |none=>rw[hr]at e;cases e
 |some x=>
  rw[hr]at e;cases e;rcases R.sl i x hr with z|⟨v,e1,e2⟩
  ·subst z;exact .inl rfl
  ·exact .inr ⟨v,e1,e2.shut⟩
def aKc(cl:Str->Addr)(H1:Hp)(r:Rs D):Sp:=λ vs H Q E=>vs=[]/\aU H1 H/\WR ⟨H,E,cl⟩ r (λ _=>∀v H',aU H H'->Q v H')
def qb(wn:Str->Option Str)(told:Str)(fe:En->Rs D):En->Rs D:=λ ρ=>match fe (ρ.map shS)with
 | .ok _=>.ok (.str told)
 | .ex c=>(match wn c with
  |some w=>.ok (.str w)
  |none=>.st)
 | .st=>.st
def aK1(P:Program)(w:World)(K:PySem.W.Frag)(mg:Str->Option Value)(N:List Str)(q:Str)(params:Arguments)(body:Expr)(scope:Scope)(k0:Nat)(told:Str)(wd:Addr->Option Str)(E:XK):TE:=λ σ H Q=>
 ∀(base:Heap) (cl:List (Str×Addr)) (f c':Addr) (ctv pm:Value) (H1:Hp),aU H H1->aAw q params body scope cl pm H1 f c' ctv->aGS base N σ scope cl->spR P w K mg base k0 told wd [.ref f] H1 Q E
section
variable{C:Ct}{m:Mode}{x pc told q:Str}{p pos lpos:Pos}{k k0 kb:Nat}{fn:Addr}{fd:FuncData}{wd:Addr->Option Str}{wn:Str->Option Str}{params:Arguments}{body:Expr}{scope:Scope}{N:List Str}{fe:En->Rs D}
theorem aBR(hF:∀base,cY C.prog C.w C.K C.mg base (CX1 C.prog C.w) k fn fd [pc] (spR C.prog C.w C.K C.mg base k0 told wd))(hr:k<=C.k)(hm:C.mg x=some (.ref fn))(hk:PySem.W.keepIn C.K (.ref fn)=true)(hb:Binds C.K fd [pc] [])
  (hL:∀i,(∃P,sJ (C.X i) P)/\(C.X i).outer=[]/\(C.X i).N=N/\(C.X i).tq=q)(S:vX scope)(hcl:C.G.cl=aq C.mg)(hwn:∀c w,wn c=some w->wd (aq C.mg c)=some w)(hkb:kb+1<=k0)
  (hbody:∀base cl f cd A outer s H E hr,SE (ctL C.prog C.w C.K C.mg base N q scope cl f cd A outer s H E kb hr) m body fe)
  (hbnd:∀cl pm c' ctv,bindArgs (PySem.W.kla_fn "<lambda>" q params body scope cl pm (.ref c') ctv) ⟨[],[]⟩=pure []:=by intro _ _ _ _;rfl)(hdef:∀i,defaultsOf params (C.X i).env=([],[]):=by intro _;rfl)
  (hfree:∀i,∀y∈scope.names,y.2= .free->(C.X i).env.kindOf y.1=some .cell\/(C.X i).env.kindOf y.1=some .free)(hdb:(x==("__debug__":Str))=false:=by decide)(hg:∀i,Gl (C.X i) x:=by intro _;rfl):
  SE C (some []) (.Call (.Name x p) [.Lambda params body scope lpos] [] pos) (qb wn told fe):=by
 refine⟨aK1 C.prog C.w C.K C.mg N q params body scope k0 told wd C.G.E,λ i=>?_,λ τ σ H ρ lab Q R W=>?_⟩
 ·obtain⟨e1,e2,e3,e4,e5⟩:=C.cx i
  obtain⟨⟨P,Lx⟩,ho,eN,eq⟩:=hL i;intro pins s σ H Q I h;refine wpAny_Call_Name_kw (m6 I (hg i) (by rw[e4];exact hm) ?_ hdb);have ha:PA (C.X i) [.Lambda params body scope lpos] _:=aa (aJR Lx (hdef i) (hfree i)) cP;refine PySem.W.callWith_K (h₀:=(C.X i).base) I.ok.mod.kin (by rw[e3];exact hk) (thn (ha pos pins s σ H (λ vs H1=>aU H H1/\∃f c' ctv,vs=[.ref f]/\aAw (C.X i).tq params body scope (L2.aq scope (C.X i).env) (((C.X i).mg "__name__").getD .none) H1 f c' ctv) I
   (λ f c' ctv H' sm l=>⟨sm,f,c',ctv,rfl,l⟩)) λ us s1 ⟨vs,H1,I1,r,sm,f,c',ctv,ev,la⟩=>⟨I1.kIn,?_⟩)
  subst ev;have hz:=h (bse (C.X i) s1 H1) (L2.aq scope (C.X i).env) f c' ctv _ H1 sm (by rw[<-eq];exact la) (by rw[<-eN];exact aKL I1 ho S (hfree i));exact aGe (CX:=CX1 (C.X i).prog (C.X i).w) I1 (by rw[e1,e2,e3,e4];exact hF _) ((C.room i).mono hr) (by rw[e3];exact hb) (C.pass i) r (by rw[e1,e2,e3,e4]at*;exact hz)
 ·intro base cl f c' ctv pm H1 sm la cp
  have R1:=R.up sm;have FL:cY C.prog C.w C.K C.mg base (CX1 C.prog C.w) (kb+1) f (PySem.W.kla_fn "<lambda>" q params body scope cl pm (.ref c') ctv) [] (aKc (aq C.mg) H1 (fe (ρ.map shS))):=by
   refine aJk la S cp (λ vs H Q E h=>⟨h.1,h.2.1⟩) λ A outer s H2 Q2 E2 hr2 hsp=>?_
   obtain⟨t,h1,h2⟩:=hbody base cl f (.ref c') A outer s H2 E2 hr2;exact⟨t,h1 (),h2 [] σ H2 _ _ Q2 (R1.up hsp.2.1).shut (hsp.2.2.imp λ d _ z v H' s' _=>z v H' s')⟩
  refine⟨f,_,_,_,_,kb+1,_,rfl,la.1,FL,hkb,λ s us _ hl=>?_,rfl,aU.refl H1,?_⟩
  ·have e:us=[]:=by
    rw[List.append_nil]at hl;exact List.length_eq_zero_iff.mp hl
   subst e;exact .of_eq (hbnd cl pm c' ctv)
  ·unfold qb at W
   cases he:fe (ρ.map shS)with
   |ok d=>rw[he]at W;exact λ v H' s'=>W (.str told) H' (sm.trans s') (.str told)
   |ex c=>
    rw[he]at W;cases hw:wn c with
    |none=>simp only[hw]at W;exact W.elim
    |some w=>
     simp only[hw]at W;exact λ H' s'=>⟨_,w,rfl,hwn c w hw,λ H'' s''=>W (.str w) H'' (sm.trans (s'.trans s'')) (.str w)⟩
   |st=>rw[he]at W;exact W.elim
end
end VL
namespace L2
open PySem PySem.Spec PyProof.Rows
def cxW(P:Program)(w:World)(K:PySem.W.Frag)(mg:Str->Option Value)(base:Heap)(N:List Str)(qual:Str)(scope:Scope)(f:Addr)(cd:Value)(A:Around)(s:Shared)(H:Hp)(Pt:Addr):Cx where
 prog:=P
 w:=w
 K:=K
 mg:=mg
 base:=base
 A:=A.deeper (envOfC qual scope s.heap.objs.size f cd)
 N:=N
 s₀:=s
 H₀:=H
 env:=envOfC qual scope s.heap.objs.size f cd
 outer:=[]
 stack:=[envOfC qual scope s.heap.objs.size f cd]
 ex:=[Pt]
 calm:=true
 fn:=λ _=>true
 pn:=[]
 xe:=λ _ _=>False
 ta:=[(Pt,PySem.W.tabObj #[])]
 tq:=qual++".<locals>."++"<lambda>"
section
variable{P:Program}{w:World}{K:PySem.W.Frag}{mg:Str->Option Value}{base:Heap}{N ps:List Str}{qual:Str}{scope:Scope}{f Pt:Addr}{cd:Value}{A:Around}{s s1:Shared}{H:Hp}{vs:List V}{us:List Value}
theorem aCF(S:ak N ps scope)(hd:A.handled=none)(e0:aAz P w K mg base A [] s H)(hl:vs.length=ps.length)(r:Vals vs us)
  (hP:s.heap.get? Pt=some (PySem.W.tabObj #[]))(hH:H Pt=none)(hb:base.get? Pt=none)
  (x:InCallC s s.heap.objs.size (bindL (envOfC qual scope s.heap.objs.size f cd).kindOf (ps.zip us) λ _=>none) (cellsFrom (s.heap.objs.size+1) scope.names []) (bindC (envOfC qual scope s.heap.objs.size f cd).kindOf (ps.zip us) λ _=>none) s1):
  Inv (cxW P w K mg base N qual scope f cd A s H Pt) [] (start N vs) H s1:=by
 have I:Inv (sr (CX1 P w) P w K mg base N qual scope f cd A [] s H λ _ _ _=>False) [] (start N vs) H s1:=qy S hd e0 hl r x;obtain⟨h1,tk,e1,hk⟩:=x.done;have hlt:=Heap.lt_size hP;have hne:∀b∈[Pt],b≠s.heap.objs.size:=λ b hb z=>by
  have e:b=Pt:=by simpa using hb
  rw[e]at z;exact absurd hlt (by rw[z];exact Nat.lt_irrefl _)
 refine⟨⟨I.ok.mod,I.ok.kind,I.ok.glob,I.ok.blt,I.ok.above,I.ok.inj,I.ok.has,I.ok.cab,I.ok.hd,I.ok.frames,I.ok.stk,λ b hb2=>⟨hne b hb2,λ y c e z=>?_⟩,I.ok.bs,I.ok.bsz,λ b o e hb'=>?_,λ b _=>λ z=>(nomatch z),I.ok.funs,I.ok.frf⟩,
  I.os,I.bare,I.base.mono (λ b z=>z) (λ b z=>(nomatch z)),I.loc,I.cell,I.free,I.freeC,I.pin,I.hok,I.len,λ p hp=>?_⟩
 ·have q:s.heap.objs.size<=c:=I.ok.cab y c rfl e
  have e2:b=Pt:=by simpa using(show b∈[Pt]from hb2)
  rw[z,e2]at q;exact absurd hlt (Nat.not_lt.mpr q)
 ·have e2:b=Pt:=by simpa using(show b∈[Pt]from hb')
  have e3:base.get? b=some o:=e;rw[e2,hb]at e3;cases e3
 ·have e2:p=(Pt,PySem.W.tabObj #[]):=by simpa using(show p∈[(Pt,PySem.W.tabObj #[])]from hp)
  subst e2;refine⟨hH,hne Pt List.mem_cons_self,λ z=>(nomatch z),λ q hq=>(nomatch hq),#[],?_,trivial,λ pos cv e=>nomatch e⟩;subst e1;exact hk _ _ hP
end
theorem aDa{P:Program}{w:World}{K:PySem.W.Frag}{mg mb:Str->Option Value}{k:Nat}{fa a c Pt:Addr}{x:Str}{s₁:Shared}{vs:List Value}{ns:List Int}{N:List Str}{oc doc pm ct dV kV:Value}{od:Option Addr}{osl:Array (Option Value)}{name qual:Str}{params:Arguments}{body:List Stmt}{scope:Scope}{an:Option Addr}
  (KX:K.In s₁.heap)(hns:s₁.heap.Ns mainGlobals mg)(hb:s₁.heap.Ns builtinsNs mb)(hbb:∀x:Str,x≠"__name__"->mb x=bootBuiltins x)(hlim:s₁.heap.NoLimit)(hg:s₁.gens=#[])
  (ha:s₁.heap.get? a=some {cls:=.type "list",data:=.seq vs.toArray})(hi:IntsAre vs ns)(hl:ns.length<=sizeLine)(hr:dg (k+1) callerA)
  (hP:s₁.heap.get? Pt=some (PySem.W.tabObj #[]))(hKP:K.lookup Pt=none)(hC:PySem.W.codeHdIn K c Pt=true)(hbl:s₁.heap.BuiltinsAt mg Pt)
  (lk:K.lookup fa=some ⟨oc,od,.func (PySem.W.fnOf name qual params body scope dV kV doc pm an (.ref c) ct),osl⟩)(hcd:PySem.W.codeIn K (.ref c) qual=true)(S:ak N [x] scope)
  (hbind:∀(s:Shared) (u:Value),BindsTo s (PySem.W.fnOf name qual params body scope dV kV doc pm an (.ref c) ct) ⟨[u],[]⟩ [(x,u)])
  (hbody:∀(base:Heap) (s:Shared) (H:Hp),dg k (callerA.deeper (envOfC qual scope s.heap.objs.size fa (.ref c)))->sJ (cxW P w K mg base N qual scope fa (.ref c) callerA s H Pt) Pt->Only H->SqL K H a (ns.map V.int)->
   ∃t,PSs (cxW P w K mg base N qual scope fa (.ref c) callerA s H Pt) body t/\t {nx:=λ _ _=>False,rt:=λ v _=>v= .bl true} (start N [.ref a]) H):
  codeAny (model P w) callerA (.call (.ref fa) ⟨[.ref a],[]⟩) (λ r s'=>r= .ok (.ret (.bool true))/\OldK s₁.heap s'.heap/\s'.os=s₁.os/\AllBare s'.gens) s₁:=by
 have rv:=wG hi;have lenV:=hi.length;have aP:a≠Pt:=λ z=>by
  rw[z,hP]at ha;have e2:=congrArg Obj.cls (Option.some.inj ha);cases e2
 have core:∀H:Hp,Only H->SqL K H a (ns.map V.int)->HOk P w H s₁.heap->(∀b,H b≠none->b=a)->(H a≠none->K.lookup a=none)->
   codeAny (model P w) callerA (.call (.ref fa) ⟨[.ref a],[]⟩) (λ r s'=>r= .ok (.ret (.bool true))/\OldK s₁.heap s'.heap/\s'.os=s₁.os/\AllBare s'.gens) s₁:=by
  intro H hO hS hok hA hK;have hPn:H Pt=none:=by
   cases q:H Pt with
   |none=>rfl
   |some u=>exact absurd (hA Pt (by rw[q];simp)).symm aP
  let B:=PySem.W.hideAll (aFj s₁.heap H) [Pt];have base_of:∀{b:Addr} {o:Obj},s₁.heap.get? b=some o->H b=none->b≠Pt->B.get? b=some o:=λ e n ne=>PySem.W.hideAll_get _ (aFi e n) (by simpa using ne)
  have noA:∀{b:Addr} {o:Obj} {es:Array DictEntry} {ep:Nat},s₁.heap.get? b=some o->o.data= .dict es ep->H b=none/\b≠Pt:=λ{b o es ep} e d=>by
   refine⟨?_,λ z=>?_⟩
   ·cases q:H b with
    |none=>rfl
    |some u=>
     have e':b=a:=hA b (by rw[q];simp);subst e';rw[ha]at e;cases e;have d':Data.seq vs.toArray _=Data.dict es ep:=d;cases d'
   ·rw[z,hP]at e
    cases e;cases d
  have nsK:∀{b:Addr} {m:Str->Option Value},s₁.heap.Ns b m->B.Ns b m:=λ{b m} ⟨o,es,ep,e,d,r⟩=>⟨o,es,ep,base_of e (noA e d).1 (noA e d).2,d,r⟩
  have hKb:K.In B:=λ b o e=>base_of (KX b o e) (by
   cases q:H b with
   |none=>rfl
   |some u=>
    have e':b=a:=hA b (by rw[q];simp);subst e';rw[hK (by rw[q];simp)]at e;cases e) (λ z=>by rw[z,hKP]at e;cases e)
  have hM:Mod K mg B:=⟨hKb,nsK hns,⟨mb,nsK hb,hbb⟩,let⟨mc,h1,h2⟩:=hlim;⟨mc,nsK h1,h2⟩⟩;have e0:aAz P w K mg B callerA [] s₁ H:=⟨rfl,hM,λ b o e=>aHH (PySem.W.of_hideAll _ e),Nat.le_of_eq ((PySem.W.hideAll_size _ _).trans (aDj _ _)),trivial,λ b hb=>absurd (show b∈([]:List Addr)from hb) (by simp),hok,.of_eq hg⟩;have gP:mainGlobals≠Pt:=by
   obtain⟨o,es,ep,e,d,_⟩:=hns;exact(noA e d).2
  have hLx:sJ (cxW P w K mg B N qual scope fa (.ref c) callerA s₁ H Pt) Pt:=by
   refine⟨⟨_,rfl⟩,List.mem_cons_self,rfl,⟨c,rfl,PySem.W.codeHd_of_K hKb hC⟩,?_,gP⟩;obtain⟨bm,o,b1,b2,b3,b4,b5,b6,b7,b8⟩:=hbl;refine⟨bm,o,b1,b2,b3,b4,base_of b5 ?_ b4,b6,b7,b8⟩;cases q:H bm with
   |none=>rfl
   |some u=>
    have e':bm=a:=hA bm (by rw[q];simp);rw[e',ha]at b5;cases b5;cases b8
  have hkind:∀y∈[x].zip [Value.ref a],scope.names.lookup y.1=some .local\/(scope.names.lookup y.1=some .cell/\((cellsFrom (s₁.heap.objs.size+1) scope.names []).lookup y.1).isSome=true):=λ⟨n,v⟩ hy=>by
   rcases S.par n (List.of_mem_zip hy).1 with q|q
   ·exact .inl q
   ·exact .inr ⟨q,PySem.W.cellsFrom_some _ _ _ (.inl q)⟩
  refine codeAny_call_function hr.depth (KX _ _ lk) rfl S.co S.gen rfl (PySem.W.codeRec_of KX hcd) (hbind s₁ (.ref a) _ _ _ _ ?_);refine wpAny_newFunctionEnv_cells S.kind hkind λ env he s1 x'=>?_
  subst he;refine⟨hlim.keeps x'.toInCall.keep,codeAny_func ?_⟩;obtain⟨t,ht,hq⟩:=hbody B s₁ H (hr.deeper _) hLx hO hS;have I:Inv (cxW P w K mg B N qual scope fa (.ref c) callerA s₁ H Pt) [] (start N [.ref a]) H s1:=aCF (ps:=[x]) (us:=[.ref a]) S hr.hd e0 rfl (.cons rfl .nil) hP hPn (PySem.W.hideAll_none _ List.mem_cons_self) x';refine wpAny_mono (ht [] s1 (start N [.ref a]) H _ I hq) (λ fl s' hs=>?_) λ e s' hs=>hs.elim
  cases fl with
  |next=>obtain⟨_,_,_,q⟩:=hs;exact q.elim
  |brk=>obtain⟨_,_,_,q⟩:=hs;exact q.elim
  |cont=>obtain⟨_,_,_,q⟩:=hs;exact q.elim
  |ret u=>
   obtain⟨v,σ',H',J,rv',q⟩:=hs;have q':v= .bl true:=q;subst q';obtain rfl:u=Value.bool true:=rv';obtain⟨_,_,_,_,ps,hps,_⟩:=J.tab (Pt,PySem.W.tabObj #[]) List.mem_cons_self;have all:∀b o,s₁.heap.get? b=some o->b≠Pt->s'.heap.get? b=some o:=λ b o e ne=>by
    cases q:H b with
    |none=>exact J.base.keep b o e q (λ z=>(nomatch z)) (by simpa[cxW]using ne)
    |some u=>
     rcases hO b with z|⟨ob,xs,z⟩
     ·rw[q]at z;cases z
     ·have z2:=J.base.frzs b ob _ z
      obtain⟨e1,_⟩:=hok b _ z;obtain⟨e2,_⟩:=J.hok b _ z2;rw[e]at e1;cases e1;exact e2
   refine⟨rfl,⟨λ b o e=>?_,λ b o e=>?_⟩,J.os,J.bare⟩
   ·by_cases hbP:b=Pt
    ·subst hbP
     rw[hP]at e;cases e;obtain⟨⟨o1,vs1,f1,f2,f3,f4⟩,_⟩:=(PySem.W.codeHd_of_K KX hC).tab hP;exact .inr (.inl ⟨⟨c,o1,vs1,f1,f2,f3,f4⟩,rfl,#[],ps,rfl,by simpa using hps⟩)
    ·exact .inl (all b o e hbP)
   ·by_cases hbP:b=Pt
    ·subst hbP;exact⟨_,hps⟩
    ·exact⟨o,all b o e hbP⟩
 cases hk:K.lookup a with
 |some o=>
  have e:=KX a o hk;rw[ha]at e;cases e;refine core (λ _=>none) (λ _=>.inl rfl) (.inr ⟨_,vs.toArray,_,hk,rfl,rfl,rfl,by rw[List.size_toArray,lenV];exact hl,by simpa using rv⟩) (λ b u z=>by have z':(none:Option HO)=some u:=z;cases z') (λ b z=>absurd rfl z) λ z=>absurd rfl z
 |none=>
  refine core (λ b=>if b=a then some (.frz {cls:=.type "list",data:=.seq vs.toArray} (.lst (ns.map V.int)))else none) (λ b=>?_) (.inl (.inr ⟨{cls:=.type "list",data:=.seq vs.toArray},if_pos rfl⟩)) (λ b u z=>?_) (λ b z=>?_) λ _=>hk
  ·by_cases hb:b=a
   ·exact .inr ⟨_,_,if_pos hb⟩
   ·exact .inl (if_neg hb)
  ·by_cases hb:b=a
   ·have z':=(if_pos hb).symm.trans z
    cases z';subst hb;exact⟨ha,by rw[List.length_map];exact hl,vs,_,rv,ha⟩
   ·have z':=(if_neg hb).symm.trans z
    cases z'
  ·by_cases hb:b=a
   ·exact hb
   ·exact absurd (if_neg hb) z
end L2
namespace VL
open PySem PySem.Spec PyProof.Rows L2
abbrev ctW(P:Program)(w:World)(K:PySem.W.Frag)(mg:Str->Option Value)(base:Heap)(N:List Str)(q:Str)(sc:Scope)(f:Addr)(cdv:Value)(A:Around)(s:Shared)(H:Hp)(Pt:Addr)(k:Nat)(hr:dg k (A.deeper (envOfC q sc s.heap.objs.size f cdv))):Ct where
 ι:=Unit
 X:=λ _=>cxW P w K mg base N q sc f cdv A s H Pt
 prog:=P
 w:=w
 K:=K
 mg:=mg
 base:=base
 k:=k
 G:=⟨H,λ _ _ _=>False,aq mg⟩
 cx:=λ _=>⟨rfl,rfl,rfl,rfl,rfl⟩
 calm:=λ _=>rfl
 room:=λ _=>hr
 own:=λ _=>λ _ _ h=>False.elim h
 pass:=λ _=>λ _ _ _ _ _ _ _ ⟨_,_,_,_,_,_,_,_,_,_,_,_,_,z⟩=>z
 dOk:=false
 dcx:=λ z=>nomatch z
theorem aFU{P:Program}{w:World}{K:PySem.W.Frag}{mg:Str->Option Value}{base:Heap}{N:List Str}{q:Str}{sc:Scope}{fa a Pt:Addr}{cdv:Value}{A:Around}{s:Shared}{H:Hp}{k:Nat}{hr:dg k (A.deeper (envOfC q sc s.heap.objs.size fa cdv))}{body:List Stmt}{f:En->Ou}{ns:List Int}
  (hb:SSs (ctW P w K mg base N q sc fa cdv A s H Pt k hr) body f)(e:eH N.length f [.scr ns]= .ok (.bl true))(r:Rps K (λ _=>True) H [.ref a] [.scr ns]):
  ∃t,PSs (cxW P w K mg base N q sc fa cdv A s H Pt) body t/\t {nx:=λ _ _=>False,rt:=λ v _=>v= .bl true} (start N [.ref a]) H:=by
 obtain⟨t,h1,h2⟩:=hb;refine⟨t,h1 (),h2 [] _ H _ _ _ (RR.start r) ?_⟩;unfold eH at e;cases ef:f (bA N.length [.scr ns])with
 |nx ρ=>rw[ef]at e;cases e
 |rt d=>rw[ef]at e;cases e;exact λ v H' s r=>r.bl_inv
 |ex c=>rw[ef]at e;cases e
 |bk ρ=>rw[ef]at e;cases e
 |ct ρ=>rw[ef]at e;cases e
 |st=>rw[ef]at e;cases e
theorem aB1{P:Program}{w:World}{K:PySem.W.Frag}{mg:Str->Option Value}{base:Heap}{x q n0 n1 n2 few cn pe told:Str}{st:Stmt}{f fc C':Addr}{fd fdc:FuncData}{kc k0:Nat}{wd:Addr->Option Str}{p1 p2 p3 p4 p5 p6 p7 p8 p9 p10 p11 p12 p13 p14 p15 p16:Pos}{j1:Nat}
  (F:L2.Fun K x q st f fd)(S:ak [n0,n1,n2] [n0] (aF st))(hst:cj st=[.Assign [.Name n1 p1] (.Constant (.str told) j1 p2) p3,.Try [.Expr (.Call (.Name n0 p4) [] [] p5) p6] [.ExceptHandler (some (.Name few p7)) (some n2) [.Assign [.Name n1 p8] (.Call (.Name cn p9) [.Name n2 p10] [] p11) p12] p13] [] [] p14,.Return (some (.Name n1 p15)) p16])
  (l0:(aF st).names.lookup n0=some .local)(l1:(aF st).names.lookup n1=some .local)(l2:(aF st).names.lookup n2=some .local)(g1:(aF st).names.lookup few=some .globalImplicit)(g2:(aF st).names.lookup cn=some .globalImplicit)
  (hm:mg few=some (.ref C'))(hC':gk K C')(FC:FnH P w K mg base kc fc fdc [pe] (spW wd))(hmc:mg cn=some (.ref fc))(hkc:PySem.W.keepIn K (.ref fc)=true)(hbc:Binds K fdc [pe] [])(hkk:kc<=k0)(hw:∀C w,wd C=some w->gk K C/\rC K C C'=true)
  (d1:(few==("__debug__":Str))=false:=by decide)(d2:(cn==("__debug__":Str))=false:=by decide)(d3:(n0==("__debug__":Str))=false:=by decide)(d4:(n1==("__debug__":Str))=false:=by decide)(d5:(n2==("__debug__":Str))=false:=by decide)
  (d6:(n0==("__classdict__":Str))=false:=by decide)(d7:(n1==("__classdict__":Str))=false:=by decide)(d8:(n2==("__classdict__":Str))=false:=by decide):
  cY P w K mg base (CX1 P w) (k0+1) f fd [n0] (spR P w K mg base k0 told wd):=by
 refine F.okX S (λ vs H Q E ⟨_,_,_,_,_,_,_,e,_⟩=>by rw[e];rfl) λ cdv A outer s H vs Q E hr hsp=>?_
 rw[hst];exact aE7 (X:=sr (CX1 P w) P w K mg base [n0,n1,n2] q (aF st) f cdv A outer s H E) dB.of rfl rfl S.nd l0 l1 l2 (λ _=>rfl) hm g1 hC' FC g2 hmc hkc hbc hr hkk hw hsp d1 d2 d3 d4 d5 d6 d7 d8
end VL
namespace L2
open PySem PySem.Spec PyProof.Rows
theorem fQ{X:Cx}{n0:Str}{e:Expr}{c:V}{p p' pos:Pos}(hN:X.N[0]? =some n0)(hv:X.env.scope.names.lookup n0=some .local)(hg:Gl X "isinstance")(hm:X.mg "isinstance"=none)(hc:PE X e (tC c))(hse:starEach [e] X.env=(false,eval e X.env)::starEach [] X.env:=by rfl)
  (hpl:(backTo pos (starEach [e] X.env)).any (·.1)=false:=by rfl)(d:(n0==("__debug__":Str))=false:=by decide)(d':(n0==("__classdict__":Str))=false:=by decide):PE X (.Call (.Name "isinstance" p) [.Name n0 p',e] [] pos) (aBK X.K c):=
 lz aDu hg hm rfl (aa (fY hN (.inl hv) d d') (aa hc cP hse)) (hpl:=hpl)
section
variable{P:Program}{w:World}{K:PySem.W.Frag}{mg:Str->Option Value}{base:Heap}{x q n0 n1 n2 odd:Str}{st:Stmt}{f:Addr}{fd:FuncData}{k:Nat}{wd:Addr->Option Str}{c1 c2:V}{k1 k2 k3 k4:List V}{l1 l2:List Str}{a1 a2:Expr}{as1 as2 e1 e2 e3 e4 w1 w2:List Expr}{kw1 kw2:List Keyword}
 {p1 p2 p3 p4 p5 p6 p7 p8 p9 p10 p11 p12 p13 p14 p15 p16 p17 p18 p19 p20 p21 p22 p23 p24 p25 p26 p27 p28 p29 p30 p31 p32 p33 p34 p35 p36 p37 p38 p39 p40:Pos}{q1 q2 q3 q4 q5 q6 q7:Pos}{j1 j2 j3 j4 j5:Nat}
theorem aGD(F:Fun K x q st f fd)(S:ak [n0,n1,n2] [n0] (aF st))
  (hst:cj st=[.If (.BoolOp .Or [.UnaryOp .Not (.Call a1 as1 kw1 p1) p3,.UnaryOp .Not (.Call a2 as2 kw2 p2) p4] p5) [.Return (some (.Constant (.str odd) j1 p6)) p7] [] p8,
   .Assign [.Name n1 p9] (.List e1 p10) p11,.Assign [.Name n1 p12] (.BinOp (.Name n1 p13) .Add (.List e2 p14) p15) p16,.Assign [.Name n1 p17] (.BinOp (.Name n1 p18) .Add (.List e3 p19) p22) p23,.Assign [.Name n1 p24] (.BinOp (.Name n1 p25) .Add (.List e4 p26) p27) p28,
   .If (.Compare (.Call (.Attribute (.Name n1 p29) "count" p20) [.Constant (.bool true) j2 p32] [] p21) [.NotEq] [.Constant (.int 1) j3 p33] p34) [.Return (some (.Constant (.str odd) j4 p35)) p36] [] p37,
   .Assign [.Name n2 p38] (.List w1 p39) p40,.Return (some (.Subscript (.BinOp (.Name n2 q1) .Add (.List w2 q2) q3) (.Call (.Attribute (.Name n1 q4) "index" p30) [.Constant (.bool true) j5 q5] [] p31) q6)) q7])
  (m0:(aF st).names.lookup n0=some .local)(m1:(aF st).names.lookup n1=some .local)(m2:(aF st).names.lookup n2=some .local)
  (h:∀(cdv:Value) (A:Around) (outer:List Env) (s:Shared) (H:Hp),PE (cxH P w K mg base [n0,n1,n2] q (aF st) f cdv A outer s H) (.Call a1 as1 kw1 p1) (aBK K c1)/\PE (cxH P w K mg base [n0,n1,n2] q (aF st) f cdv A outer s H) (.Call a2 as2 kw2 p2) (aBK K c2)/\
   PA (cxH P w K mg base [n0,n1,n2] q (aF st) f cdv A outer s H) e1 (lK K k1)/\PA (cxH P w K mg base [n0,n1,n2] q (aF st) f cdv A outer s H) e2 (lK K k2)/\PA (cxH P w K mg base [n0,n1,n2] q (aF st) f cdv A outer s H) e3 (lK K k3)/\
   PA (cxH P w K mg base [n0,n1,n2] q (aF st) f cdv A outer s H) e4 (lK K k4)/\PA (cxH P w K mg base [n0,n1,n2] q (aF st) f cdv A outer s H) w1 (wI l1)/\PA (cxH P w K mg base [n0,n1,n2] q (aF st) f cdv A outer s H) w2 (wI l2))
  (hl1:(p20.endLine==p21.line)=true)(hl2:(p30.endLine==p31.line)=true)(hz:(l1++l2).length<=100)(hw:∀C w,wd C=some w->Wd K c1 c2 [k1,k2,k3,k4] (l1++l2) C w)
  (d0:(n0==("__debug__":Str))=false:=by decide)(d1:(n1==("__debug__":Str))=false:=by decide)(d2:(n2==("__debug__":Str))=false:=by decide)
  (f0:(n0==("__classdict__":Str))=false:=by decide)(f1:(n1==("__classdict__":Str))=false:=by decide)(f2:(n2==("__classdict__":Str))=false:=by decide):
  FnH P w K mg base 1 f fd [n0] (spW wd):=by
 refine F.okH (k:=0) S (λ vs H Q E ⟨_,_,_,e,_⟩=>by rw[e];rfl) λ cdv A outer s H vs Q E hr hsp=>?_
 obtain⟨g1,g2,g3,g4,g5,g6,g7,g8⟩:=h cdv A outer s H;rw[hst];exact aCO (X:=cxH P w K mg base [n0,n1,n2] q (aF st) f cdv A outer s H) rfl S.nd m0 m1 m2 (by have:=hr.un;show(A.deeper _).units+64<cLine;omega) g1 g2 g3 g4 g5 g6 g7 g8 hl1 hl2 hz hsp hw d0 d1 d2 f0 f1 f2
end
structure aDG(P:Program)(w:World)(K:PySem.W.Frag)(mg:Str->Option Value)(fa Pt:Addr)(k n:Nat):Prop where
 ex:∃(x name qual:Str) (params:Arguments) (body:List Stmt) (scope:Scope) (dV kV doc pm ct oc:Value) (an od:Option Addr) (c:Addr) (osl:Array (Option Value)) (N:List Str),
  K.lookup Pt=none/\PySem.W.codeHdIn K c Pt=true/\K.lookup fa=some ⟨oc,od,.func (PySem.W.fnOf name qual params body scope dV kV doc pm an (.ref c) ct),osl⟩/\PySem.W.codeIn K (.ref c) qual=true/\ak N [x] scope/\
  (∀(s:Shared) (u:Value),BindsTo s (PySem.W.fnOf name qual params body scope dV kV doc pm an (.ref c) ct) ⟨[u],[]⟩ [(x,u)])/\
  ∀(a:Addr) (ns:List Int),ns.length<=n->∀(base:Heap) (s:Shared) (H:Hp),dg k (callerA.deeper (envOfC qual scope s.heap.objs.size fa (.ref c)))->sJ (cxW P w K mg base N qual scope fa (.ref c) callerA s H Pt) Pt->Only H->SqL K H a (ns.map V.int)->
   ∃t,PSs (cxW P w K mg base N qual scope fa (.ref c) callerA s H Pt) body t/\t {nx:=λ _ _=>False,rt:=λ v _=>v= .bl true} (start N [.ref a]) H
theorem aEB{l:PySem.W.OpenLaw}{n k:Nat}{q:Program}{loose:List Str}{XP:(Str->Option Value)->Heap->Prop}{YP:World->Heap->Prop}{d:DefRec}{K:Params->PySem.W.Frag}{Pt:Addr}
  (hn:l.most=some n)(hn2:n<=sizeLine)(hdf:d.params.defaults=[])(hr:dg (k+1) callerA)
  (hY:∀(w:World) (h:Heap),YP w h->(K w.params).In h/\h.get? Pt=some (PySem.W.tabObj #[]))
  (F:∀(w:World) (mg:Str->Option Value) (fa:Addr) (h:Heap),(K w.params).In h->h.Ns mainGlobals mg->mg d.name=some (.ref fa)->aDG l.prog w (K w.params) mg fa Pt k n):
  PySem.W.WalkO q loose XP YP l.row.toRowW d [] (λ f vs=>PySem.call f vs):=by
 refine Att.aAq hn hdf λ w s₀ s₁ mg mb fa o pm cd doc a vs ns G Y ho hd hcd hmg hobj hints hlen hg=>?_
 obtain⟨KX,hP⟩:=hY w _ Y;obtain⟨x,name,qual,params,body,scope,dV,kV,doc,pm,ct,oc,an,od,c,osl,N,h1,h2,h3,h4,h5,h6,h7⟩:=(F w mg fa _ KX G.T.g hmg).ex;have hbl:s₁.heap.BuiltinsAt mg Pt:=by
  obtain⟨bm,ob,b1,b2,b3,b4,b5,b6⟩:=G.T.bmain;refine⟨bm,ob,b1,b2,λ z=>?_,λ z=>?_,b3,b4,b5,b6⟩
  ·obtain⟨o,es,ep,e,hd,_⟩:=G.T.g
   rw[z,e]at b3;cases b3;rw[hd]at b6;cases b6
  ·rw[z,hP]at b3;cases b3;cases b4
 exact aDa KX G.T.g G.T.b G.T.builtins G.T.nolimit hg hobj hints (Nat.le_trans hlen hn2) hr hP h1 h2 hbl h3 h4 h5 h6 λ base s H r1 r2 r3 r4=>h7 a ns hlen base s H r1 r2 r3 r4
def clB(K:PySem.W.Frag)(few C:Addr):Bool:=PySem.W.excIn K C [.type "ValueError",.type "Exception",.type "BaseException",.type "object"] "ValueError.__new__"&&decide (PySem.W.findIn K (.ref C) "__class__"=some (some (.builtin "object.__class__")))&&decide (PySem.W.findIn K (.ref C) "__getattribute__"=some (some (.builtin "BaseException.__getattribute__")))&&decide (PySem.W.findIn K (.ref C) "__getattr__"=some none)&&decide (PySem.W.kitOne K (.ref C) (.ref few)=some true)&&decide (PySem.W.kitOne K (.ref C) (.type "ValueError")=some true)&&rC K C few
def aCN(K:PySem.W.Frag)(few:Addr)(cs:List Addr):Bool:=(List.range cs.length).all λ j=>match cs[j]? with
 |none=>true
 |some C=>clB K few C&&(List.range cs.length).all λ i=>match cs[i]? with
  |none=>true
  |some c=>decide (PySem.W.kitOne K (.ref C) (.ref c)=some (i==j))
theorem lookup_at{C:Addr}{w:Str}:∀{cs:List Addr} {ws:List Str},(cs.zip ws).lookup C=some w->∃j:Nat,cs[j]? =some C/\ws[j]? =some w
 |[],_,h=>by cases h
 |_::_,[],h=>by cases h
 |c::cs,x::ws,h=>by
  rw[List.zip_cons_cons,List.lookup_cons]at h;by_cases e:C==c
  ·simp only[e]at h
   cases h;exact⟨0,by rw[eq_of_beq e];rfl,rfl⟩
  ·simp only[e]at h
   obtain⟨j,h1,h2⟩:=lookup_at h;exact⟨j+1,h1,h2⟩
theorem aIF{K:PySem.W.Frag}{few c0 c1 c2 c3 c4 c5 c6 c7 c8 c9 c10 c11:Addr}{ws:List Str}(h:aCN K few [c0,c1,c2,c3,c4,c5,c6,c7,c8,c9,c10,c11]=true){C:Addr}{w:Str}(hw:([c0,c1,c2,c3,c4,c5,c6,c7,c8,c9,c10,c11].zip ws).lookup C=some w):
  Wd K (.ref few) (.ty "ValueError") [[.ref c0,.ref c1,.ref c2],[.ref c3,.ref c4,.ref c5],[.ref c6,.ref c7,.ref c8],[.ref c9,.ref c10,.ref c11]] ws C w/\gk K C/\rC K C few=true:=by
 obtain⟨j,h1,h2⟩:=lookup_at hw;have hj:j<12:=(List.getElem?_eq_some_iff.mp h1).1;have h3:=List.all_eq_true.mp h j (List.mem_range.mpr hj);simp only[h1,Bool.and_eq_true]at h3;obtain⟨h4,h5⟩:=h3;have F:∀(i:Nat) c,[c0,c1,c2,c3,c4,c5,c6,c7,c8,c9,c10,c11][i]? =some c->Kt K C (.ref c) (i==j):=λ i c e=>by
  have h6:=List.all_eq_true.mp h5 i (List.mem_range.mpr (List.getElem?_eq_some_iff.mp e).1);simp only[e]at h6;exact⟨_,rfl,of_decide_eq_true h6⟩
 unfold clB at h4;simp only[Bool.and_eq_true,decide_eq_true_eq]at h4;obtain⟨⟨⟨⟨⟨⟨q1,q2⟩,q3⟩,q4⟩,q5⟩,q6⟩,q7⟩:=h4;refine⟨⟨⟨q1,q2,q3,q4⟩,⟨_,rfl,q5⟩,⟨_,rfl,q6⟩,[0==j,1==j,2==j],[3==j,4==j,5==j],[6==j,7==j,8==j],[9==j,10==j,11==j],j,_,_,_,_,rfl,.cons (F 0 c0 rfl) (.cons (F 1 c1 rfl) (.cons (F 2 c2 rfl) .nil)),.cons (F 3 c3 rfl) (.cons (F 4 c4 rfl) (.cons (F 5 c5 rfl) .nil)),
  .cons (F 6 c6 rfl) (.cons (F 7 c7 rfl) (.cons (F 8 c8 rfl) .nil)),.cons (F 9 c9 rfl) (.cons (F 10 c10 rfl) (.cons (F 11 c11 rfl) .nil)),by simp,?_,?_,?_,h2⟩,q1,q7⟩
 ·exact(by decide:∀j,j<12->([0==j,1==j,2==j]++[3==j,4==j,5==j]++[6==j,7==j,8==j]++[9==j,10==j,11==j]).count true=1) j hj
 ·exact(by decide:∀j,j<12->([0==j,1==j,2==j]++[3==j,4==j,5==j]++[6==j,7==j,8==j]++[9==j,10==j,11==j])[j]? =some true) j hj
 ·exact λ m hm=>(by decide:∀j,j<12->∀m,m<j->([0==j,1==j,2==j]++[3==j,4==j,5==j]++[6==j,7==j,8==j]++[9==j,10==j,11==j])[m]? =some false) j hj m hm
theorem uq{scope sc:Scope}(h:∀y∈scope.names,y.2= .free->sc.names.lookup y.1=some .cell\/sc.names.lookup y.1=some .free):∀y∈scope.names,y.2= .free->sc.names.lookup y.1=some .cell\/sc.names.lookup y.1=some .free:=h
theorem aAo{K:PySem.W.Frag}{few:Addr}{cs:List Addr}(h:aCN K few cs=true){i j:Nat}{C c:Addr}(hj:cs[j]? =some C)(hi:cs[i]? =some c):PySem.W.kitOne K (.ref C) (.ref c)=some (i==j):=by
 have h3:=List.all_eq_true.mp h j (List.mem_range.mpr (List.getElem?_eq_some_iff.mp hj).1);simp only[hj,Bool.and_eq_true]at h3;have h6:=List.all_eq_true.mp h3.2 i (List.mem_range.mpr (List.getElem?_eq_some_iff.mp hi).1);simp only[hi]at h6;exact of_decide_eq_true h6
theorem aHo{K:PySem.W.Frag}{few:Addr}{cs:List Addr}(h:aCN K few cs=true){i j:Nat}{C:Addr}(hj:cs[j]? =some C)(hi:cs[i]? =some C):i=j:=by
 have a:=aAo h hj hi;have b:=aAo h hj hj;rw[a]at b;have e:=Option.some.inj b;rw[beq_self_eq_true]at e;exact eq_of_beq e
theorem ug{C:Addr}{w:Str}:∀{cs:List Addr} {ws:List Str} {j:Nat},(∀i:Nat,cs[i]? =some C->i=j)->cs[j]? =some C->ws[j]? =some w->(cs.zip ws).lookup C=some w
 |[],_,_,_,h,_=>by simp at h
 |_::_,[],_,_,_,h=>by simp at h
 |c::cs,x::ws,j,u,h1,h2=>by
  rw[List.zip_cons_cons,List.lookup_cons];by_cases e:C==c
  ·have e0:0=j:=u 0 (by rw[eq_of_beq e];rfl)
   subst e0;simp only[e];simpa using h2
  ·simp only[e]
   cases j with
   |zero=>
    have e1:c=C:=by simpa using h1
    rw[e1]at e;simp at e
   |succ j=>exact ug (j:=j) (λ i hi=>Nat.succ.inj (u (i+1) hi)) h1 h2
theorem aKY{K:PySem.W.Frag}{few:Addr}{cs:List Addr}{ws:List Str}(h:aCN K few cs=true){j:Nat}{C:Addr}{w:Str}(h1:cs[j]? =some C)(h2:ws[j]? =some w):(cs.zip ws).lookup C=some w:=ug (λ i hi=>aHo h h1 hi) h1 h2
end L2
namespace VL
open PySem PySem.Spec PyProof.Rows L2
theorem aKX{K:PySem.W.Frag}{mg:Str->Option Value}{few c0 c1 c2 c3 c4 c5 c6 c7 c8 c9 c10 c11:Addr}{ws:List Str}{ns:List Str}(h:aCN K few [c0,c1,c2,c3,c4,c5,c6,c7,c8,c9,c10,c11]=true)
  (hl:ns.map (VL.aq mg)=[c0,c1,c2,c3,c4,c5,c6,c7,c8,c9,c10,c11]):∀c w,(ns.zip ws).lookup c=some w->([c0,c1,c2,c3,c4,c5,c6,c7,c8,c9,c10,c11].zip ws).lookup (VL.aq mg c)=some w:=λ c w e=>by
 have go:∀(ns:List Str) (ws:List Str),(ns.zip ws).lookup c=some w->∃j:Nat,ns[j]? =some c/\ws[j]? =some w:=by
  intro ns;induction ns with
  |nil=>intro ws h;cases h
  |cons x ns ih=>
   intro ws h;cases ws with
   |nil=>cases h
   |cons y ws=>
    rw[List.zip_cons_cons,List.lookup_cons]at h;by_cases e:c==x
    ·simp only[e]at h
     cases h;exact⟨0,by rw[eq_of_beq e];rfl,rfl⟩
    ·simp only[e]at h
     obtain⟨j,h1,h2⟩:=ih ws h;exact⟨j+1,h1,h2⟩
 obtain⟨j,h1,h2⟩:=go ns ws e;refine aKY h (j:=j) ?_ h2;rw[<-hl,List.getElem?_map,h1];rfl
section
variable{O:PyProof.Rows.KeyOrd}{kz:Nat->O.α}{n:Nat}
def Wr{α:Type}(kz:Nat->O.α)(n:Nat):PySem.W.KasT α->(α->Prop)->Prop
 | .ret a,Q=>Q a
 | .ask i j k,Q=>i<n/\j<n/\Wr kz n (k (O.blt (kz i) (kz j))) Q
theorem Wr.bindI:∀{t:PySem.W.KasT α},Wr kz n t (λ a=>Wr kz n (g a) Q)->Wr kz n (t.bind g) Q
 | .ret _,h=>h
 | .ask _ _ _,⟨h1,h2,h3⟩=>⟨h1,h2,Wr.bindI h3⟩
abbrev Pm(n:Nat)(p:Array Nat):Prop:=p.Perm (List.range n).toArray
theorem Pm.sz(h:Pm n p):p.size=n:=by
 have:=h.size_eq
 simpa using this
theorem Pm.in(h:Pm n p)(hi:i<n):p.getD i 0<n:=by
 have hs:i<p.size:=by rw[h.sz];exact hi
 have e:p.getD i 0=p[i]:=by simp[Array.getD,hs]
 rw[e];have hm:p[i]∈(List.range n).toArray:=h.mem_iff.mp (Array.getElem_mem hs);simpa using hm
def Kp(kz:Nat->O.α)(p:Array Nat)(i:Nat):O.α:=kz (p.getD i 0)
theorem aA5(h:p[i]? =q[j]?):Kp kz p i=Kp kz q j:=by
 unfold Kp;congr 1;rw[Array.getD_eq_getD_getElem?,Array.getD_eq_getD_getElem?,h]
theorem aFZ(hs:c<p.size)(hd:d<=c)(k:Nat):
  Kp kz (bubble p c d) k=if k=c-d then Kp kz p c else if c-d<k/\k<=c then Kp kz p (k-1)else Kp kz p k:=by
 have e:=getElem?_bubble hs d hd k;by_cases u1:k=c-d
 ·rw[if_pos u1]at e ⊢
  exact aA5 e
 ·rw[if_neg u1]at e ⊢
  by_cases u2:c-d<k/\k<=c
  ·rw[if_pos u2]at e ⊢
   exact aA5 e
  ·rw[if_neg u2]at e ⊢
   exact aA5 e
theorem aBy(hj:j<=p.size)(k:Nat):Kp kz (PySem.W.kas_rev p i j) k=if i<=k/\k<j then Kp kz p (i+j-1-k)else Kp kz p k:=by
 unfold PySem.W.kas_rev;have e:=getElem?_mirror_all (i:=i) hj k;by_cases u1:i<=k/\k<j
 ·rw[if_pos u1]at e ⊢
  exact aA5 e
 ·rw[if_neg u1]at e ⊢
  exact aA5 e
theorem m8(hj:j<=p.size)(he:∀k,i<=k->k<j->Kp kz p k=Kp kz p (j-1))(k:Nat):Kp kz (PySem.W.kas_rev p i j) k=Kp kz p k:=by
 rw[aBy hj];split
 ·rw[he _ (by lia) (by lia),he k (by lia) (by lia)]
 ·rfl
def Up(kz:Nat->O.α)(p:Array Nat)(k:Nat):Prop:=∀i j,i<=j->j<k->O.kle (Kp kz p i) (Kp kz p j)
def Dn(kz:Nat->O.α)(p:Array Nat)(k:Nat):Prop:=∀i j,i<=j->j<k->O.kle (Kp kz p j) (Kp kz p i)
theorem uP(h:Pm n p)(i j:Nat):Pm n (PySem.W.kas_rev p i j):=(mirror_perm _ _ _ _).trans h
theorem Up.succ(h:Up kz p m)(hm:1<=m)(hl:O.kle (Kp kz p (m-1)) (Kp kz p m)):Up kz p (m+1):=by
 intro i j hij hj;by_cases q:j<m
 ·exact h i j hij q
 ·have q':j=m:=by lia
  subst q';by_cases q2:i=j
  ·rw[q2];exact KeyOrd.kle_refl _
  ·exact KeyOrd.kle_trans (h i (j-1) (by lia) (by lia)) hl
theorem Dn.succ(h:Dn kz p m)(hm:1<=m)(hl:O.kle (Kp kz p m) (Kp kz p (m-1))):Dn kz p (m+1):=by
 intro i j hij hj;by_cases q:j<m
 ·exact h i j hij q
 ·have q':j=m:=by lia
  subst q';by_cases q2:i=j
  ·rw[q2];exact KeyOrd.kle_refl _
  ·exact KeyOrd.kle_trans hl (h i (j-1) (by lia) (by lia))
theorem aBA(hp:Pm n p)(hr:r<=n):∀(f m:Nat),1<=m->m+f=r->Up kz p m->
  (∀m',1<=m'->m'<=r->Up kz p m'->(m'=r\/O.klt (Kp kz p m') (Kp kz p (m'-1)))->Q m')->Wr kz n (PySem.W.kas_asc p f m) Q
 |0,m,h1,hm,hu,k=>k m h1 (by lia) hu (.inl (by lia))
 |f+1,m,h1,hm,hu,k=>by
  refine⟨hp.in (by lia),hp.in (by lia),?_⟩;have hd:O.blt (kz (p.getD m 0)) (kz (p.getD (m-1) 0))=O.blt (Kp kz p m) (Kp kz p (m-1)):=rfl;rw[hd];cases hb:O.blt (Kp kz p m) (Kp kz p (m-1))with
  |true=>exact k m h1 (by lia) hu (.inr hb)
  |false=>exact aBA hp hr f (m+1) (by lia) (by lia) (hu.succ h1 hb) k
theorem tD(hr:r<=n):∀(f:Nat) (p:Array Nat) (m e:Nat),Pm n p->1<=m->m+f=r->Dn kz p m->e+1<=m->(∀i,m-(e+1)<=i->i<m->Kp kz p i=Kp kz p (m-1))->
  (∀p' m' e',Pm n p'->1<=m'->m'<=r->Dn kz p' m'->e'+1<=m'->(∀i,m'-(e'+1)<=i->i<m'->Kp kz p' i=Kp kz p' (m'-1))->Q (p',m',e'))->Wr kz n (PySem.W.kas_desc f p m e) Q
 |0,p,m,e,hp,h1,hm,hd,he,hq,k=>k p m e hp h1 (by lia) hd he hq
 |f+1,p,m,e,hp,h1,hm,hd,he,hq,k=>by
  have hsz:m<=p.size:=by rw[hp.sz];lia
  refine⟨hp.in (by lia),hp.in (by lia),?_⟩;have hx:O.blt (kz (p.getD m 0)) (kz (p.getD (m-1) 0))=O.blt (Kp kz p m) (Kp kz p (m-1)):=rfl;rw[hx];cases hb:O.blt (Kp kz p m) (Kp kz p (m-1))with
  |true=>
   have hd':Dn kz p (m+1):=hd.succ h1 (KeyOrd.kle_of_klt hb);dsimp only;rw[if_pos rfl];by_cases hz:e>0
   ·rw[if_pos hz]
    refine tD hr f _ (m+1) 0 (uP hp _ _) (by lia) (by lia) (λ i j hij hj=>?_) (by lia) (λ i u v=>by congr 1;lia) k;rw[m8 hsz hq,m8 hsz hq];exact hd' i j hij hj
   ·rw[if_neg hz]
    exact tD hr f p (m+1) 0 hp (by lia) (by lia) hd' (by lia) (λ i u v=>by congr 1;lia) k
  |false=>
   dsimp only;rw[if_neg (by simp)];refine⟨hp.in (by lia),hp.in (by lia),?_⟩;have hy:O.blt (kz (p.getD (m-1) 0)) (kz (p.getD m 0))=O.blt (Kp kz p (m-1)) (Kp kz p m):=rfl;rw[hy];cases hc:O.blt (Kp kz p (m-1)) (Kp kz p m)with
   |true=>exact k p m e hp h1 (by lia) hd he hq
   |false=>
    dsimp only;rw[if_neg (by simp)];have hee:Kp kz p m=Kp kz p (m-1):=KeyOrd.kle_antisymm hc hb;refine tD hr f p (m+1) (e+1) hp (by lia) (by lia) (hd.succ h1 hc) (by lia) (λ i u v=>?_) k;rw[show m+1-1=m by lia];by_cases hi:i=m
    ·rw[hi]
    ·rw[hee]
     exact hq i (by lia) (by lia)
theorem aCS(hr:r<=n)(hp:Pm n p)(h1:1<=m)(hm:m<=r)(hd:Dn kz p m)(k:∀m' p',Pm n p'->1<=m'->m'<=r->Up kz p' m'->Q (m',p')):Wr kz n (PySem.W.kas_tail3 m r p) Q:=by
 have hsz:m<=p.size:=by rw[hp.sz];lia
 refine Wr.bindI (aBA (uP hp 0 m) hr (r-m) m h1 (by lia) (λ i j hij hj=>?_) λ m' a1 a2 a3 _=>k m' _ (uP hp 0 m) a1 a2 a3);rw[aBy hsz,aBy hsz,if_pos (by lia),if_pos (by lia)];exact hd _ _ (by lia) (by lia)
theorem rG(hr:r<=n)(hp:Pm n p)(hm:m+1<=r)(hd:Dn kz p (m+1))(k:∀m' p',Pm n p'->1<=m'->m'<=r->Up kz p' m'->Q (m',p')):Wr kz n (PySem.W.kas_descPart m r p) Q:=by
 refine Wr.bindI (tD hr (r-(m+1)) p (m+1) 0 hp (by lia) (by lia) hd (by lia) (λ i u v=>by congr 1;lia) λ p' m' e' a1 a2 a3 a4 a5 a6=>?_);have hsz:m'<=p'.size:=by rw[a1.sz];lia
 dsimp only;by_cases hz:e'>0
 ·rw[if_pos hz]
  refine aCS hr (uP a1 _ _) a2 a3 (λ i j hij hj=>?_) k;rw[m8 hsz a6,m8 hsz a6];exact a4 i j hij hj
 ·rw[if_neg hz]
  exact aCS hr a1 a2 a3 a4 k
theorem aDx(hr:r<=n)(hp:Pm n p)(h1:1<=r)(k:∀m' p',Pm n p'->1<=m'->m'<=r->Up kz p' m'->Q (m',p')):Wr kz n (PySem.W.kas_count r p) Q:=by
 refine Wr.bindI (aBA hp hr (r-1) 1 (Nat.le_refl 1) (by lia) (λ i j hij hj=>by rw[show i=j by lia];exact KeyOrd.kle_refl _) λ m a1 a2 a3 a4=>?_);by_cases hm:m=r
 ·rw[if_pos (by simpa using hm)]
  exact k m p hp a1 a2 a3
 ·rw[if_neg (by simpa using hm)]
  have hl:O.klt (Kp kz p m) (Kp kz p (m-1)):=a4.resolve_left hm;by_cases hg:m>1
  ·rw[if_pos hg]
   refine⟨hp.in (by lia),hp.in (by lia),?_⟩;have hx:O.blt (kz (p.getD 0 0)) (kz (p.getD (m-1) 0))=O.blt (Kp kz p 0) (Kp kz p (m-1)):=rfl;rw[hx];cases hb:O.blt (Kp kz p 0) (Kp kz p (m-1))with
   |true=>exact k m p hp a1 a2 a3
   |false=>
    dsimp only;rw[if_neg (by simp)];have hsz:m<=p.size:=by rw[hp.sz];lia
    have hall:∀i,0<=i->i<m->Kp kz p i=Kp kz p (m-1):=λ i _ hi=>KeyOrd.kle_antisymm (a3 i (m-1) (by lia) (by lia)) (KeyOrd.kle_trans hb (a3 0 i (by lia) hi))
    refine rG hr (uP hp 0 m) (by lia) (λ i j hij hj=>?_) k;rw[m8 hsz hall,m8 hsz hall];by_cases hjm:j<m
    ·rw[hall i (by lia) (by lia),hall j (by lia) hjm];exact KeyOrd.kle_refl _
    ·have hj':j=m:=by lia
     subst hj';by_cases hi:i=j
     ·rw[hi];exact KeyOrd.kle_refl _
     ·rw[hall i (by lia) (by lia)];exact KeyOrd.kle_of_klt hl
  ·rw[if_neg hg]
   have hm1:m=1:=by lia
   subst hm1;refine rG hr hp (by lia) (λ i j hij hj=>?_) k;by_cases hi:i=j
   ·rw[hi];exact KeyOrd.kle_refl _
   ·have e1:i=0:=by lia
    have e2:j=1:=by lia
    subst e1 e2;exact KeyOrd.kle_of_klt hl
theorem tU(hp:Pm n p)(hc:c<n)(hu:Up kz p c):∀(f l r:Nat),l<=r->r<=c->r-l<=f->(∀i,i<l->O.kle (Kp kz p i) (Kp kz p c))->(∀i,r<=i->i<c->O.klt (Kp kz p c) (Kp kz p i))->
  (∀l',l'<=c->(∀i,i<l'->O.kle (Kp kz p i) (Kp kz p c))->(∀i,l'<=i->i<c->O.klt (Kp kz p c) (Kp kz p i))->Q l')->Wr kz n (PySem.W.kas_place p c f l r) Q
 |0,l,r,a1,a2,a3,a4,a5,k=>by
  have e:l=r:=by lia
  subst e;exact k l a2 a4 a5
 |f+1,l,r,a1,a2,a3,a4,a5,k=>by
  unfold PySem.W.kas_place;by_cases hg:l ≥ r
  ·rw[if_pos hg]
   have e:l=r:=by lia
   subst e;exact k l a2 a4 a5
  ·rw[if_neg hg]
   refine⟨hp.in hc,hp.in (by lia),?_⟩;have hx:O.blt (kz (p.getD c 0)) (kz (p.getD ((l+r) / 2) 0))=O.blt (Kp kz p c) (Kp kz p ((l+r) / 2)):=rfl;rw[hx];cases hb:O.blt (Kp kz p c) (Kp kz p ((l+r) / 2))with
   |true=>exact tU hp hc hu f l ((l+r) / 2) (by lia) (by lia) (by lia) a4 (λ i u v=>KeyOrd.klt_of_klt_of_kle hb (hu _ _ u v)) k
   |false=>exact tU hp hc hu f ((l+r) / 2+1) r (by lia) a2 (by lia) (λ i u=>KeyOrd.kle_trans (hu i ((l+r) / 2) (by lia) (by lia)) hb) a5 k
theorem aDy:∀(f:Nat) (p:Array Nat) (c:Nat),Pm n p->c+f=n->Up kz p c->(∀p',Pm n p'->Up kz p' n->Q p')->Wr kz n (PySem.W.kas_bin f p c) Q
 |0,p,c,hp,hc,hu,k=>k p hp (by rw[show n=c by lia];exact hu)
 |f+1,p,c,hp,hc,hu,k=>by
  refine Wr.bindI (tU hp (by lia) hu c 0 c (by lia) (Nat.le_refl c) (by lia) (λ i u=>by lia) (λ i u v=>by lia) λ l a1 a2 a3=>?_);refine aDy f _ (c+1) ((bubble_perm _ _ _).trans hp) (by lia) (λ i j hij hj=>?_) k;have hs:c<p.size:=by rw[hp.sz];lia
  rw[aFZ hs (by lia),aFZ hs (by lia),show c-(c-l)=l by lia]
  repeat' split
  all_goals first
   |(exfalso;lia)
   |exact O.irrefl _
   |exact a2 _ (by lia)
   |exact KeyOrd.klt_asymm (a3 _ (by lia) (by lia))
   |exact hu _ _ (by lia) (by lia)
theorem aGV(h1:1<=n)(k:∀p,Pm n p->Up kz p n->Q p):Wr kz n (PySem.W.kas_sort n) Q:=by
 refine Wr.bindI (aDx (Nat.le_refl n) (Array.Perm.refl _) h1 λ m p a1 a2 a3 a4=>?_);dsimp only;by_cases hm:m<n
 ·rw[if_pos hm]
  exact aDy _ p _ a1 (by lia) (by rw[show max m 1=m by lia];exact a4) k
 ·rw[if_neg hm]
  exact k p a1 (by rw[show n=m by lia];exact a4)
theorem zX{I:Shared->Prop}(hc:∀i j (C:Bool->Shared->Prop) s,I s->i<n->j<n->(∀s',I s'->C (O.blt (kz i) (kz j)) s')->cmp i j C s):
  ∀(t:PySem.W.KasT α) (s:Shared),I s->Wr kz n t (λ a=>∀s',I s'->Q a s')->t.kasWp cmp Q s
 | .ret a,s,hI,h=>h s hI
 | .ask i j k,s,hI,⟨h1,h2,h3⟩=>hc i j _ s hI h1 h2 λ s' hI'=>zX hc _ s' hI' h3
end
theorem yh:∀a:List Int,HT.lexLt a a=false
 |[]=>rfl
 |x::a=>by rw[HT.ik,if_pos rfl];exact yh a
theorem pP:∀a b c:List Int,HT.lexLt a b=true->HT.lexLt b c=true->HT.lexLt a c=true
 |[],[],c,h,_=>by cases h
 |[],_::_,[],_,h=>by cases h
 |[],_::_,_::_,_,_=>rfl
 |_::_,[],_,h,_=>by cases h
 |_::_,_::_,[],_,h=>by cases h
 |x::a,y::b,z::c,h1,h2=>by
  rw[HT.ik]at h1 h2 ⊢;by_cases e1:x=y
  ·subst e1
   rw[if_pos rfl]at h1;by_cases e2:x=z
   ·rw[if_pos e2]at h2 ⊢
    exact pP a b c h1 h2
   ·rw[if_neg e2]at h2 ⊢
    exact h2
  ·rw[if_neg e1]at h1
   simp only[decide_eq_true_eq]at h1;by_cases e2:y=z
   ·subst e2
    rw[if_neg e1];simpa using h1
   ·rw[if_neg e2]at h2
    simp only[decide_eq_true_eq]at h2;rw[if_neg (by lia)];simp only[decide_eq_true_eq];lia
theorem yg:∀a b:List Int,HT.lexLt a b=false->HT.lexLt b a=false->a=b
 |[],[],_,_=>rfl
 |[],_::_,h,_=>by cases h
 |_::_,[],_,h=>by cases h
 |x::a,y::b,h1,h2=>by
  rw[HT.ik]at h1 h2;by_cases e:x=y
  ·subst e
   rw[if_pos rfl]at h1 h2;rw[yg a b h1 h2]
  ·rw[if_neg e]at h1
   rw[if_neg λ q=>e q.symm]at h2;simp only[decide_eq_false_iff_not]at h1 h2;lia
theorem aFQ(a b c:List Int)(h:HT.lexLt a c=true):HT.lexLt a b=true\/HT.lexLt b c=true:=by
 cases e1:HT.lexLt a b with
 |true=>exact .inl rfl
 |false=>
  right;cases e2:HT.lexLt b a with
  |true=>exact pP b a c e2 h
  |false=>rw[<-yg a b e1 e2];exact h
def aBr:PyProof.Rows.KeyOrd:=⟨List Int,HT.lexLt,yh,pP,aFQ,yg⟩
inductive dG(h:Heap):List Value->List (List Int)->Prop where
 |nil:dG h [] []
 |cons {x:Addr} {o:Obj} {xs:Array Value} {k:Nat} {ns:List Int} {vs:List Value} {nss:List (List Int)} (ho:h.get? x=some o) (hc:o.cls= .type "tuple") (hd:o.data= .seq xs k) (hi:IntsAre xs.toList ns) (hne:ns≠[]) (r:dG h vs nss):dG h (.ref x::vs) (ns::nss)
theorem dG.mono(k:∀x o,h.get? x=some o->o.cls= .type "tuple"->h'.get? x=some o):∀{vs:List Value} {nss:List (List Int)},dG h vs nss->dG h' vs nss
 |_,_,.nil=>.nil
 |_,_,.cons ho hc hd hi hne r=>.cons (k _ _ ho hc) hc hd hi hne (dG.mono k r)
theorem dG.at:∀{vs:List Value} {nss:List (List Int)} {i:Nat},dG h vs nss->i<vs.length->∃x o xs k,vs.getD i Value.none= .ref x/\h.get? x=some o/\o.cls= .type "tuple"/\o.data= .seq xs k/\IntsAre xs.toList (nss.getD i [])/\nss.getD i []≠[]
 |_,_,_,.nil,hi=>by simp at hi
 |_,_,0,.cons ho hc hd hi hne _,_=>⟨_,_,_,_,rfl,ho,hc,hd,hi,hne⟩
 |_,_,i+1,.cons _ _ _ _ _ r,hi=>by
  obtain⟨x,o,xs,k,q⟩:=dG.at (i:=i) r (by simpa using hi);exact⟨x,o,xs,k,by simpa using q⟩
theorem dG.firsts:∀{vs:List Value} {nss:List (List Int)},dG h vs nss->∃fs,PySem.W.KatTups h vs fs/\fs.length=vs.length/\∀f∈fs,∃n t,f=Value.int n t
 |_,_,.nil=>⟨[],.nil,rfl,λ f hf=>by simp at hf⟩
 |_,_,.cons (xs:=xs) ho hc hd hi hne r=>by
  obtain⟨fs,h1,h2,h3⟩:=dG.firsts r;obtain⟨l,rfl⟩:∃l:List Value,xs=l.toArray:=⟨xs.toList,by simp⟩
  rw[show l.toArray.toList=l by simp]at hi;cases hi with
  |nil=>exact absurd rfl hne
  |cons n t q=>
   rename_i l' ns';refine⟨.int n t::fs,.cons ho hc hd (by simp) h1,by simp[h2],λ f hf=>?_⟩;rcases List.mem_cons.mp hf with rfl|hf
   ·exact⟨n,t,rfl⟩
   ·exact h3 f hf
section
variable{prog:Program}{w:World}{A:Around}{E:Value->Shared->Prop}{s:Shared}
theorem aA7:∀{xs ys:List Value} {ns ms:List Int} (i:Nat),IntsAre xs ns->IntsAre ys ms->fin=decide (xs.length<ys.length)->Q (HT.lexLt ns ms) s->PySem.W.KatLex prog w A b fin Q (xs.zip ys) i s:=by
 intro xs ys ns ms i hx;induction hx generalizing ys ms i with
 |nil=>intro hy hf q;cases hy<;>(subst hf;exact q)
 |@cons x t xs ns r ih=>
  intro hy hf q;cases hy with
  |nil=>subst hf;exact q
  |@cons y u ys ms r'=>?_
  rw[List.zip_cons_cons];refine PySem.W.kat_cons (wpAny_eqBool_int ?_);rw[HT.ik]at q;by_cases e:x=y
  ·rw[if_pos e]at q
   rw[show(x==y)=true by simpa using e];exact PySem.W.kat_yes (ih (i+1) r' (by rw[hf];simp) q)
  ·rw[if_neg e]at q
   rw[show(x==y)=false by simpa using e];refine PySem.W.kat_no ?_;cases hb:(b&&i==0)with
   |true=>exact oneLt_int q
   |false=>exact PySem.W.kat_one _ _ (PyProof.Rows.lt_int q)
theorem aCB(hx:s.heap.get? x=some ox)(dx:ox.data= .seq xs n)(hy:s.heap.get? y=some oy)(dy:oy.data= .seq ys k)(hi:IntsAre xs.toList ns)(hj:IntsAre ys.toList ms)
  (q:Q (HT.lexLt ns ms) s):wpAny (model prog w) A (keyLt' (tuples' b) (.ref x) (.ref y)) Q E s:=
 PySem.W.kat_lt hx dx hy dy (aA7 0 hi hj (by simp) q)
def nM(vs:List Value)(p:Array Nat):Array Value:=(p.toList.map λ i=>vs.getD i Value.none).toArray
theorem aGU(h:vs.length<2):(vs.toArray.zip vs.toArray).map (·.2)=nM vs (List.range vs.length).toArray:=by
 cases vs with
 |nil=>simp[nM]
 |cons v t=>
  cases t with
  |nil=>simp[nM]
  |cons u t=>exact absurd h (Nat.not_lt.mpr (Nat.le_add_left 2 t.length))
theorem aBq(ho:s.heap.get? a=some (seqObj "list" vs.toArray c))(ht:dG s.heap vs nss)(h64:vs.length<64)
  (h:∀p:Array Nat,Pm vs.length p->Up (O:=aBr) (λ i=>nss.getD i []) p vs.length->P (.done (.ret .none)) {s with heap:=sortedHeap s.heap a vs (nM vs p)}):
  wpAny (model prog w) A (Builtin.«list.sort» ⟨[.ref a],[]⟩) P E s:=by
 have hlt:a<s.heap.objs.size:=Heap.lt_size ho;have hz:vs.length<=sizeLine:=by rw[sizeLine_eq];lia
 obtain⟨e1,ho1⟩:∃e1,(s.heap.update a (Obj.mapSeq λ _=>(#[]:Array Value))).get? a=some (seqObj "list" #[] e1):=⟨_,get?_update_seq ho λ _=>#[]⟩
 have keep:∀x o,s.heap.get? x=some o->o.cls= .type "tuple"->(((s.heap.update a (Obj.mapSeq λ _=>(#[]:Array Value))).push (seqObj "tuple" vs.toArray 0)).push (seqObj "list" #[] 0)).get? x=some o:=λ x o e q=>by
  have hxa:x≠a:=λ z=>by
   subst z;rw[ho]at e;cases e;exact absurd q (show¬(Value.type "list"=Value.type "tuple")by decide)
  refine Heap.get?_push_of_some _ (Heap.get?_push_of_some _ ?_);rw[Heap.get?_update_ne _ _ _ _ hxa];exact e
 have ho6:(((s.heap.update a (Obj.mapSeq λ _=>(#[]:Array Value))).push (seqObj "tuple" vs.toArray 0)).push (seqObj "list" #[] 0)).get? a=some (seqObj "list" #[] e1):=Heap.get?_push_of_some _ (Heap.get?_push_of_some _ ho1);have ht6:=ht.mono keep;rw[list_sort_plain];refine wpAny_bind (listItems_at ho rfl (wpAny_bind (listUpdate_at ho rfl ?_ (by rw[List.size_toArray];exact hz) (Nat.zero_le _))));refine wpAny_bind (seqEpoch_at ho1 rfl (wpAny_bind (wpAny_newTuple ?_ (by show vs.length<=_;exact hz))));refine wpAny_bind (wpAny_newList (wpAny_holding ?_) (Nat.zero_le _));show wpAny (model prog w) A _ P E {s with heap:=((s.heap.update a (Obj.mapSeq λ _=>(#[]:Array Value))).push (seqObj "tuple" vs.toArray 0)).push (seqObj "list" #[] 0)};dsimp only;have hsz:∀p:Array Nat,Pm vs.length p->(nM vs p).size=vs.length:=λ p a1=>by unfold nM;rw[List.size_toArray,List.length_map,Array.length_toList,a1.sz]
 by_cases h2:vs.toArray.size<2
 ·rw[if_pos h2,if_pos h2]
  refine wpAny_bind (wpAny_pure ?_);rw[StateT.run_pure];refine wpAny_bind (wpAny_pure ?_);have h2':vs.length<2:=by simpa using h2
  have a1:Pm vs.length (List.range vs.length).toArray:=Array.Perm.refl _;have a3:=aGU h2';dsimp only;refine wpAny_bind (seqEpoch_at ho6 rfl ?_);show wpAny (model prog w) A (Builtin.List.listUpdate (.ref a) (λ _=>(vs.toArray.zip vs.toArray).map (·.2))>>=_) P E _;rw[a3];refine wpAny_bind (listUpdate_at ho6 rfl ?_ (Nat.zero_le _) (by show(nM vs _).size<=_;rw[hsz _ a1];lia));simp only[bne_self_eq_false,Bool.false_eq_true,if_false];exact wpAny_pure (h _ a1 λ i j hij hj=>by rw[show i=j by lia];exact yh _)
 ·rw[if_neg h2,if_neg h2]
  have h2':2<=vs.length:=Nat.le_of_not_lt (show¬vs.length<2 by simpa using h2);obtain⟨fs,f1,f2,f3⟩:=ht6.firsts;refine wpAny_bind (PySem.W.kat_kind (T:=.type "int") f1 (by lia) (λ v hv=>?_) (by decide) ?_)
  ·obtain⟨n,t,rfl⟩:=f3 v hv
   exact PySem.W.Looks.now
  rw[show(Value.type "int" !=Value.type "tuple")=true by decide];refine wpAny_bind (wpAny_mono (PySem.W.kat_run (κ:=tuples' true) (ks:=vs) (vs:=vs) (Q:=λ st s'=>s'={s with heap:=((s.heap.update a (Obj.mapSeq λ _=>(#[]:Array Value))).push (seqObj "tuple" vs.toArray 0)).push (seqObj "list" #[] 0)}/\∃p:Array Nat,Pm vs.length p/\Up (O:=aBr) (λ i=>nss.getD i []) p vs.length/\(arrOf st).map (·.2)=nM vs p/\failedOf st=none)
   (G:=λ p s'=>s'={s with heap:=((s.heap.update a (Obj.mapSeq λ _=>(#[]:Array Value))).push (seqObj "tuple" vs.toArray 0)).push (seqObj "list" #[] 0)}/\Pm vs.length p/\Up (O:=aBr) (λ i=>nss.getD i []) p vs.length)
   rfl h2' h64 (λ p st s' _ b2 b3 b4=>⟨b4.1,p,b4.2.1,b4.2.2,PySem.W.kat_snds rfl b2,b3⟩) ?_) (λ r s' hr=>?_) λ _ _ e=>e)
  ·refine zX (O:=aBr) (kz:=λ i=>nss.getD i []) (n:=vs.length) (I:=λ s'=>s'={s with heap:=((s.heap.update a (Obj.mapSeq λ _=>(#[]:Array Value))).push (seqObj "tuple" vs.toArray 0)).push (seqObj "list" #[] 0)}) (λ i j C s' hI hi hj hC=>?_) _ _ rfl (aGV (by lia) λ p a1 a2 s' hs'=>⟨hs',a1,a2⟩)
   subst hI;unfold PySem.W.kas_ask;obtain⟨x,ox,xs,kx,x1,x2,_,x4,x5,_⟩:=ht6.at hi;obtain⟨y,oy,ys,ky,y1,y2,_,y4,y5,_⟩:=ht6.at hj;rw[x1,y1];exact aCB x2 x4 y2 y4 x5 y5 (hC _ rfl)
  ·obtain⟨⟨⟩,st⟩:=r
   obtain⟨e,p,b1,b2,b3,b4⟩:=hr;subst e;refine wpAny_bind (seqEpoch_at ho6 rfl ?_);rw[b3,b4];refine wpAny_bind (listUpdate_at ho6 rfl ?_ (Nat.zero_le _) (by show(nM vs p).size<=_;rw[hsz p b1];lia));simp only[bne_self_eq_false,Bool.false_eq_true,if_false];exact wpAny_pure (h p b1 b2)
end
theorem sub_len[BEq α][LawfulBEq α]:∀{l l':List α},l.Nodup->(∀x∈l,x∈l')->l.length<=l'.length
 |[],_,_,_=>Nat.zero_le _
 |x::l,l',nd,h=>by
  have hx:x∈l':=h x List.mem_cons_self;have ih:=sub_len (l:=l) (l':=l'.erase x) (List.nodup_cons.mp nd).2 λ y hy=>(List.mem_erase_of_ne λ e=>by subst e;exact(List.nodup_cons.mp nd).1 hy).mpr (h y (List.mem_cons_of_mem _ hy))
  rw[List.length_erase_of_mem hx]at ih
  have:0<l'.length:=List.length_pos_of_mem hx
  rw[List.length_cons];lia
def Ris(xs:Array Nat):Prop:=∀i j,i<j->j<xs.size->xs.getD i 0<xs.getD j 0
theorem zO(hr:Ris xs):∀(f lo hi:Nat),lo<=hi->hi<=xs.size->hi-lo<=f->(∀i,i<lo->xs.getD i 0<j)->(∀i,hi<=i->i<xs.size->j<=xs.getD i 0)->
  SetTable.below.go xs j f lo hi<=xs.size/\(∀i,i<SetTable.below.go xs j f lo hi->xs.getD i 0<j)/\∀i,SetTable.below.go xs j f lo hi<=i->i<xs.size->j<=xs.getD i 0
 |0,lo,hi,h1,h2,h3,h4,h5=>by
  have e:lo=hi:=by lia
  subst e;exact⟨h2,h4,h5⟩
 |f+1,lo,hi,h1,h2,h3,h4,h5=>by
  unfold SetTable.below.go;by_cases hl:lo<hi
  ·rw[if_pos hl]
   dsimp only;have hm:(lo+hi) / 2<xs.size:=by lia
   have e:xs.getD ((lo+hi) / 2) j=xs.getD ((lo+hi) / 2) 0:=by simp[Array.getD,hm]
   rw[e];by_cases hc:xs.getD ((lo+hi) / 2) 0<j
   ·rw[if_pos hc]
    refine zO hr f _ hi (by lia) h2 (by lia) (λ i hi'=>?_) h5;by_cases q:i=(lo+hi) / 2
    ·rw[q];exact hc
    ·exact Nat.lt_trans (hr i ((lo+hi) / 2) (by lia) hm) hc
   ·rw[if_neg hc]
    refine zO hr f lo _ (by lia) (by lia) (by lia) h4 λ i q1 q2=>?_
    by_cases q:i=(lo+hi) / 2
    ·rw[q];lia
    ·have:=hr ((lo+hi) / 2) i (by lia) q2
     lia
  ·rw[if_neg hl]
   have e:lo=hi:=by lia
   subst e;exact⟨h2,h4,h5⟩
theorem qD(hr:Ris xs)(j:Nat):SetTable.below xs j<=xs.size/\(∀i,i<SetTable.below xs j->xs.getD i 0<j)/\∀i,SetTable.below xs j<=i->i<xs.size->j<=xs.getD i 0:=
 zO hr xs.size 0 xs.size (Nat.zero_le _) (Nat.le_refl _) (by lia) (λ i h=>by lia) λ i h1 h2=>by lia
structure fV(t:SetTable)(n:Nat):Prop where
 dum:t.dummies=#[]
 siz:t.place.size=n
 ris:Ris t.place
 top:∀i,i<n->t.place.getD i 0<=t.mask
 msk:t.mask=7/\n<5\/t.mask=31/\n<19\/t.mask=127/\n<77
 pla:t.plain=true
theorem fV.fresh(led:Bool):fV (SetTable.fresh 0 0 led) 0:=⟨rfl,rfl,λ i j _ h=>by simp[SetTable.fresh]at h,λ i h=>by lia,.inl ⟨rfl,by lia⟩,rfl⟩
theorem fV.few(h:fV t n):n<t.mask:=by
 rcases h.msk with ⟨e,l⟩|⟨e,l⟩|⟨e,l⟩<;>lia
theorem fV.fill(h:fV t n):t.fill=n:=by unfold SetTable.fill;rw[h.dum,h.siz];rfl
theorem fV.fits(h:fV t n):t.fits n=true:=by
 unfold SetTable.fits;rw[h.fill,h.siz]
 have:=h.few
 simp;lia
theorem yD(h:fV t n)(j:Nat):t.slot j= .empty\/∃i,i<n/\t.slot j= .live i/\t.place.getD i 0=j:=by
 unfold SetTable.slot;dsimp only;by_cases e:(t.place[SetTable.below t.place j]? ==some j)=true
 ·rw[if_pos e]
  have e':=beq_iff_eq.mp e;obtain⟨h1,h2⟩:=Array.getElem?_eq_some_iff.mp e';exact .inr ⟨_,by rw[<-h.siz];exact h1,rfl,by simp[Array.getD,h1,h2]⟩
 ·rw[if_neg e]
  have:SetTable.has t.dummies j=false:=by rw[h.dum];unfold SetTable.has;simp
  rw[this];exact .inl (by simp)
theorem aEN(h:fV t n)(e:t.slot j= .empty):∀i,i<n->t.place.getD i 0≠j:=by
 intro i hi q;obtain⟨b1,b2,b3⟩:=qD h.ris j;have hb:SetTable.below t.place j=i:=by
  rcases Nat.lt_trichotomy (SetTable.below t.place j) i with z|z|z
  ·have z1:=b3 _ (Nat.le_refl _) (by rw[h.siz];lia)
   have z2:=h.ris _ i z (by rw[h.siz];exact hi);lia
  ·exact z
  ·have:=b2 i z
   lia
 have hi':i<t.place.size:=by rw[h.siz];exact hi
 have e2:t.place[i]? =some j:=by rw[Array.getElem?_eq_some_iff];exact⟨hi',by rw[<-q];simp[Array.getD,hi']⟩
 unfold SetTable.slot at e;dsimp only at e;rw[hb,e2]at e;simp at e
def lQ(mask:Nat):Nat->Nat×Nat->Nat×Nat
 |0,st=>st
 |k+1,st=>lQ mask k (SetTable.leap mask st.1 st.2)
theorem aAT(mask:Nat):∀(k:Nat) (st:Nat×Nat),(lQ mask k st).2=st.2 / 32^k
 |0,st=>by simp[lQ]
 |k+1,st=>by
  show(lQ mask k (SetTable.leap mask st.1 st.2)).2=_
  rw[aAT mask k];show st.2 / 32 / 32^k=_;rw[Nat.div_div_eq_div_mul,Nat.pow_succ,Nat.mul_comm]
theorem aAW(mask:Nat):∀(j k:Nat) (st:Nat×Nat),lQ mask (j+k) st=lQ mask k (lQ mask j st)
 |0,k,st=>by rw[Nat.zero_add];rfl
 |j+1,k,st=>by
  rw[show j+1+k=(j+k)+1 by lia];exact aAW mask j k _
def orb(M:Nat):Nat->Nat->Nat
 |0,i=>i
 |k+1,i=>orb M k ((i*5+1)%M)
theorem tH(M:Nat):∀(j k i:Nat),orb M (j+k) i=orb M k (orb M j i)
 |0,k,i=>by rw[Nat.zero_add];rfl
 |j+1,k,i=>by
  rw[show j+1+k=(j+k)+1 by lia];exact tH M j k _
theorem aAU(mask:Nat):∀(k i:Nat),lQ mask k (i,0)=(orb (mask+1) k i,0)
 |0,i=>rfl
 |k+1,i=>by
  show lQ mask k (SetTable.leap mask i 0)=_
  have:SetTable.leap mask i 0=((i*5+1)%(mask+1),0):=by simp[SetTable.leap]
  rw[this];exact aAU mask k _
theorem aD1:∀M∈[8,32,128],(∀t∈List.range M,∃k∈List.range M,orb M k 0=t)/\orb M M 0=0:=by decide+kernel
theorem aGz(hm:mask=7\/mask=31\/mask=127)(hi:i<=mask)(ht:t<=mask):∃k,k<=mask/\orb (mask+1) k i=t:=by
 have hM:mask+1∈[8,32,128]:=by rcases hm with e|e|e<;>subst e<;>decide
 obtain⟨h1,h2⟩:=aD1 _ hM;obtain⟨a,ha,ea⟩:=h1 i (by simp;lia);obtain⟨b,hb,eb⟩:=h1 t (by simp;lia);simp only[List.mem_range]at ha hb;by_cases hab:a<=b
 ·refine⟨b-a,by lia,?_⟩
  rw[<-ea,<-tH,show a+(b-a)=b by lia,eb]
 ·refine⟨mask+1-a+b,by lia,?_⟩
  rw[<-ea,<-tH,show a+(mask+1-a+b)=(mask+1)+b by lia,tH,h2,eb]
theorem aHr(h:Int):SetTable.bits h<2^64:=by
 unfold SetTable.bits;have h1:=Int.emod_nonneg h (show(2^64:Int)≠0 by decide);have h2:=Int.emod_lt_of_pos h (show(0:Int)<2^64 by decide);lia
theorem aAV(hm:mask=7\/mask=31\/mask=127)(h:Int)(ht:t<=mask)(i₀:Nat):∃k,k<mask+15/\(lQ mask k (i₀,SetTable.bits h)).1=t:=by
 have e1:(lQ mask 13 (i₀,SetTable.bits h)).2=0:=by
  rw[aAT]
  have:=aHr h
  exact Nat.div_eq_of_lt (Nat.lt_trans this (by decide))
 have e2:(lQ mask 13 (i₀,SetTable.bits h)).1<=mask:=by
  show(lQ mask 12 (SetTable.leap mask i₀ (SetTable.bits h))).1<=mask
  have go:∀k (st:Nat×Nat),st.1<=mask->(lQ mask k st).1<=mask:=by
   intro k;induction k with
   |zero=>intro st q;exact q
   |succ k ih=>
    intro st q;refine ih _ ?_
    show(st.1*5+1+st.2 / 32)%(mask+1)<=mask
    exact Nat.le_of_lt_succ (Nat.mod_lt _ (Nat.succ_pos _))
  refine go 12 _ ?_
  show(i₀*5+1+SetTable.bits h / 32)%(mask+1)<=mask
  exact Nat.le_of_lt_succ (Nat.mod_lt _ (Nat.succ_pos _))
 obtain⟨k,hk,ek⟩:=aGz hm e2 ht;refine⟨13+k,by lia,?_⟩;rw[aAW];have e3:lQ mask 13 (i₀,SetTable.bits h)=((lQ mask 13 (i₀,SetTable.bits h)).1,0):=by rw[<-e1]
 rw[e3,aAU];exact ek
theorem wO(hi:i<=mask):i<=SetTable.runEnd mask i/\SetTable.runEnd mask i<=mask/\SetTable.runEnd mask i<=i+9:=by
 unfold SetTable.runEnd;split<;>lia
section
variable{t:SetTable}{n:Nat}{hashAt:Nat->Int}{h:Int}
abbrev aC6(t:SetTable)(i pert:Nat):SetTable.Probe:={j:=i,more:=SetTable.runEnd t.mask i-i,i:=i,perturb:=pert,dummy:=none}
theorem aFn(fuel:Nat)(p:SetTable.Probe):SetTable.probe.go t hashAt h (fuel+1) p=(match t.slot p.j with
  | .empty=>some (.empty p.j p.dummy)
  | .dummy=>SetTable.probe.go t hashAt h fuel (t.advance {p with dummy:=some p.j})
  | .live i=>if hashAt i==h then some (.candidate p.j i (t.advance p))else SetTable.probe.go t hashAt h fuel (t.advance p)):=rfl
theorem aFm(T:fV t n)(hh:∀i,i<n->hashAt i≠h):∀(m fuel:Nat) (p:SetTable.Probe),p.more=m->p.dummy=none->
  (∃j,p.j<=j/\j<=p.j+m/\t.slot j= .empty/\SetTable.probe.go t hashAt h (fuel+m+1) p=some (.empty j none))\/
  (t.slot p.j≠.empty/\SetTable.probe.go t hashAt h (fuel+m+1) p=SetTable.probe.go t hashAt h fuel (aC6 t (SetTable.leap t.mask p.i p.perturb).1 (SetTable.leap t.mask p.i p.perturb).2))
 |0,fuel,p,hm,hd=>by
  rw[show fuel+0+1=fuel+1 from rfl,aFn];rcases yD T p.j with e|⟨i,hi,e,_⟩
  ·rw[e]
   exact .inl ⟨p.j,Nat.le_refl _,Nat.le_refl _,e,by rw[hd]⟩
  ·rw[e]
   right;refine⟨by simp,?_⟩;dsimp only;rw[if_neg (by simpa using hh i hi)];congr 1;unfold SetTable.advance;rw[if_neg (by lia)];simp[aC6,hd]
 |m+1,fuel,p,hm,hd=>by
  rw[aFn];rcases yD T p.j with e|⟨i,hi,e,_⟩
  ·rw[e]
   exact .inl ⟨p.j,Nat.le_refl _,by lia,e,by rw[hd]⟩
  ·rw[e]
   dsimp only;rw[if_neg (by simpa using hh i hi)];have ha:t.advance p={p with j:=p.j+1,more:=p.more-1}:=by
    unfold SetTable.advance;rw[if_pos (by lia)]
   rw[ha];rcases aFm T hh m fuel {p with j:=p.j+1,more:=p.more-1} (by show p.more-1=m;lia) hd with ⟨j,q1,q2,q3,q4⟩|⟨q1,q2⟩
   ·exact .inl ⟨j,by show p.j<=j;have:p.j+1<=j:=q1;lia,by have:j<=p.j+1+m:=q2;lia,q3,q4⟩
   ·exact .inr ⟨by simp,q2⟩
theorem aCw(T:fV t n)(hh:∀i,i<n->hashAt i≠h):∀(N fuel i pert:Nat),i<=t.mask->10*N<=fuel->
  (∃j,j<=t.mask/\t.slot j= .empty/\SetTable.probe.go t hashAt h fuel (aC6 t i pert)=some (.empty j none))\/∀k,k<N->t.slot (lQ t.mask k (i,pert)).1≠.empty
 |0,fuel,i,pert,hi,hf=>.inr λ k hk=>by lia
 |N+1,fuel,i,pert,hi,hf=>by
  obtain⟨r1,r2,r3⟩:=wO hi;obtain⟨f',rfl⟩:∃f',fuel=f'+(SetTable.runEnd t.mask i-i)+1:=⟨fuel-(SetTable.runEnd t.mask i-i)-1,by lia⟩
  rcases aFm T hh (SetTable.runEnd t.mask i-i) f' (aC6 t i pert) rfl rfl with ⟨j,q1,q2,q3,q4⟩|⟨q1,q2⟩
  ·exact .inl ⟨j,by have:j<=i+(SetTable.runEnd t.mask i-i):=q2;lia,q3,q4⟩
  ·have hl:(SetTable.leap t.mask i pert).1<=t.mask:=Nat.le_of_lt_succ (Nat.mod_lt _ (Nat.succ_pos _))
   rcases aCw T hh N f' _ (SetTable.leap t.mask i pert).2 hl (by lia)with ⟨j,s1,s2,s3⟩|s
   ·exact .inl ⟨j,s1,s2,q2.trans s3⟩
   ·right
    intro k hk;cases k with
    |zero=>exact q1
    |succ k=>exact s k (by lia)
theorem fV.mask3(T:fV t n):t.mask=7\/t.mask=31\/t.mask=127:=by
 rcases T.msk with ⟨e,_⟩|⟨e,_⟩|⟨e,_⟩
 ·exact .inl e
 ·exact .inr (.inl e)
 ·exact .inr (.inr e)
theorem aBc(T:fV t n)(hh:∀i,i<n->hashAt i≠h):∃j,j<=t.mask/\t.slot j= .empty/\t.probe hashAt h (t.probeStart h)=some (.empty j none):=by
 have hs:SetTable.bits h%(t.mask+1)<=t.mask:=Nat.le_of_lt_succ (Nat.mod_lt _ (Nat.succ_pos _));rcases aCw T hh (t.mask+15) (10*SetTable.turns t.mask) _ (SetTable.bits h) hs (by unfold SetTable.turns;lia)with z|z
 ·exact z
 ·exfalso
  have hall:∀x∈List.range (t.mask+1),x∈t.place.toList:=by
   intro x hx;simp only[List.mem_range]at hx;obtain⟨k,hk,ek⟩:=aAV T.mask3 h (t:=x) (by lia) (SetTable.bits h%(t.mask+1))
   have:=z k hk
   rw[ek]at this;rcases yD T x with e|⟨i,hi,_,e⟩
   ·exact absurd e this
   ·rw[<-e]
    have hi':i<t.place.size:=by rw[T.siz];exact hi
    rw[show t.place.getD i 0=t.place[i]by simp[Array.getD,hi']];exact Array.getElem_mem_toList hi'
  have:=sub_len List.nodup_range hall
  have h2:=T.few;rw[List.length_range,Array.length_toList,T.siz]at this;lia
end
theorem tM(xs:Array α)(p:Nat)(x d:α)(hp:p<=xs.size)(i:Nat):(SetTable.insertAt xs p x).getD i d=if i<p then xs.getD i d else if i=p then x else xs.getD (i-1) d:=by
 have e:∀(ys:Array α) i,ys.getD i d=(ys.toList[i]?).getD d:=λ ys i=>by rw[Array.getD_eq_getD_getElem?,Array.getElem?_toList]
 rw[e,e,e,SetTable.toList_insertAt];have hl:p<=xs.toList.length:=by simpa using hp
 by_cases h1:i<p
 ·rw[if_pos h1,List.getElem?_append_left (by rw[List.length_take];lia),List.getElem?_take,if_pos h1]
 ·rw[if_neg h1,List.getElem?_append_right (by rw[List.length_take];lia),List.length_take,Nat.min_eq_left hl]
  by_cases h2:i=p
  ·rw[if_pos h2,h2,Nat.sub_self]
   rfl
  ·rw[if_neg h2,show i-p=(i-p-1)+1 by lia,List.getElem?_cons_succ,List.getElem?_drop]
   congr 2;lia
theorem pR(xs:Array α)(p:Nat)(x:α):(SetTable.insertAt xs p x).size=xs.size+1:=by
 rw[<-Array.length_toList,(SetTable.insertAt_perm xs p x).length_eq,Array.toList_push];simp
theorem rJ{t:SetTable}(hf:t.fill=n):t.tooFull=decide (t.mask*3<=n*5):=by unfold SetTable.tooFull;rw[hf]
structure mU(t:SetTable)(n:Nat):Prop where
 dum:t.dummies=#[]
 siz:t.place.size=n
 ris:Ris t.place
 top:∀i,i<n->t.place.getD i 0<=t.mask
 msk:t.mask=7/\n<=5\/t.mask=31/\n<=19\/t.mask=127/\n<77
 pla:t.plain=true
theorem mU.fill(h:mU t n):t.fill=n:=by unfold SetTable.fill;rw[h.dum,h.siz];rfl
theorem mU.fits(h:mU t n):t.fits n=true:=by
 unfold SetTable.fits;rw[h.fill,h.siz]
 have:=h.msk
 simp;lia
theorem aJA(T:fV t n)(h64:n<63)(hj:j<=t.mask)(he:t.slot j= .empty):mU (t.put j).1 (n+1)/\(t.put j).2=SetTable.below t.place j/\(t.put j).2<=n/\(t.put j).1.mask=t.mask/\(t.put j).1.led=t.led:=by
 have hno:=aEN T he;obtain⟨b1,b2,b3⟩:=qD T.ris j;have hsz:=T.siz;have hg:=tM t.place (SetTable.below t.place j) j 0 b1;refine⟨⟨?_,?_,?_,?_,?_,T.pla⟩,rfl,by rw[<-hsz];exact b1,rfl,rfl⟩
 ·show(if SetTable.has t.dummies j then SetTable.eraseAt t.dummies (SetTable.below t.dummies j)else t.dummies)=#[]
  rw[T.dum]
  have:SetTable.has #[] j=false:=by unfold SetTable.has;simp
  rw[this];rfl
 ·show(SetTable.insertAt t.place _ j).size=n+1
  rw[pR,hsz]
 ·intro a b hab hb
  have hb':b<n+1:=by
   have:b<(SetTable.insertAt t.place (SetTable.below t.place j) j).size:=hb
   rw[pR,hsz]at this;exact this
  show(SetTable.insertAt t.place (SetTable.below t.place j) j).getD a 0<(SetTable.insertAt t.place (SetTable.below t.place j) j).getD b 0
  rw[hg,hg];by_cases a1:a<SetTable.below t.place j
  ·rw[if_pos a1]
   by_cases c1:b<SetTable.below t.place j
   ·rw[if_pos c1];exact T.ris a b hab (by lia)
   ·rw[if_neg c1]
    by_cases c2:b=SetTable.below t.place j
    ·rw[if_pos c2];exact b2 a a1
    ·rw[if_neg c2]
     exact T.ris a (b-1) (by lia) (by lia)
  ·rw[if_neg a1,if_neg (show¬b<SetTable.below t.place j by lia),if_neg (show¬b=SetTable.below t.place j by lia)]
   by_cases a2:a=SetTable.below t.place j
   ·rw[if_pos a2]
    have q1:=b3 (b-1) (by lia) (by lia);have q2:=hno (b-1) (by lia);lia
   ·rw[if_neg a2]
    exact T.ris (a-1) (b-1) (by lia) (by lia)
 ·intro i hi
  show(SetTable.insertAt t.place (SetTable.below t.place j) j).getD i 0<=t.mask
  rw[hg];split
  ·exact T.top i (by lia)
  ·split
   ·exact hj
   ·exact T.top (i-1) (by lia)
 ·have:=T.msk
  show t.mask=7/\n+1<=5\/t.mask=31/\n+1<=19\/t.mask=127/\n+1<77;lia
theorem mU.still{t:SetTable}(h:mU t n)(hf:t.tooFull=false):fV t n:=by
 rw[rJ h.fill]at hf;simp only[decide_eq_false_iff_not]at hf;refine⟨h.dum,h.siz,h.ris,h.top,?_,h.pla⟩;rcases h.msk with ⟨e,l⟩|⟨e,l⟩|⟨e,l⟩<;>rw[e]at hf
 ·exact .inl ⟨e,by lia⟩
 ·exact .inr (.inl ⟨e,by lia⟩)
 ·exact .inr (.inr ⟨e,by lia⟩)
theorem mU.full{t:SetTable}(h:mU t n)(h64:n<=63)(hf:t.tooFull=true):n=5\/n=19:=by
 rw[rJ h.fill]at hf;simp only[decide_eq_true_eq]at hf
 have:=h.msk
 lia
def heldBy(owner:Array (Option Nat)):List Nat:=owner.toList.filterMap id
theorem uw:∀(l:List (Option Nat)) (j x:Nat),l[j]? =some none->((l.set j (some x)).filterMap id).Perm (x::l.filterMap id)
 |[],j,x,h=>by simp at h
 |a::l,0,x,h=>by
  simp at h;subst h;exact List.Perm.refl _
 |none::l,j+1,x,h=>by
  have ih:=uw l j x (by simpa using h);simpa using ih
 |some a::l,j+1,x,h=>by
  have ih:=uw l j x (by simpa using h)
  have:(((some a::l).set (j+1) (some x)).filterMap id).Perm (a::x::l.filterMap id):=by
   simpa using ih.cons a
  exact this.trans (List.Perm.swap _ _ _)
theorem wy:∀(l:List (Option Nat)),(∀j,j<l.length->∃x,l[j]? =some (some x))->(l.filterMap id).length=l.length
 |[],_=>rfl
 |a::l,h=>by
  obtain⟨x,e⟩:=h 0 (by simp);have ex:a=some x:=by simpa using e
  subst ex;have ih:=wy l λ j hj=>by simpa using h (j+1) (by simpa using hj)
  simp[ih]
theorem aCy(ho:owner.size=mask+1):∀(N i pert:Nat),i<=mask->
  (∃j,owner.toList[j]? =some none/\SetTable.layClean.free mask owner N i pert=some j)\/∀k,k<N->∃x,owner.toList[(lQ mask k (i,pert)).1]? =some (some x)
 |0,i,pert,hi=>.inr λ k hk=>by lia
 |N+1,i,pert,hi=>by
  obtain⟨r1,r2,r3⟩:=wO hi;have hone:SetTable.layClean.free mask owner (N+1) i pert=(match (List.range (SetTable.runEnd mask i+1-i)).find? λ k=>(owner.getD (i+k) (some 0)).isNone with
   |some k=>some (i+k)
   |none=>SetTable.layClean.free mask owner N (SetTable.leap mask i pert).1 (SetTable.leap mask i pert).2):=rfl
  rw[hone];cases hf:(List.range (SetTable.runEnd mask i+1-i)).find? λ k=>(owner.getD (i+k) (some 0)).isNone with
  |some k=>
   left;have h1:=List.mem_of_find?_eq_some hf;have h2:=List.find?_some hf;simp only[List.mem_range]at h1;have hlt:i+k<owner.size:=by lia
   refine⟨i+k,?_,rfl⟩;have e:owner.getD (i+k) (some 0)=owner[i+k]:=by simp[Array.getD,hlt]
   rw[e]at h2;rw[Array.getElem?_toList,Array.getElem?_eq_some_iff];exact⟨hlt,by simpa using h2⟩
  |none=>
   have h0:=List.find?_eq_none.mp hf 0 (by simp;lia);have hlt:i<owner.size:=by lia
   have e:owner.getD (i+0) (some 0)=owner[i]:=by simp[Array.getD,hlt]
   rw[e]at h0;have hl:(SetTable.leap mask i pert).1<=mask:=Nat.le_of_lt_succ (Nat.mod_lt _ (Nat.succ_pos _));rcases aCy ho N _ (SetTable.leap mask i pert).2 hl with ⟨j,s1,s2⟩|s
   ·exact .inl ⟨j,s1,s2⟩
   ·right
    intro k hk;cases k with
    |zero=>
     show∃x,owner.toList[i]? =some (some x)
     rw[Array.getElem?_toList];cases q:owner[i]with
     |none=>rw[q]at h0;simp at h0
     |some x=>exact⟨x,by rw[Array.getElem?_eq_some_iff];exact⟨hlt,q⟩⟩
    |succ k=>exact s k (by lia)
theorem aDk(hm:mask=7\/mask=31\/mask=127)(ho:owner.size=mask+1)(hfew:(heldBy owner).length<mask+1)(h:Int):
  ∃j,owner.toList[j]? =some none/\SetTable.layClean.free mask owner (SetTable.turns mask) (SetTable.bits h%(mask+1)) (SetTable.bits h)=some j:=by
 rcases aCy ho (SetTable.turns mask) _ (SetTable.bits h) (Nat.le_of_lt_succ (Nat.mod_lt (SetTable.bits h) (Nat.succ_pos mask)))with z|z
 ·exact z
 ·exfalso
  have:=wy owner.toList λ j hj=>by
   rw[Array.length_toList,ho]at hj;obtain⟨k,hk,ek⟩:=aAV hm h (t:=j) (by lia) (SetTable.bits h%(mask+1));obtain⟨x,e⟩:=z k (by unfold SetTable.turns;lia);rw[ek]at e;exact⟨x,e⟩
  unfold heldBy at hfew;rw[this,Array.length_toList]at hfew;lia
def tK(mask:Nat)(acc:Option (Array (Option Nat)×Nat))(h:Int):Option (Array (Option Nat)×Nat):=do
 let(owner,k) <-acc
 let j <-SetTable.layClean.free mask owner (SetTable.turns mask) (SetTable.bits h%(mask+1)) (SetTable.bits h)
 pure (owner.setIfInBounds j (some k),k+1)
theorem aA0(hm:mask=7\/mask=31\/mask=127):∀(hs:List Int) (owner:Array (Option Nat)) (k:Nat),owner.size=mask+1->(heldBy owner).Perm (List.range k)->k+hs.length<=mask->
  ∃owner',hs.foldl (tK mask) (some (owner,k))=some (owner',k+hs.length)/\owner'.size=mask+1/\(heldBy owner').Perm (List.range (k+hs.length))
 |[],owner,k,ho,hp,hl=>⟨owner,rfl,ho,hp⟩
 |h::hs,owner,k,ho,hp,hl=>by
  rw[List.length_cons]at hl;obtain⟨j,e1,e2⟩:=aDk hm ho (by rw[hp.length_eq,List.length_range];lia) h;have hst:tK mask (some (owner,k)) h=some (owner.setIfInBounds j (some k),k+1):=by
   unfold tK;simp[e2]
  rw[List.foldl_cons,hst];obtain⟨o',f1,f2,f3⟩:=aA0 hm hs (owner.setIfInBounds j (some k)) (k+1) (by simpa using ho) (by
   unfold heldBy;rw[Array.toList_setIfInBounds];refine(uw owner.toList j k e1).trans ?_;rw[List.range_succ];exact(List.Perm.cons k hp).trans (List.perm_append_singleton k _).symm) (by lia)
  refine⟨o',?_,f2,?_⟩
  ·rw[f1,List.length_cons,show k+1+hs.length=k+(hs.length+1)by lia]
  ·rw[List.length_cons,show k+(hs.length+1)=k+1+hs.length by lia]
   exact f3
theorem aFk(m:Nat):heldBy (Array.replicate m none)=[]:=by
 unfold heldBy;rw[Array.toList_replicate];induction m with
 |zero=>rfl
 |succ m ih=>rw[List.replicate_succ];simpa using ih
theorem aA1(hm:mask=7\/mask=31\/mask=127)(hs:Array Int)(hl:hs.size<=mask):∃owner,SetTable.layClean mask hs=some owner/\owner.size=mask+1/\(heldBy owner).Perm (List.range hs.size):=by
 obtain⟨o',f1,f2,f3⟩:=aA0 hm hs.toList (Array.replicate (mask+1) none) 0 (by simp) (by rw[aFk];exact List.Perm.refl _) (by simpa using hl);refine⟨o',?_,f2,by simpa using f3⟩;have e:SetTable.layClean mask hs=(hs.foldl (tK mask) (some (Array.replicate (mask+1) none,0))).map (·.1):=rfl;rw[e,<-Array.foldl_toList,f1];rfl
def j0(owner:Array (Option Nat))(m:Nat):List (Nat×Nat):=(List.range m).filterMap λ j=>(owner.getD j none).map (j,·)
theorem aAR:∀(l:List (Option Nat)) (b:Nat) (f:Nat->Option Nat),(∀i,i<l.length->f (b+i)=(l[i]?).getD none)->
  ((List.range' b l.length).filterMap λ j=>(f j).map (j,·)).map (·.2)=l.filterMap id
 |[],_,_,_=>rfl
 |a::l,b,f,h=>by
  have h0:=h 0 (by simp);simp at h0;have ih:=aAR l (b+1) f λ i hi=>by
   have:=h (i+1) (by simpa using hi)
   rw[show b+(i+1)=b+1+i by lia]at this;simpa using this
  rw[List.length_cons,List.range'_succ,List.filterMap_cons,h0];cases a with
  |none=>simpa using ih
  |some x=>simpa using ih
theorem aBp(owner:Array (Option Nat)):(j0 owner owner.size).map (·.2)=heldBy owner:=by
 have:=aAR owner.toList 0 (λ j=>owner.getD j none) λ i hi=>by
  rw[Nat.zero_add,Array.getD_eq_getD_getElem?,Array.getElem?_toList]
 unfold j0 heldBy;rw[List.range_eq_range',<-this,Array.length_toList]
theorem aAS(f:Nat->Option Nat):∀(m b:Nat),(((List.range' b m).filterMap λ j=>(f j).map (j,·)).map (·.1)).Pairwise (·< ·)/\∀x∈((List.range' b m).filterMap λ j=>(f j).map (j,·)).map (·.1),b<=x/\x<b+m
 |0,b=>⟨.nil,λ x hx=>by simp at hx⟩
 |m+1,b=>by
  obtain⟨ih1,ih2⟩:=aAS f m (b+1);rw[List.range'_succ,List.filterMap_cons];cases hf:f b with
  |none=>
   simp only[Option.map_none];exact⟨ih1,λ x hx=>by have:=ih2 x hx;lia⟩
  |some y=>
   simp only[Option.map_some,List.map_cons];refine⟨List.pairwise_cons.mpr ⟨λ x hx=>by have:=ih2 x hx;lia,ih1⟩,λ x hx=>?_⟩;rcases List.mem_cons.mp hx with e|hx
   ·lia
   ·have:=ih2 x hx
    lia
theorem aIw{l:List Nat}(h:l.Pairwise (·< ·)):Ris l.toArray:=by
 intro i j hij hj;have hj':j<l.length:=by simpa using hj
 have e:∀k,k<l.length->l.toArray.getD k 0=l[k]!:=λ k hk=>by simp[Array.getD,hk]
 have:=List.pairwise_iff_getElem.mp h i j (by lia) hj' hij
 simp[Array.getD,hj',show i<l.length by lia];exact this
theorem aE6{t:SetTable}(hp:t.plain=true)(hn:n=5\/n=19)(hs:Array Int)(hl:hs.size=n):
  ∃t' order,t.relaid hs (SetTable.grown n)=some (t',order)/\fV t' n/\t'.led=t.led/\order.toList.Perm (List.range n):=by
 have hm:∃mask,SetTable.sizeAbove (SetTable.grown n)-1=mask/\(mask=31/\n=5\/mask=127/\n=19):=by
  rcases hn with e|e<;>subst e
  ·exact⟨31,by decide,.inl ⟨rfl,rfl⟩⟩
  ·exact⟨127,by decide,.inr ⟨rfl,rfl⟩⟩
 obtain⟨mask,em,hmn⟩:=hm;have hm3:mask=7\/mask=31\/mask=127:=by lia
 obtain⟨owner,o1,o2,o3⟩:=aA1 hm3 hs (by lia);have hsnd:=aBp owner;obtain⟨r1,r2⟩:=aAS (λ j=>owner.getD j none) (mask+1) 0;rw[<-List.range_eq_range']at r1 r2;have hlen:((j0 owner (mask+1)).map (·.1)).length=n:=by
  rw[List.length_map,<-List.length_map (f:=(·.2)),<-o2,hsnd,o3.length_eq,List.length_range,hl]
 refine⟨{mask:=mask,place:=((j0 owner (mask+1)).map (·.1)).toArray,dummies:=#[],finger:=t.finger,led:=t.led,moves:=t.movedTo mask,plain:=t.plain},((j0 owner (mask+1)).map (·.2)).toArray,?_,⟨rfl,?_,aIw r1,?_,?_,hp⟩,rfl,?_⟩
 ·unfold SetTable.relaid SetTable.laid
  rw[em,o1];rfl
 ·simpa using hlen
 ·intro i hi
  have hi':i<((j0 owner (mask+1)).map (·.1)).length:=by rw[hlen];exact hi
  show((j0 owner (mask+1)).map (·.1)).toArray.getD i 0<=mask
  have:((j0 owner (mask+1)).map (·.1)).toArray.getD i 0=((j0 owner (mask+1)).map (·.1))[i]:=by
   rw[Array.getD_eq_getD_getElem?,List.getElem?_toArray,List.getElem?_eq_getElem hi'];rfl
  rw[this]
  have:=r2 _ (List.getElem_mem hi')
  lia
 ·show mask=7/\n<5\/mask=31/\n<19\/mask=127/\n<77
  lia
 ·show((j0 owner (mask+1)).map (·.2)).Perm (List.range n)
  rw[<-o2,hsnd,<-hl];exact o3
abbrev cG(es:Array (Int×Value))(ep:Nat)(t:SetTable):Obj:={cls:=.type "set",dict:=none,data:=.set es ep t}
structure TupAt(h:Heap)(x:Addr)(ns:List Int):Prop where
 ex:∃o xs k,h.get? x=some o/\o.cls= .type "tuple"/\o.data= .seq xs k/\IntsAre xs.toList ns
section
variable{prog:Program}{w:World}{A:Around}{E:Value->Shared->Prop}{s:Shared}
theorem aEH(ho:s.heap.get? a=some (cG es ep t))(hz:es'.size<=63)
  (h:(s.heap.update a (Obj.putSet es' t')).get? a=some (cG es' (ep+1) t')->Q () {s with heap:=s.heap.update a (Obj.putSet es' t')}):wpAny (model prog w) A (storeSet a es' t') Q E s:=by
 refine wpAny_storeSet_of ho rfl (h ?_) (by rw[sizeLine_eq];lia)
 have:=Heap.get?_update_self (Obj.putSet es' t') ho (by rw[putSet_of es' t' rfl];rfl)
 rw[putSet_of es' t' rfl]at this;exact this
end
section
variable{prog:Program}{w:World}{A:Around}{R:Result->Shared->Prop}{I:Addr}{fp wr:List Addr}{G:Array GenState->Array GenState->Prop}{n:Nat}{St:Nat->Shared->Prop}{vs:List Value}{nss:List (List Int)}
end
end VL
namespace PySem
section
variable{prog:Program}{w:World}{A:Around}{E:Value->Shared->Prop}{s:Shared}
theorem aEU(a:Value)(h:Q₁ (.ref s.heap.objs.size) {s with heap:=s.heap.push (VL.cG #[] 0 (.fresh 0 0 (!w.params.followText "set-order")))}):
  codeAny (model prog w) A (.call (.builtin "set.__new__") ⟨[.type "set",a],[]⟩) (wants Q₁ E) s:=by
 refine codeAny_of_tree ?_;show wpAny _ A.in1 (checkBuiltinCall "set.__new__" ⟨[.type "set",a],[]⟩>>=λ _=>again (.builtin "set.__new__" ⟨[.type "set",a],[]⟩)) _ _ s;refine wpAny_bind (wpAny_of_eq (F.newCall_set_1 a) (wpAny_pure ⟨plainId_quiet PySem.F.plain_set_new _,codeAny_builtin PySem.F.entry_set_new ?_⟩));rw[Around.under_plainId PySem.F.plain_set_new _];unfold Builtin.«set.__new__» Builtin.Frozenset.newClass;have hsub:=sub_set_self;obtain⟨hp,g,d,tk,os⟩:=s;dsimp only;wp_walk;refine wpAny_askSetting (wpAny_pure ?_);dsimp only;simp only[newObj];exact wpAny_bind (wpAny_alloc (wpAny_pure (wpAny_pure h)))
set_option maxHeartbeats 3200000 in
theorem aAp{l:Addr}{T:String}{oI:Obj}{Φ:Heap->Prop}{Q:Value->Shared->Prop}(hty:s.TypeIs (.ref l) T)(hsls:isSubtype (.type T) (.type "set")=pure false)(hslf:isSubtype (.type T) (.type "frozenset")=pure false)(hne:(Value.type T==Value.type "dict")=false)
  (hit:∀(h₁:Heap) (A₁:Around) (E₁:Value->Shared->Prop) (Q₁:Value->Shared->Prop),(∀b o,s.heap.get? b=some o->h₁.get? b=some o)->Q₁ (.ref h₁.objs.size) {s with heap:=h₁.push oI}->wpAny (model prog w) A₁ (pyIter (.ref l)) Q₁ E₁ {s with heap:=h₁})
  (hrun:∀R:Result->Shared->Prop,(∀h' tk,Φ h'->(∀b o,s.heap.get? b=some o->h'.get? b=some o)->R (.ok (.ret .none)) {s with heap:=h',toks:=tk})->
   codeAny (model prog w) A.in1.in1 (.builtin "set.update.loop" ⟨[.ref s.heap.objs.size,.ref (s.heap.push (VL.cG #[] 0 (.fresh 0 0 (!w.params.followText "set-order")))).objs.size],[]⟩) R {s with heap:=(s.heap.push (VL.cG #[] 0 (.fresh 0 0 (!w.params.followText "set-order")))).push oI})
  (h:∀h' tk,Φ h'->(∀b o,s.heap.get? b=some o->h'.get? b=some o)->Q (.ref s.heap.objs.size) {s with heap:=h',toks:=tk}):
  wpAny (model prog w) A (call (.type "set") [.ref l]) Q E s:=by
 obtain⟨c,tl,hmro⟩:=F.called_set.mro;have hmade:=F.called_set.made;have hsub:=F.called_set.sub
 refine wpAny_call (codeAny_of_tree ?_);show wpAny _ _ (callAny (.type "set") _) _ _ _;refine wpAny_pure ⟨Code.quiet_builtin _ (by decide+kernel),codeAny_builtin PySem.F.entry_type_call ?_⟩;rw[Around.under_plain (weight_type_call_type "set" [.ref l] []) rfl];have h1:=F.called_set.notType;have h2:=F.called_set.canCreate
 have hct:=F.typeCall_set_1 (.ref l);repeat (any_goals (first|assumption|wp_step))
 generalize hled:(!w.params.followText "set-order")=led at hrun;refine codeAny_mono (aEU (.ref l) (E:=E) (Q₁:=λ obj s₁=>obj= .ref s.heap.objs.size/\s₁={s with heap:=s.heap.push (VL.cG #[] 0 (.fresh 0 0 led))}) ⟨rfl,by rw[hled]⟩) λ r s₁ hr=>?_
 cases r with
 |error e=>exact hr
 |ok fl=>
  cases fl with
  |ret obj=>
   obtain⟨rfl,rfl⟩:=hr;have hS:(s.heap.push (VL.cG #[] 0 (.fresh 0 0 led))).get? s.heap.objs.size=some (VL.cG #[] 0 (.fresh 0 0 led)):=Heap.get?_push_size _ rfl;have hT:Shared.TypeIs {s with heap:=s.heap.push (VL.cG #[] 0 (.fresh 0 0 led))} (.ref s.heap.objs.size) "set":=⟨_,hS,rfl⟩;have hli:=F.called_set.init.lookup;have hbi:=F.called_set.init.bind (.ref s.heap.objs.size)
   repeat (any_goals (first|assumption|wp_step))
   refine codeAny_mono (codeAny_call_builtin (R:=wants (λ r s₂=>r= .none/\∃h' tk,s₂={s with heap:=h',toks:=tk}/\Φ h'/\(∀b o,s.heap.get? b=some o->h'.get? b=some o)) E) F.called_set.init.plain F.entry_set_init (check_set_init_1 hT ?_)) λ r₂ s₂ hr₂=>?_
   ·obtain⟨ol,hol,hcl⟩:=hty
    obtain⟨ocls,odict,odata,oslots⟩:=ol;simp only at hcl;subst hcl;have hol':(s.heap.push (VL.cG #[] 0 (.fresh 0 0 led))).get? l=some {cls:=.type T,dict:=odict,data:=odata,slots:=oslots}:=Heap.get?_push_of_some _ hol;unfold Builtin.«set.__init__» noKeywords Builtin.Frozenset.updateFrom;generalize hPI:pyIter=PI;wp_walk;subst hPI;refine hit _ _ _ _ (λ b o e=>Heap.get?_push_of_some _ e) (wpAny_bind (wpAny_runValue (hrun _ λ h' tk g1 g2=>?_)));show wpAny _ _ _ _ _ _;refine wpAny_pure ?_;show wpAny _ _ (ret Value.none) _ _ _;exact wpAny_pure ⟨rfl,h',tk,rfl,g1,g2⟩
   ·cases r₂ with
    |error e=>exact hr₂
    |ok fl₂=>
     cases fl₂ with
     |ret r=>
      obtain⟨rfl,h',tk,rfl,g1,g2⟩:=hr₂
      repeat (any_goals (first|assumption|wp_step))
      exact h _ _ g1 g2
     |_=>exact hr₂.elim
  |_=>exact hr.elim
end
end PySem
namespace VL
open PySem PySem.Spec PyProof.Rows L2
theorem aAb:∀{l:List α} {i:Nat} (h:i<l.length),(l[i]::l.eraseIdx i).Perm l
 |a::l,0,_=>List.Perm.refl _
 |a::l,i+1,h=>by
  have h':i<l.length:=by simpa using h
  have ih:=aAb (l:=l) (i:=i) h'
  show(l[i]::a::l.eraseIdx i).Perm (a::l)
  exact(List.Perm.swap _ _ _).trans (ih.cons a)
theorem aCd(next:Nat->Nat):∀(f k:Nat) (left:List α) (out:Array α),left.length<=f->(pickOrder.go next f k left out).toList.Perm (out.toList++left)
 |0,k,left,out,h=>by
  have:left=[]:=List.length_eq_zero_iff.mp (by omega)
  subst this;rw[List.append_nil];exact List.Perm.refl _
 |f+1,k,left,out,h=>by
  unfold pickOrder.go;cases left with
  |nil=>simp
  |cons a l=>
   have hlt:next k%(a::l).length<(a::l).length:=Nat.mod_lt _ (by simp)
   rw[List.getElem?_eq_getElem hlt];dsimp only;refine(aCd next f (k+1) _ _ (by rw[List.length_eraseIdx];simp only[hlt,if_true];simp at h ⊢;omega)).trans ?_;rw[Array.toList_push,List.append_assoc];exact List.Perm.append_left _ (aAb hlt)
theorem aDW(next:Nat->Nat)(xs:Array α):(pickOrder next xs).toList.Perm xs.toList:=by
 have:=aCd next xs.size 0 xs.toList #[] (by simp)
 unfold pickOrder;simpa using this
def oV(w:World)(d:Addr)(ep:Nat)(es:Array (Int×Value)):Array (Int×Value):=if w.params.followText "set-order" then pickOrder (w.params.setOrder d ep) es else es
theorem mZ(w:World)(d:Addr)(ep:Nat)(es:Array (Int×Value)):(oV w d ep es).toList.Perm es.toList:=by
 unfold oV;split
 ·exact aDW _ _
 ·exact List.Perm.refl _
def slotAt(w:World)(t:SetTable):Nat->Nat
 |0=>0
 |i+1=>if w.params.followText "set-order" then 0 else t.place.getD i 0+1
theorem aCP(T:fV t n)(hf:w.params.followText "set-order"=false):∀i,i<=n->SetTable.below t.place (slotAt w t i)=i
 |0,_=>by
  obtain⟨b1,b2,b3⟩:=qD T.ris 0;show SetTable.below t.place 0=0;cases h:SetTable.below t.place 0 with
  |zero=>rfl
  |succ k=>
   rw[h]at b2
   have:=b2 0 (by omega)
   omega
 |i+1,hi=>by
  unfold slotAt;rw[hf];simp only[Bool.false_eq_true,if_false];obtain⟨b1,b2,b3⟩:=qD T.ris (t.place.getD i 0+1);have hs:=T.siz;rcases Nat.lt_trichotomy (SetTable.below t.place (t.place.getD i 0+1)) (i+1)with z|z|z
  ·have:=b3 i (by omega) (by omega)
   omega
  ·exact z
  ·have h1:=b2 (i+1) (by omega)
   have h2:=T.ris i (i+1) (by omega) (by omega);omega
section
variable{prog:Program}{w:World}{A:Around}{E:Value->Shared->Prop}{s:Shared}{d I:Addr}{es:Array (Int×Value)}{ep:Nat}{t:SetTable}{i':Nat}
theorem uH(ho:s.heap.get? d=some (cG es ep t))(T:fV t es.size)(hled:t.led= !w.params.followText "set-order")(hi:i<=es.size)
  (h:Q (((oV w d ep es)[i]?).map λ e=>(e.2,slotAt w t (i+1))) s):wpAny (model prog w) A (setNext d (slotAt w t i) i ep) Q E s:=by
 unfold setNext;refine wpAny_bind (wpAny_setState_of ho rfl T.fits ?_);dsimp only;unfold setsByText;refine wpAny_bind (wpAny_bind (wpAny_askSetting (wpAny_pure ?_)));show wpAny _ _ (if w.params.followText "set-order"=true then _ else _) _ _ _;unfold oV at h;cases hf:w.params.followText "set-order" with
 |true=>
  rw[hf]at h;simp only[if_true]at h ⊢;simp only[bne_self_eq_false,Bool.false_eq_true,if_false];unfold setWalk;refine wpAny_bind (wpAny_bind (wpAny_setState_of ho rfl T.fits ?_));dsimp only;unfold setsByText;refine wpAny_bind (wpAny_bind (wpAny_askSetting (wpAny_pure ?_)));show wpAny _ _ (if w.params.followText "set-order"=true then _ else _) _ _ _;rw[hf];simp only[if_true];refine wpAny_bind (wpAny_askSetting (wpAny_pure (wpAny_pure ?_)));have e1:slotAt w t (i+1)=slotAt w t i:=by
   unfold slotAt;cases i with
   |zero=>simp[hf]
   |succ i=>simp[hf]
  rw[e1]at h;exact h
 |false=>
  rw[hf]at h hled;simp only[Bool.false_eq_true,if_false]at h ⊢;have hd:(!t.plain&&decide (es.size>1))=false:=by rw[T.pla];rfl
  show wpAny _ _ (if (!t.plain&&decide (es.size>1))=true then _ else _) _ _ _;rw[hd];simp only[Bool.false_eq_true,if_false];refine wpAny_bind ?_;show wpAny _ _ (if (!t.led&& !es.isEmpty)=true then _ else _) _ _ _;rw[hled];simp only[Bool.not_false,Bool.not_true,Bool.false_and,Bool.false_eq_true,if_false];refine wpAny_pure ?_;rw[aCP T hf i hi];have hslot:slotAt w t (i+1)=t.place.getD i 0+1:=by unfold slotAt;rw[hf];rfl
  rw[hslot]at h;by_cases hlt:i<es.size
  ·have h1:es[i]? =some es[i]:=Array.getElem?_eq_getElem hlt
   have hlt2:i<t.place.size:=by rw[T.siz];exact hlt
   have h2:t.place[i]? =some (t.place.getD i 0):=by
    rw[Array.getElem?_eq_getElem hlt2];simp[Array.getD,hlt2]
   rw[h1,h2];rw[h1]at h;exact wpAny_pure h
  ·have h1:es[i]? =none:=Array.getElem?_eq_none (by omega)
   rw[h1];rw[h1]at h;exact wpAny_pure h
theorem bh:PySem.Slot "set_iterator" "__next__" "set_iterator.__next__":=
 .of (owner:="set_iterator") (n:="__next__") (by rw[typeLookup_type,builtinLookup_eq_fast];kernel_rfl) (by decide+kernel) (by decide+kernel) (by decide+kernel) (.inl (by decide+kernel)) (by rw[isSubtype_type];kernel_rfl)
theorem jH:PySem.Slot "set_iterator" "__iter__" "set_iterator.__iter__":=
 .of (owner:="set_iterator") (n:="__iter__") (by rw[typeLookup_type,builtinLookup_eq_fast];kernel_rfl) (by decide+kernel) (by decide+kernel) (by decide+kernel) (.inl (by decide+kernel)) (by rw[isSubtype_type];kernel_rfl)
theorem iw:entryFor table "set_iterator.__next__"=some Builtin.«set_iterator.__next__»:=entryFor_of_fast (by kernel_rfl)
theorem o5:entryFor table "set_iterator.__iter__"=some Builtin.«dict_keyiterator.__iter__»:=entryFor_alias (id':="dict_keyiterator.__iter__") (by kernel_rfl) rfl (by decide+kernel) (by kernel_rfl)
theorem sZ:entryFor table "set.__iter__"=some Builtin.«frozenset.__iter__»:=entryFor_alias (id':="frozenset.__iter__") (by kernel_rfl) rfl (by decide+kernel) (by kernel_rfl)
theorem jR(a:Value):argsOk "set_iterator.__next__" ⟨[a],[]⟩:=by unfold argsOk;kernel_rfl
theorem qF(a:Value):argsOk "set_iterator.__iter__" ⟨[a],[]⟩:=by unfold argsOk;kernel_rfl
end
section
variable{prog:Program}{w:World}{A:Around}{E:Value->Shared->Prop}{s:Shared}{d I:Addr}{es:Array (Int×Value)}{ep:Nat}{t:SetTable}{i':Nat}
abbrev aF8(d:Addr)(sl i n ep:Nat):Obj:={cls:=.type "set_iterator",data:=.fields #[.int sl 0,.int i 0,.ref d,.int n 0,.int ep 0]}
def aIB(h:Heap)(I d:Addr)(sl i n ep:Nat):Prop:=h.get? I=some (aF8 d sl i n ep)
theorem aF6{h:Heap}{sl i n ep k:Nat}(e:h.get? I=some {cls:=.type "set_iterator",data:=.fields vs}):(h.update I (Obj.mapFields (·.setIfInBounds k x))).get? I=some {cls:=.type "set_iterator",data:=.fields (vs.setIfInBounds k x)}:=by
 have:=Heap.get?_update_self (Obj.mapFields (·.setIfInBounds k x)) e (Obj.isFreed_of_fields (Obj.data_mapFields rfl _))
 rw[this];rfl
theorem aBQ(hI:aIB s.heap I d (slotAt w t i') i' es.size ep)(ho:s.heap.get? d=some (cG es ep t))(T:fV t es.size)(hled:t.led= !w.params.followText "set-order"){v:Value}(hi:i'<es.size)(hv:((oV w d ep es)[i']?).map (·.2)=some v){Q:Option Value->Shared->Prop}
  (h:∀h',aIB h' I d (slotAt w t (i'+1)) (i'+1) es.size ep->Heap.SameBut I s.heap h'->Q (some v) {s with heap:=h'}):wpAny (model prog w) A (pyNext (.ref I)) Q E s:=by
 have hT:s.TypeIs (.ref I) "set_iterator":=⟨_,hI,rfl⟩;unfold pyNext;refine wpAny_bind (wpAny_attempt (wpAny_callSpecial?_slot (name:=Str.ofString "__next__") hT bh (wpAny_call_entry bh hT iw ?_ (jR _))));show wpAny _ _ (fieldsOf (.ref I)>>=_) _ _ s;refine wpAny_bind (wpAny_fieldsOf hI rfl ?_);dsimp only;refine wpAny_bind ?_;unfold setEntries;refine wpAny_bind (wpAny_setState_of ho rfl T.fits (wpAny_pure ?_));simp only[bne_self_eq_false,Bool.false_eq_true,if_false];refine wpAny_bind ?_;simp only[Int.toNat_natCast];refine uH ho T hled (Nat.le_of_lt hi) ?_;cases hq:(oV w d ep es)[i']? with
 |none=>rw[hq]at hv;cases hv
 |some e=>
  rw[hq]at hv;cases hv;dsimp only[Option.map_some];refine wpAny_bind (wpAny_setField hI rfl (by simp) ?_);have e1:=aF6 (h:=s.heap) (I:=I) (k:=0) (x:=rawInt (slotAt w t (i'+1))) (sl:=0) (i:=0) (n:=0) (ep:=0) hI;refine wpAny_bind (wpAny_setField e1 rfl (by simp) ?_);have e2:=aF6 (k:=1) (x:=rawInt (i'+1)) (sl:=0) (i:=0) (n:=0) (ep:=0) e1;exact wpAny_pure ⟨_,rfl,wpAny_pure (h _ e2 ((Heap.SameBut.update ..).trans (Heap.SameBut.update ..)))⟩
theorem aDM(hh:A.handled=none)(hI:aIB s.heap I d (slotAt w t es.size) es.size es.size ep)(ho:s.heap.get? d=some (cG es ep t))(T:fV t es.size)(hled:t.led= !w.params.followText "set-order")
  (h:∀h',Heap.ExtBut I s.heap h'->Q none {s with heap:=h'}):wpAny (model prog w) A (pyNext (.ref I)) Q E s:=by
 have hT:s.TypeIs (.ref I) "set_iterator":=⟨_,hI,rfl⟩;unfold pyNext;refine wpAny_bind (wpAny_attempt (wpAny_callSpecial?_slot (name:=Str.ofString "__next__") hT bh (wpAny_call_entry bh hT iw ?_ (jR _))));show wpAny _ _ (fieldsOf (.ref I)>>=_) _ _ s;refine wpAny_bind (wpAny_fieldsOf hI rfl ?_);dsimp only;refine wpAny_bind ?_;unfold setEntries;refine wpAny_bind (wpAny_setState_of ho rfl T.fits (wpAny_pure ?_));simp only[bne_self_eq_false,Bool.false_eq_true,if_false];refine wpAny_bind ?_;simp only[Int.toNat_natCast];refine uH ho T hled (Nat.le_refl _) ?_;have hq:(oV w d ep es)[es.size]? =none:=Array.getElem?_eq_none (by
  have:=(mZ w d ep es).length_eq
  rw[Array.length_toList,Array.length_toList]at this;lia)
 rw[hq];dsimp only[Option.map_none];refine wpAny_bind (wpAny_setField hI rfl (by simp) ?_);show wpAny _ _ (newExc (.type "StopIteration") []>>=_) _ _ _;refine wpAny_bind ?_;simp only[newExc,newTuple];refine wpAny_bind (wpAny_newObj_type (wpAny_bind (m:=firstArgMember _ _) (wpAny_of_eq (a:=Value.none) (by first|rfl|(simp only[firstArgMember];rfl)) (wpAny_newObj_type ?_ (by size_fits)))) (by size_fits));simp only[raiseNew];refine wpAny_bind (wpAny_handled ?_);rw[show A.in1.handled=none from hh];refine wpAny_bind (wpAny_pure (wpAny_throw ?_));refine wpAny_bind (wpAny_isInstance (T:="StopIteration") (b:=true) ⟨_,Heap.get?_push_size _ rfl,rfl⟩ isSubtype_stop ?_);exact wpAny_pure (h _ (((Heap.SameBut.update ..).extBut.push _).push _))
theorem aDH(hh:A.handled=none)(I d:Addr)(hne:d≠I)(es:Array (Int×Value))(ep:Nat)(t:SetTable)(T:fV t es.size)(hled:t.led= !w.params.followText "set-order"):
  Walks prog w A I [I,d] [I] es.size (λ i v=>((oV w d ep es)[i]?).map (·.2)=some v) (λ i h=>aIB h I d (slotAt w t i) i es.size ep/\h.get? d=some (cG es ep t)) where
 sub:=λ b hb=>by simp at hb;simp[hb]
 frame:=λ _ _ _ st hk=>⟨hk I (by simp) _ st.1,hk d (by simp) _ st.2⟩
 item:=λ i s Q E hi st hQ=>by
  have hl:i<(oV w d ep es).size:=by
   have:=(mZ w d ep es).length_eq
   rw[Array.length_toList,Array.length_toList]at this;lia
  have hv:((oV w d ep es)[i]?).map (·.2)=some (oV w d ep es)[i].2:=by rw[Array.getElem?_eq_getElem hl];rfl
  refine aBQ st.1 st.2 T hled hi hv λ h' hI' hs'=>?_
  exact hQ _ h' s.toks hv ⟨hI',by rw[hs'.2 d hne];exact st.2⟩ λ b o hb e=>hs'.extBut b o (λ h=>hb (by simp[h])) e
 done:=λ s Q E st hQ=>aDM hh st.1 st.2 T hled λ h' he'=>hQ h' s.toks λ b o hb e=>he' b o (λ h=>hb (by simp[h])) e
 self:=λ i s Q E st hQ=>by
  have hT:s.TypeIs (.ref I) "set_iterator":=⟨_,st.1,rfl⟩;refine wpAny_pyIter_slot hT jH (wpAny_call_entry jH hT o5 ?_ (qF _));show wpAny _ _ (ret (.ref I)) _ _ s;exact wpAny_pure ⟨_,rfl,"set_iterator",_,hT,bh.lookup,hQ⟩
theorem aB8(ho:s.heap.get? d=some (cG es ep t))(T:fV t es.size)(h:Q (.ref s.heap.objs.size) {s with heap:=s.heap.push (aF8 d 0 0 es.size ep)}):wpAny (model prog w) A (pyIter (.ref d)) Q E s:=by
 have hT:s.TypeIs (.ref d) "set":=⟨_,ho,rfl⟩;refine wpAny_pyIter_slot hT PySem.F.slot_set_iter (wpAny_call_entry PySem.F.slot_set_iter hT sZ ?_ (PySem.F.args_set_iter_1 _));unfold Builtin.«frozenset.__iter__» Builtin.Frozenset.slot0 slotArgs;simp only[List.isEmpty_nil,Bool.not_true,Bool.false_eq_true,↓reduceIte,bind_assoc,List.length_nil,bne_self_eq_false];unfold Builtin.Frozenset.addrOf Builtin.Frozenset.sizeOf;refine wpAny_bind (wpAny_pure (wpAny_bind (wpAny_pure (wpAny_bind (wpAny_bind (wpAny_setEntries_of ho rfl T.fits (wpAny_pure ?_)))))));unfold setDrawn;refine wpAny_bind (wpAny_bind (wpAny_setState_of ho rfl T.fits ?_));dsimp only;unfold setsByText;refine wpAny_bind (wpAny_bind (wpAny_askSetting (wpAny_pure (wpAny_pure ?_))));have hd:(!w.params.followText "set-order"&&(!t.plain&&decide (es.size>1)))=false:=by rw[T.pla];simp
 show wpAny _ _ (if (!w.params.followText "set-order"&&(!t.plain&&decide (es.size>1)))=true then _ else _) _ _ _;rw[hd];simp only[Bool.false_eq_true,if_false];refine wpAny_bind (wpAny_pure (wpAny_bind (wpAny_setEpoch_of ho rfl T.fits ?_)));simp only[newFields];refine wpAny_bind (wpAny_newObj_type (wpAny_pure ⟨_,rfl,"set_iterator",_,⟨_,Heap.get?_push_size _ rfl,rfl⟩,bh.lookup,?_⟩));exact h
theorem aFh(hT:s.TypeIs (.ref r) "set")(h:Q false s):wpAny (model prog w) A (Builtin.List.listLengthHint (.ref r)) Q E s:=by
 unfold Builtin.List.listLengthHint;refine wpAny_bind (wpAny_specialOf hT PySem.F.slot_set_len.lookup ?_);generalize hid:("set.__len__":String)=id0;wp_delta;rw[show splitId id0=some ("set","__len__")from by subst hid;decide+kernel];subst hid;refine wpAny_bind (wpAny_isInstance (T:="set") (b:=true) hT (by rw[isSubtype_type];kernel_rfl) ?_);refine wpAny_ite_split (λ hab=>absurd hab (by decide)) λ _=>wpAny_ite_split (λ _=>?_) λ hab=>absurd (by decide+kernel) hab
 exact wpAny_bind (wpAny_typeOf hT (wpAny_pure h))
theorem aG0(T:fV t es.size)(hled:t.led= !w.params.followText "set-order"):PySem.W.KdlSrc prog w "set" d d es.size (λ i v=>((oV w d ep es)[i]?).map (·.2)=some v) (λ h=>h.get? d=some (cG es ep t)) where
 type:=λ _ hm=>⟨_,hm,rfl⟩
 there:=λ _ hm=>⟨Heap.lt_size hm,Heap.lt_size hm⟩
 keep:=λ _ _ hm hk=>hk d (.inl rfl) _ hm
 notList:=by decide
 notTuple:=by decide
 hint:=λ _ _ _ _ hm hq=>aFh ⟨_,hm,rfl⟩ hq
 iter:=λ A s hh hm=>⟨aF8 d 0 0 es.size ep,_,(λ _ _ hq=>aB8 hm T hq),aDH hh _ d (Nat.ne_of_lt (Heap.lt_size hm)) es ep t T hled,⟨Heap.get?_push_size _ rfl,Heap.get?_push_of_some _ hm⟩⟩
end
section
variable{prog:Program}{w:World}{A:Around}{E:Value->Shared->Prop}{s:Shared}{T:String}{r d:Addr}{n:Nat}{P:Nat->Value->Prop}{OK:Heap->Prop}
theorem aAm(K:PySem.W.KdlSrc prog w T r d n P OK)(hh:A.handled=none)(hok:OK s.heap)(hn:n<=sizeLine)
  (h:∀h' tk vs,s.heap.objs.size<h'.objs.size->(∀b o,s.heap.get? b=some o->h'.get? b=some o)->vs.length=n->(∀(j:Nat) v,vs[j]? =some v->P j v)->Q vs {s with heap:=h',toks:=tk}):wpAny (model prog w) A (collect (.ref r)) Q E s:=by
 have hlt:=K.there _ hok;unfold collect;refine wpAny_bind (wpAny_runValue (codeAny_builtin PySem.F.entry_proto_collect ?_));rw[Around.under_plainId PySem.F.plain_proto_collect _];show wpAny _ A.in1 (newList []>>=λ l=>again (.builtin "list.__iadd__" ⟨[l,.ref r],[]⟩)) _ _ s;refine wpAny_bind (wpAny_newObj_type (wpAny_pure ⟨plainId_quiet PySem.F.plain_list_iadd _,codeAny_builtin PySem.F.entry_list_iadd ?_⟩));rw[Around.under_plainId PySem.F.plain_list_iadd _];show wpAny _ A.in1 (Builtin.List.listExtendWith (.ref s.heap.objs.size) (.ref r) (.ref s.heap.objs.size)) _ _ _;have fin:∀h' tk acc' c',(∀b o,b≠s.heap.objs.size->(s.heap.push (seqObj "list" #[] 0)).get? b=some o->h'.get? b=some o)->h'.get? s.heap.objs.size=some {cls:=.type "list",dict:=none,data:=.seq acc' c',slots:=#[]}->ItemsOf P acc' n->
   wpAny (model prog w) A (do match (Value.ref s.heap.objs.size)with
    | .ref a=>match (<-load a).data with
     | .seq xs _=>pure xs.toList
     |_=>unsupported "internal:collect"
    |_=>unsupported "internal:collect") Q E {s with heap:=h',toks:=tk}:=λ h' tk acc' c' hk hS' hacc=>
  wpAny_bind (wpAny_load hS' (wpAny_pure (h h' tk acc'.toList (Heap.lt_size hS') (λ b o e=>hk b o (Nat.ne_of_lt (Heap.lt_size e)) (Heap.get?_push_of_some _ e)) (by rw[Array.length_toList];exact hacc.1) λ j v e=>hacc.2 j v (by rw[<-Array.getElem?_toList];exact e))))
 refine wpAny_mono (PySem.W.kdl_extend (A:=A) (s:={s with heap:=s.heap.push (seqObj "list" #[] 0)}) (R:=λ r s'=>∃h' tk acc' c',r= .ok (.ret (.ref s.heap.objs.size))/\s'={s with heap:=h',toks:=tk}/\(∀b o,b≠s.heap.objs.size->(s.heap.push (seqObj "list" #[] 0)).get? b=some o->h'.get? b=some o)/\h'.get? s.heap.objs.size=some {cls:=.type "list",dict:=none,data:=.seq acc' c',slots:=#[]}/\ItemsOf P acc' n)
  K hh (K.keep _ _ hok λ b _ o e=>Heap.get?_push_of_some _ e) s.heap.objs.size (Nat.ne_of_gt hlt.1) (Nat.ne_of_gt hlt.2) (.ref s.heap.objs.size) 0 (Heap.get?_push_size _ rfl) (λ h' tk acc' c' hk hS' hacc=>⟨h',tk,acc',c',rfl,rfl,hk,hS',hacc⟩) hn) (λ f s' hf=>?_) λ e s' he=>?_
 ·cases f with
  |done f=>
   obtain⟨h',tk,acc',c',q1,q2,q3,q4,q5⟩:=hf;cases q1;subst q2;exact fin h' tk acc' c' q3 q4 q5
  |again c=>
   refine⟨hf.1,codeAny_mono hf.2 λ r s' hr=>?_⟩;obtain⟨h',tk,acc',c',q1,q2,q3,q4,q5⟩:=hr;subst q1 q2;exact fin h' tk acc' c' q3 q4 q5
 ·obtain⟨h',tk,acc',c',q1,_⟩:=he
  cases q1
end
def aHz(h:Heap)(p:Value×List Int):Prop:=∃x o xs k,p.1= .ref x/\h.get? x=some o/\o.cls= .type "tuple"/\o.data= .seq xs k/\IntsAre xs.toList p.2/\p.2≠[]
theorem dG.all:∀{vs:List Value} {nss:List (List Int)},dG h vs nss->∀p∈vs.zip nss,aHz h p
 |_,_,.nil,p,hp=>by simp at hp
 |_,_,.cons ho hc hd hi hne r,p,hp=>by
  rw[List.zip_cons_cons]at hp;rcases List.mem_cons.mp hp with e|hp
  ·subst e;exact⟨_,_,_,_,rfl,ho,hc,hd,hi,hne⟩
  ·exact r.all p hp
theorem aCV:∀{zs:List (Value×List Int)},(∀p∈zs,aHz h p)->dG h (zs.map (·.1)) (zs.map (·.2))
 |[],_=>.nil
 |p::zs,hz=>by
  obtain⟨x,o,xs,k,e1,e2,e3,e4,e5,e6⟩:=hz p List.mem_cons_self;rw[List.map_cons,List.map_cons,e1];exact .cons e2 e3 e4 e5 e6 (aCV λ q hq=>hz q (List.mem_cons_of_mem _ hq))
theorem pL(h:l.Perm m'):∀{m:List α},m'=m.map f->∃m2:List α,m2.Perm m/\l=m2.map f:=by
 induction h with
 |nil=>intro m e;exact⟨m,List.Perm.refl _,e⟩
 |cons x p ih=>
  intro m e;cases m with
  |nil=>cases e
  |cons a m=>
   rw[List.map_cons]at e;injection e with e1 e2
   obtain⟨m2,q1,q2⟩:=ih e2;exact⟨a::m2,q1.cons a,by rw[List.map_cons,q2,e1]⟩
 |swap x y l=>
  intro m e;cases m with
  |nil=>cases e
  |cons a m=>
   cases m with
   |nil=>rw[List.map_cons]at e;injection e with _ e2;cases e2
   |cons b m=>
    rw[List.map_cons,List.map_cons]at e;injection e with e1 e2
    injection e2 with e2 e3
    exact⟨b::a::m,List.Perm.swap _ _ _,by rw[List.map_cons,List.map_cons,e1,e2,e3]⟩
 |trans p q ih1 ih2=>
  intro m e;obtain⟨m2,a1,a2⟩:=ih2 e;obtain⟨m3,b1,b2⟩:=ih1 a2;exact⟨m3,b1.trans a1,b2⟩
def qG(l:List (List Int)):Prop:=l.Pairwise λ a b=>HT.lexLt b a=false
section
variable{prog:Program}{w:World}{A:Around}{E:Value->Shared->Prop}{s:Shared}
theorem z8{Q:Value->Shared->Prop}(hz:∀p∈zs,aHz s.heap p)(h64:zs.length<64)
  (h:∀(zs':List (Value×List Int)) h' e,zs'.Perm zs->qG (zs'.map (·.2))->(∀b o,s.heap.get? b=some o->h'.get? b=some o)->h'.get? s.heap.objs.size=some (seqObj "list" (zs'.map (·.1)).toArray e)->Q (.ref s.heap.objs.size) {s with heap:=h'}):
  wpAny (model prog w) A (newList (zs.map (·.1))>>=λ l=>holding [l] (call (.builtin "list.sort") [l])>>=λ _=>ret l) (λ fin s'=>∃r,fin= .done (.ret r)/\Q r s') E s:=by
 have hlen:(zs.map (·.1)).length=zs.length:=List.length_map _;refine wpAny_bind (wpAny_newList ?_ (by rw[sizeLine_eq];omega));have hoL:(s.heap.push (seqObj "list" (zs.map (·.1)).toArray 0)).get? s.heap.objs.size=some (seqObj "list" (zs.map (·.1)).toArray 0):=Heap.get?_push_size _ rfl;refine wpAny_bind (wpAny_holding (wpAny_call_entry slot_list_sort ⟨_,hoL,rfl⟩ entry_list_sort ?_ (args_list_sort _)));refine aBq (s:={s with heap:=s.heap.push (seqObj "list" (zs.map (·.1)).toArray 0)}) hoL (aCV λ p hp=>?_) (by omega) λ p a1 a2=>⟨_,rfl,?_⟩
 ·obtain⟨x,o,xs,k,e1,e2,e3⟩:=hz p hp
  exact⟨x,o,xs,k,e1,Heap.get?_push_of_some _ e2,e3⟩
 rw[hlen]at a1 a2;have hmap:p.toList.map (λ i=>(zs.map (·.1)).getD i Value.none)=(p.toList.map λ i=>zs.getD i (Value.none,[])).map (·.1):=by
  rw[List.map_map];refine List.map_congr_left λ i hi=>?_
  show(zs.map (·.1)).getD i Value.none=(zs.getD i (Value.none,[])).1
  rw[List.getD_eq_getElem?_getD,List.getD_eq_getElem?_getD,List.getElem?_map];cases zs[i]?<;>rfl
 have hperm:(p.toList.map λ i=>zs.getD i (Value.none,[])).Perm zs:=by
  have h1:p.toList.Perm (List.range zs.length):=by
   have:=Array.perm_iff_toList_perm.mp a1
   simpa using this
  refine(h1.map _).trans ?_
  have:(List.range zs.length).map (λ i=>zs.getD i (Value.none,[]))=zs:=by
   refine List.ext_getElem (by simp) λ i h1 h2=>?_
   rw[List.getElem_map,List.getElem_range,List.getD_eq_getElem?_getD,List.getElem?_eq_getElem h2];rfl
  rw[this]
 have hne:∀b o,s.heap.get? b=some o->b≠s.heap.objs.size:=λ b o e=>Nat.ne_of_lt (Heap.lt_size e)
 obtain⟨e1,he1⟩:∃e1,((s.heap.push (seqObj "list" (zs.map (·.1)).toArray 0)).update s.heap.objs.size (Obj.mapSeq λ _=>(#[]:Array Value))).get? s.heap.objs.size=some (seqObj "list" #[] e1):=⟨_,get?_update_seq hoL λ _=>#[]⟩
 have g1:=Heap.get?_push_of_some (seqObj "list" #[] 0) (Heap.get?_push_of_some (seqObj "tuple" (zs.map (·.1)).toArray 0) he1);have g2:=get?_update_seq g1 (λ _=>nM (zs.map (·.1)) p);generalize (if ((nM (zs.map (·.1)) p).size==(#[]:Array Value).size)=true then e1 else e1+1)=c1 at g2;have hend:(sortedHeap (s.heap.push (seqObj "list" (zs.map (·.1)).toArray 0)) s.heap.objs.size (zs.map (·.1)) (nM (zs.map (·.1)) p)).get? s.heap.objs.size=some (seqObj "list" (nM (zs.map (·.1)) p) c1):=g2;have hout:nM (zs.map (·.1)) p=((p.toList.map λ i=>zs.getD i (Value.none,[])).map (·.1)).toArray:=by unfold nM;rw[hmap]
 have hris:qG ((p.toList.map λ i=>zs.getD i (Value.none,[])).map (·.2)):=by
  unfold qG;rw[List.map_map];refine List.pairwise_iff_getElem.mpr λ i j hi hj hij=>?_
  rw[List.length_map,Array.length_toList,a1.sz]at hi hj;have hk:∀k (hk:k<zs.length),Kp (O:=aBr) (λ i=>(zs.map (·.2)).getD i []) p k=(zs.getD (p.getD k 0) (Value.none,[])).2:=λ k hk=>by
   show(zs.map (·.2)).getD (p.getD k 0) []=_
   rw[List.getD_eq_getElem?_getD,List.getD_eq_getElem?_getD,List.getElem?_map];cases zs[p.getD k 0]?<;>rfl
  have hg:∀k (hk:k<p.toList.length),p.toList[k]=p.getD k 0:=λ k hk=>by
   have:k<p.size:=by simpa using hk
   simp[Array.getD,this]
  have this:HT.lexLt (Kp (O:=aBr) (λ i=>(zs.map (·.2)).getD i []) p j) (Kp (O:=aBr) (λ i=>(zs.map (·.2)).getD i []) p i)=false:=a2 i j (Nat.le_of_lt hij) hj;rw[hk i hi,hk j hj]at this;rw[List.getElem_map,List.getElem_map,hg,hg];exact this
 have hkeep:∀b o,s.heap.get? b=some o->(sortedHeap (s.heap.push (seqObj "list" (zs.map (·.1)).toArray 0)) s.heap.objs.size (zs.map (·.1)) (nM (zs.map (·.1)) p)).get? b=some o:=λ b o e=>by
  unfold sortedHeap;rw[Heap.get?_update_ne _ _ _ _ (hne b o e)];refine Heap.get?_push_of_some _ (Heap.get?_push_of_some _ ?_);rw[Heap.get?_update_ne _ _ _ _ (hne b o e)];exact Heap.get?_push_of_some _ e
 rw[hout]at hend hkeep;have hq:=h (p.toList.map λ i=>zs.getD i (Value.none,[])) _ c1 hperm hris hkeep hend;rw[<-hout]at hq;exact wpAny_pure ⟨_,rfl,hq⟩
theorem pF(h:wpAny (model prog w) A.in1 (collect v) (λ vs s'=>wpAny (model prog w) A.in1 (newList vs>>=λ l=>holding [l] (call (.builtin "list.sort") [l])>>=λ _=>ret l) (λ fin s'=>∃r,fin= .done (.ret r)/\Q r s') E s') E s):
  wpAny (model prog w) A (call (.builtin "sorted") [v]) Q E s:=by
 refine Calls.call_function_entry kind_sorted plain_sorted entry_sorted (args_sorted1 _) ?_;unfold Builtin.«sorted»;refine wpAny_bind (m:=checkCount "sorted" 1 1 _) (wpAny_pure (wpAny_bind ?_));exact h
end
inductive gh(K:PySem.W.Frag)(H:Hp):List V->List (List Int)->Prop where
 |nil:gh K H [] []
 |cons {a:Addr} {ns:List Int} {vs:List V} {nss:List (List Int)} (h:SqT K H a (ns.map V.int)) (hne:ns≠[]) (r:gh K H vs nss):gh K H (.ref a::vs) (ns::nss)
def q9:V->Value
 | .ref a=>.ref a
 |_=>.none
theorem gh.vals{K:PySem.W.Frag}:∀{vs:List V} {nss:List (List Int)} {us:List Value},gh K H vs nss->Vals vs us->us=vs.map q9:=by
 intro vs nss us t v;induction v generalizing nss with
 |nil=>rfl
 |cons q s ih=>
  cases t with
  |cons _ _ r=>
   cases q;rw[List.map_cons,ih r];rfl
theorem gh.len{K:PySem.W.Frag}:∀{vs:List V} {nss:List (List Int)},gh K H vs nss->vs.length=nss.length
 |_,_,.nil=>rfl
 |_,_,.cons _ _ r=>by rw[List.length_cons,List.length_cons,r.len]
theorem gh.refs{K:PySem.W.Frag}:∀{vs:List V} {nss:List (List Int)},gh K H vs nss->∀v∈vs,RelV v (q9 v)
 |_,_,.nil,v,hv=>by simp at hv
 |_,_,.cons _ _ r,v,hv=>by
  rcases List.mem_cons.mp hv with e|hv
  ·subst e;exact rfl
  ·exact r.refs v hv
theorem gh.at(I:Inv X pins σ H s):∀{vs:List V} {nss:List (List Int)},gh X.K H vs nss->dG s.heap (vs.map q9) nss
 |_,_,.nil=>.nil
 |_,_,.cons h hne r=>by
  obtain⟨its,rv,⟨o,ho,hc,n,hd⟩,_⟩:=I.tuple h;exact .cons ho hc hd (by simpa using intsAre_of rv) hne (r.at I)
theorem wF:∀{vs:List V},(∀v∈vs,RelV v (q9 v))->Vals vs (vs.map q9)
 |[],_=>.nil
 |v::vs,h=>.cons (h v List.mem_cons_self) (wF λ u hu=>h u (List.mem_cons_of_mem _ hu))
section
variable{X:Cx}
def aGN(H:Hp)(vs:List V)(nss:List (List Int))(Q:VK):Prop:=∀zs:List (V×List Int),zs.Perm (vs.zip nss)->qG (zs.map (·.2))->New H (.lst (zs.map (·.1))) Q
theorem aBO{pins:List (Addr×Obj)}(I:Inv X pins σ H s)(ht:gh X.K H vs nss)(h64:vs.length<64)(q:aGN H vs nss Q)
  (hs1:∃h1 tk,s1={s with heap:=h1,toks:=tk}/\s.heap.objs.size<=h1.objs.size/\∀b o,s.heap.get? b=some o->h1.get? b=some o){zs:List (Value×List Int)}(hz:zs.Perm ((vs.map q9).zip nss))(hus:us=zs.map (·.1)):
  wpAny (model X.prog X.w) X.A.in1 (newList us>>=λ l=>holding [l] (call (.builtin "list.sort") [l])>>=λ _=>ret l) (λ fin s'=>∃r,fin= .done (.ret r)/\EP X pins σ Q r s') X.xe s1:=by
 obtain⟨h1,tk,rfl,hsz,keep⟩:=hs1;subst hus;have hall:∀p∈zs,aHz h1 p:=λ p hp=>by
  obtain⟨x,o,xs,k,e1,e2,e3⟩:=(ht.at I).all p (hz.mem_iff.mp hp);exact⟨x,o,xs,k,e1,keep _ _ e2,e3⟩
 have hlen:zs.length<64:=by
  rw[hz.length_eq,List.length_zip,List.length_map,<-ht.len,Nat.min_self];exact h64
 refine z8 (s:={s with heap:=h1,toks:=tk}) hall hlen λ zs' h' e a1 a2 a3 a4=>?_
 have hmap:(vs.map q9).zip nss=(vs.zip nss).map λ p=>(q9 p.1,p.2):=by rw[List.zip_map_left];rfl
 obtain⟨ws,w1,w2⟩:=pL (f:=λ p:V×List Int=>(q9 p.1,p.2)) (a1.trans hz) hmap;have hfr:H h1.objs.size=none:=I.hok.fresh hsz;have hmem:∀v∈ws.map (·.1),RelV v (q9 v):=λ v hv=>by
  obtain⟨p,hp,rfl⟩:=List.mem_map.mp hv;exact ht.refs p.1 (List.of_mem_zip (w1.mem_iff.mp hp)).1
 have hws:zs'.map (·.1)=(ws.map (·.1)).map q9:=by rw[w2,List.map_map,List.map_map];rfl
 have hwl:(ws.map (·.1)).length<=sizeLine:=by
  rw[List.length_map,w1.length_eq,List.length_zip,<-ht.len,Nat.min_self,sizeLine_eq];lia
 refine⟨.ref h1.objs.size,upd H h1.objs.size (.lst (ws.map (·.1))),I.laid (t':=tk) (λ b o e=>a3 b o (keep b o e)) hsz ⟨hwl,(ws.map (·.1)).map q9,e,wF hmem,?_⟩,rfl,(q ws w1 ?_).at hfr⟩
 ·rw[<-hws];exact a4
 ·have:ws.map (·.2)=zs'.map (·.2):=by rw[w2,List.map_map];rfl
  rw[this];exact a2
def aB6(K:PySem.W.Frag):List V->Hp->VK->Prop:=λ xs H Q=>∃p vs nss,xs=[.ref p]/\SqL K H p vs/\gh K H vs nss/\vs.length<64/\aGN H vs nss Q
theorem wB:cO X (.builtin "sorted") (aB6 X.K):=by
 intro pins s σ H xs us Q I r h;obtain⟨p,vs,nss,rfl,hp,ht,h64,q⟩:=h;obtain⟨u,rfl,ru⟩:=vals1 r;cases ru;obtain⟨its,rv,pl,hz⟩:=I.list hp;have e:=ht.vals rv;subst e;have hl2:(vs.map q9).length=nss.length:=by rw[List.length_map];exact ht.len
 refine pF (collect_list pl.isList ?_ (by rw[List.length_map];exact hz));refine aBO I ht h64 q ⟨_,_,rfl,?_,λ b o e=>?_⟩ (List.Perm.refl _) ?_
 ·rw[Heap.size_update,size_push']
  exact Nat.le_succ _
 ·rw[Heap.get?_update_ne _ _ _ _ (Nat.ne_of_lt (Heap.lt_size e))]
  exact Heap.get?_push_of_some _ e
 ·exact(List.map_fst_zip (by lia)).symm
end
def aDi(a:List Int):List (List Int)->List (List Int)
 |[]=>[a]
 |b::l=>if HT.lexLt b a then b::aDi a l else a::b::l
def wM:List (List Int)->List (List Int)
 |[]=>[]
 |a::l=>aDi a (wM l)
theorem qz(a:List Int):∀l,(aDi a l).Perm (a::l)
 |[]=>List.Perm.refl _
 |b::l=>by
  unfold aDi;split
  ·exact((qz a l).cons b).trans (List.Perm.swap _ _ _)
  ·exact List.Perm.refl _
theorem uE:∀l,(wM l).Perm l
 |[]=>List.Perm.refl _
 |a::l=>(qz a _).trans ((uE l).cons a)
theorem aHM(h:HT.lexLt a b=true):HT.lexLt b a=false:=by
 cases e:HT.lexLt b a with
 |false=>rfl
 |true=>have:=pP a b a h e;rw[yh]at this;cases this
theorem aJh(h1:HT.lexLt b a=false)(h2:HT.lexLt c b=false):HT.lexLt c a=false:=by
 cases e:HT.lexLt c a with
 |false=>rfl
 |true=>
  rcases aFQ c b a e with z|z
  ·rw[h2]at z;cases z
  ·rw[h1]at z;cases z
theorem uv(a:List Int):∀l,qG l->qG (aDi a l)
 |[],_=>List.pairwise_cons.mpr ⟨λ _ h=>by simp at h,.nil⟩
 |b::l,h=>by
  obtain⟨h1,h2⟩:=List.pairwise_cons.mp h;unfold aDi;cases e:HT.lexLt b a with
  |true=>
   rw[if_pos rfl];refine List.pairwise_cons.mpr ⟨λ x hx=>?_,uv a l h2⟩;rcases List.mem_cons.mp ((qz a l).mem_iff.mp hx)with q|q
   ·subst q;exact aHM e
   ·exact h1 x q
  |false=>
   rw[if_neg (by simp)];refine List.pairwise_cons.mpr ⟨λ x hx=>?_,h⟩;rcases List.mem_cons.mp hx with q|q
   ·subst q;exact e
   ·exact aJh e (h1 x q)
theorem rK:∀l,qG (wM l)
 |[]=>.nil
 |a::l=>uv a _ (rK l)
theorem wQ:∀{a b:List (List Int)},a.Perm b->qG a->qG b->a=b
 |[],b,p,_,_=>p.nil_eq
 |x::a,b,p,h1,h2=>by
  cases b with
  |nil=>exact absurd p.length_eq (by simp)
  |cons y b=>
   have hxy:x=y:=by
    obtain⟨q1,_⟩:=List.pairwise_cons.mp h1;obtain⟨q2,_⟩:=List.pairwise_cons.mp h2;have m1:x∈y::b:=p.mem_iff.mp List.mem_cons_self;have m2:y∈x::a:=p.mem_iff.mpr List.mem_cons_self;rcases List.mem_cons.mp m1 with e|m1
    ·exact e
    ·rcases List.mem_cons.mp m2 with e|m2
     ·exact e.symm
     ·exact yg _ _ (q2 x m1) (q1 y m2)
   subst hxy;rw[wQ (List.Perm.cons_inv p) (List.pairwise_cons.mp h1).2 (List.pairwise_cons.mp h2).2]
abbrev tupI(ns:List Int):D:=.tup (ns.map .int)
def tX:List D->Option (List (List Int))
 |[]=>some []
 | .tup l::r=>match intsOf l,tX r with
  |some (n::ns),some nss=>some ((n::ns)::nss)
  |_,_=>none
 |_=>none
theorem rH:∀{l:List D} {nss:List (List Int)},tX l=some nss->l=nss.map tupI/\∀ns∈nss,ns≠[]
 |[],nss,h=>by cases h;exact⟨rfl,λ ns h=>by simp at h⟩
 | .tup l::r,nss,h=>by
  unfold tX at h;split at h
  ·rename_i n ns nss' e1 e2
   cases h;obtain⟨q1,q2⟩:=rH e2;rw[dN e1,q1];refine⟨rfl,λ ms hm=>?_⟩;rcases List.mem_cons.mp hm with e|hm
   ·subst e;simp
   ·exact q2 ms hm
  ·cases h
 | .non::_,_,h=>by cases h
 | .int _::_,_,h=>by cases h
 | .bl _::_,_,h=>by cases h
 | .str _::_,_,h=>by cases h
 | .lst _::_,_,h=>by cases h
 | .dct _ _::_,_,h=>by cases h
 | .set _::_,_,h=>by cases h
 | .scr _::_,_,h=>by cases h
theorem zY{K:PySem.W.Frag}:∀{xs:List V} {nss:List (List Int)},Rps K A H xs (nss.map tupI)->(∀ns∈nss,ns≠[])->gh K H xs nss
 |_,[],.nil,_=>.nil
 |_,ns::nss,.cons h r,hne=>by
  cases h with
  |tup h r'=>
   have e:=r'.ints_of;subst e;exact .cons h (hne ns List.mem_cons_self) (zY r λ ms hm=>hne ms (List.mem_cons_of_mem _ hm))
theorem aE2{K:PySem.W.Frag}:∀{zs:List (V×List Int)},(∀p∈zs,∃a,p.1= .ref a/\SqT K H a (p.2.map V.int))->Rps K A H (zs.map (·.1)) ((zs.map (·.2)).map tupI)
 |[],_=>.nil
 |p::zs,h=>by
  obtain⟨a,e1,e2⟩:=h p List.mem_cons_self;rw[List.map_cons,List.map_cons,List.map_cons,e1];exact .cons (.tup e2 .ints) (aE2 λ q hq=>h q (List.mem_cons_of_mem _ hq))
theorem gh.all{K:PySem.W.Frag}:∀{vs:List V} {nss:List (List Int)},gh K H vs nss->∀p∈vs.zip nss,∃a,p.1= .ref a/\SqT K H a (p.2.map V.int)
 |_,_,.nil,p,hp=>by simp at hp
 |_,_,.cons h _ r,p,hp=>by
  rw[List.zip_cons_cons]at hp;rcases List.mem_cons.mp hp with e|hp
  ·subst e;exact⟨_,rfl,h⟩
  ·exact r.all p hp
theorem aEM{K:PySem.W.Frag}(ht:gh K H vs nss)(q:∀v H',aU H H'->Rp K (λ p=>H p=none) H' v (.lst ((wM nss).map tupI))->Q v H'):aGN H vs nss Q:=by
 intro zs hz hr p H' s hp hn;have e:zs.map (·.2)=wM nss:=wQ (((hz.map (·.2)).trans (by rw[List.map_snd_zip (by rw[ht.len];exact Nat.le_refl _)])).trans (uE nss).symm) hr (rK nss);refine q _ H' s (.lst hp hn ?_);rw[<-e];exact aE2 λ p hp=>by
  obtain⟨a,e1,e2⟩:=ht.all p (hz.mem_iff.mp hp);exact⟨a,e1,s.sqt e2⟩
def insI(a:Int):List Int->List Int
 |[]=>[a]
 |b::l=>if b<a then b::insI a l else a::b::l
def sortI:List Int->List Int
 |[]=>[]
 |a::l=>insI a (sortI l)
theorem insI_perm(a:Int):∀l,(insI a l).Perm (a::l)
 |[]=>List.Perm.refl _
 |b::l=>by
  unfold insI;split
  ·exact((insI_perm a l).cons b).trans (List.Perm.swap _ _ _)
  ·exact List.Perm.refl _
theorem sortI_perm:∀l,(sortI l).Perm l
 |[]=>List.Perm.refl _
 |a::l=>(insI_perm a _).trans ((sortI_perm l).cons a)
theorem aAa(a:Int):∀l:List Int,l.Pairwise (·<=·)->(insI a l).Pairwise (·<=·)
 |[],_=>List.pairwise_cons.mpr ⟨λ _ h=>by simp at h,.nil⟩
 |b::l,h=>by
  obtain⟨h1,h2⟩:=List.pairwise_cons.mp h;unfold insI;by_cases e:b<a
  ·rw[if_pos e]
   refine List.pairwise_cons.mpr ⟨λ x hx=>?_,aAa a l h2⟩;rcases List.mem_cons.mp ((insI_perm a l).mem_iff.mp hx)with q|q
   ·lia
   ·exact h1 x q
  ·rw[if_neg e]
   refine List.pairwise_cons.mpr ⟨λ x hx=>?_,h⟩;rcases List.mem_cons.mp hx with q|q
   ·lia
   ·have:=h1 x q;lia
theorem iD:∀l,(sortI l).Pairwise (·<=·)
 |[]=>.nil
 |a::l=>aAa a _ (iD l)
theorem dY:∀{us:List Value} {ns:List Int},IntsAre us ns->Vals (ns.map V.int) us
 |_,_,.nil=>.nil
 |_,_,.cons n t r=>.cons ⟨t,rfl⟩ (dY r)
section
variable{X:Cx}
def aB7(K:PySem.W.Frag):List V->Hp->VK->Prop:=λ xs H Q=>∃p ns,xs=[.ref p]/\SqL K H p (ns.map V.int)/\ns.length<64/\New H (.lst ((sortI ns).map V.int)) Q
theorem ph:cO X (.builtin "sorted") (aB7 X.K):=by
 intro pins s σ H xs us Q I r h;obtain⟨p,ns,rfl,hp,h64,q⟩:=h;obtain⟨u,rfl,ru⟩:=vals1 r;cases ru;obtain⟨its,rv,pl,hz⟩:=I.list hp;have hI:IntsAre its ns:=intsAre_of rv;have hlen:its.length<64:=by
  have:=rv.length
  rw[List.length_map]at this;lia
 refine sorted_ints pl.isList hI hlen λ out ns' h1 h2 h3=>?_
 have e:ns'=sortI ns:=PySem.W.ksm_same (h2.trans (sortI_perm ns).symm) h3 (iD ns);subst e;obtain⟨e,he⟩:=sortedAll_at s.heap its out;have hfr:H (s.heap.objs.size+1)=none:=I.hok.fresh (Nat.le_succ _);refine⟨.ref (s.heap.objs.size+1),upd H (s.heap.objs.size+1) (.lst ((sortI ns).map V.int)),I.laid (t':=s.toks) (λ b o q=>sortedAll_old q) (Nat.le_succ _) ?_,rfl,q.at hfr⟩;refine⟨?_,out.toList,e,dY h1,?_⟩
 ·rw[List.length_map,h2.length_eq]
  exact Nat.le_trans (Nat.le_of_lt h64) (by decide)
 ·rw[Array.toArray_toList]
  exact he
theorem cO.or(h1:cO X f r1)(h2:cO X f r2):cO X f λ xs H Q=>r1 xs H Q\/r2 xs H Q:=λ pins s σ H xs us Q I r h=>h.elim (h1 pins s σ H xs us Q I r) (h2 pins s σ H xs us Q I r)
end
def aI7(K:PySem.W.Frag)(r:List V->Hp->VK->Prop)(fd:List D->Rs D):Prop:=∀(A:Addr->Prop) xs ds H (Q:VK) z,Rps K A H xs ds->fd ds= .ok z->(∀v H',aU H H'->Rp K (λ p=>H p=none) H' v z->Q v H')->r xs H Q
theorem aG2{K:PySem.W.Frag}(hs:aI7 K r fd)(h1:aHy K G m ta g):gj K G (some []) (tCB r ta) (opA fd g):=by
 intro τ σ H ρ lab Q R W;refine h1 τ σ H ρ lab _ R (W.bd.imp λ d _ w x H1 s1 r1=>?_);obtain⟨z,ez,w⟩:=w.okD;exact hs (fpM m lab H) x d H1 Q z r1 ez λ v H' s r=>w v H' (s1.trans s) (r.wk λ p o _ q=>.inl (s1.free q))
def uF:List D->Rs D
 |[.lst l]=>match tX l with
  |some nss=>if nss.length<64 then .ok (.lst ((wM nss).map tupI))else .st
  |none=>match intsOf l with
   |some ns=>if ns.length<64 then .ok (.lst ((sortI ns).map .int))else .st
   |none=>.st
 |_=>.st
theorem aDo{K:PySem.W.Frag}:aI7 K (λ xs H Q=>aB6 K xs H Q\/aB7 K xs H Q) uF:=by
 intro A xs ds H Q z r ez q;unfold uF at ez;split at ez
 ·cases r with
  |cons h r=>
   cases r;cases h with
   |lst h m r=>
    split at ez
    ·rename_i nss e
     obtain⟨e1,e2⟩:=rH e;subst e1;split at ez
     ·rename_i hl
      cases ez;have ht:=zY r e2;exact .inl ⟨_,_,nss,rfl,SqL.of h,ht,by rw[ht.len];exact hl,aEM ht q⟩
     ·cases ez
    ·split at ez
     ·rename_i ns e
      have e1:=dN e;subst e1;split at ez
      ·rename_i hl
       cases ez;have e2:=r.ints_of;subst e2;exact .inr ⟨_,ns,rfl,SqL.of h,hl,λ p H' s hp hn=>q _ H' s (.lst hp hn .ints)⟩
      ·cases ez
     ·cases ez
 ·cases ez
section
variable{C:Ct}{pos p p2 pos2:Pos}{m:Mode}{a:Expr}{ga:En->Rs (List D)}
theorem aDO(hm:C.mg "sorted"=none)(ha:SA C m [a] ga)(he:∀i,starEach [a] (C.X i).env=[(false,eval a (C.X i).env)]:=by intro _;rfl)(hg:∀i,Gl (C.X i) "sorted":=by intro _;rfl)(hv:bootBuiltins "sorted"=some (.builtin "sorted"):=by decide+kernel):SE C (some []) (.Call (.Name "sorted" p) [a] [] pos) (opA uF ga):=by
 obtain⟨t,h1,h2⟩:=ha;refine⟨_,λ i=>lz (r:=λ xs H Q=>aB6 C.K xs H Q\/aB7 C.K xs H Q) (by rw[<-C.hK i];exact wB.or ph) (hg i) (by rw[(C.cx i).2.2.2.1];exact hm) hv (h1 i) (by decide) (by decide) (he i) rfl,aG2 aDo h2⟩
end
def ddI(ns:List Int):List Int:=ns.foldl step_dedup []
theorem aFz(ns:List Int)(n:Int):ddI (ns++[n])=step_dedup (ddI ns) n:=by unfold ddI;rw[List.foldl_append];rfl
theorem aHl(hl:l.Nodup)(n:Int):(step_dedup l n).Nodup/\∀x,x∈step_dedup l n↔x∈l\/x=n:=by
 unfold step_dedup;by_cases h:l.any (·==n)=true
 ·rw[if_pos h]
  have:n∈l:=by simpa using h
  exact⟨hl,λ x=>⟨.inl,λ q=>q.elim id λ e=>e▸this⟩⟩
 ·rw[if_neg h]
  have:n∉l:=by simpa using h
  refine⟨List.nodup_append.mpr ⟨hl,by simp,λ x hx y hy e=>?_⟩,λ x=>by simp⟩;rw[List.mem_singleton]at hy;subst hy;subst e;exact this hx
theorem aFy:∀(ns acc:List Int),acc.Nodup->(ns.foldl step_dedup acc).Nodup/\∀x,x∈ns.foldl step_dedup acc↔x∈acc\/x∈ns
 |[],acc,h=>⟨h,λ x=>by simp⟩
 |n::ns,acc,h=>by
  obtain⟨h1,h2⟩:=aHl h n;obtain⟨h3,h4⟩:=aFy ns _ h1;refine⟨h3,λ x=>?_⟩;rw[List.foldl_cons,h4,h2,List.mem_cons];constructor
  ·rintro((a|a)|a)
   ·exact .inl a
   ·exact .inr (.inl a)
   ·exact .inr (.inr a)
  ·rintro(a|a|a)
   ·exact .inl (.inl a)
   ·exact .inl (.inr a)
   ·exact .inr a
theorem xV(ns:List Int):(ddI ns).Nodup:=(aFy ns [] (by simp)).1
theorem aCl(ns:List Int)(x:Int):x∈ddI ns↔x∈ns:=by
 have:=(aFy ns [] (by simp)).2 x
 unfold ddI;simpa using this
theorem aGA(ns:List Int):(ddI ns).length<=ns.length:=sub_len (xV ns) λ x hx=>(aCl ns x).mp hx
section
variable{X:Cx}
end
section
variable{C:Ct}{pos p:Pos}{m:Mode}{a:Expr}{ga:En->Rs (List D)}
end
section
variable{K:PySem.W.Frag}{G:Gx}{wi:TI}{fi:En->Rs (List D)}{g:TG}{fg:D->En->Rs En}{tt:TT}
theorem aIm(hi:aHw K G wi fi)(hg:aHx K {G with E:=λ _ _ _=>False} g fg)(hfg:∀d,∃ρ1,fg d [.no]= .ok ρ1)(ht:aCR K {G with E:=λ _ _ _=>False} tt jT)(R:RR K G τ ρ σ H lab)
  (W:WR G (fi (shE ρ)) (λ ds=>ds.length<sizeLine/\∀(l:Addr) (as:List Addr) H',aU H H'->H l=none->H' l=some (.lst (as.map V.ref))->(l::as).Nodup->as.length=ds.length->(∀a∈as,H a=none/\H' a=some (.lst []))->Q (.ref l) H')):
  tLC wi (stV [none]) g tt (aEF lV) σ H Q:=by
 refine hi τ σ H _ _ _ R.shE (W.imp λ ds _ w J H1 lab1 τ1 s1 _ R1 jl=>?_);obtain⟨hlen,w⟩:=w;intro l hl;have hHl:H l=none:=s1.free hl;have nl:∀p o,H1 p=some o->p≠l:=λ p o e z=>by subst z;rw[hl]at e;cases e
 have RB:RR K {G with E:=λ _ _ _=>False} (τ1++τ) [.no] (stV [none] σ) H1 (λ p=>if p=l then(2,0)else(0,0)):=by
  refine⟨rfl,λ i s e=>?_,R1.old,λ p hp=>?_,λ q hq=>(R1.tm q hq).wk λ p o e _=>by rw[if_neg (nl p o e)];exact Nat.zero_le _⟩
  ·match i,e with
   |0,e=>cases e;exact .inl rfl
   |i+1,e=>simp at e
  ·by_cases z:p=l
   ·subst z;exact R1.old.free hl
   ·exact absurd (show(if p=l then((2,0):Nat×Nat)else(0,0)).1=0 by rw[if_neg z]) hp
 have labl:¬((λ p=>if p=l then((2,0):Nat×Nat)else(0,0)) l).1<=1:=by simp
 refine⟨λ i n acc H2=>∃as:List Addr,n=ds.length-i/\i<=ds.length/\acc=as.map V.ref/\H2 l=some (.lst acc)/\RR K {G with E:=λ _ _ _=>False} (τ1++τ) [.no] (stV [none] σ) H2 (λ p=>if p=l then(2,0)else(0,0))/\aU H H2/\as.length=i/\(l::as).Nodup/\∀a∈as,H a=none/\H2 a=some (.lst []),
  ⟨ds.length,[],by omega,by omega,rfl,au,RB.up (bT hl _),s1.trans (bT hl _),rfl,by simp,λ a h=>by simp at h⟩,?_⟩
 rintro i n acc H2 ⟨as,rfl,hi',rfl,hH2,R2,s2,hlen2,hnd,hal⟩;refine⟨hH2,by rw[List.length_map];omega,?_⟩;have jj:=jl _ H2 λ q hq=>R2.tm q (List.mem_append_left _ hq)
 by_cases hlt:i<ds.length
 ·obtain⟨go,yl⟩:=(jj i).2 hlt
  refine .inr ⟨go,λ x H3 hy=>?_⟩;obtain⟨s3,d,ed,rx⟩:=yl x H3 hy;replace R2:=R2.up s3;replace hH2:=s3 _ _ hH2;replace s2:=s2.trans s3;replace hal:=λ a ha=>(⟨(hal a ha).1,s3 _ _ (hal a ha).2⟩:H a=none/\H3 a=some (.lst []))
  obtain⟨ρ1,e1⟩:=hfg d;refine hg (τ1++τ) x d _ H3 _ _ _ ρ1 R2 rx e1 λ σ4 R4=>?_
  refine ht (τ1++τ) σ4 H3 ρ1 _ _ R4 λ H5 s5=>?_
  rw[if_pos rfl];refine⟨Nat.zero_le _,λ p H6 s6 hp hn=>?_⟩;have hl6:H6 l=some (.lst (as.map V.ref)):=s6 _ _ (s5 _ _ hH2);have hpl:p≠l:=λ z=>by subst z;rw[s5 _ _ hH2]at hn;cases hn
  have hpa:p∉as:=λ z=>by
   have:=s5 _ _ (hal p z).2
   rw[hn]at this;cases this
  have hpH:H p=none:=(s2.trans s5).free hn;have B:lJ l H6 (upd H6 l (.lst (as.map V.ref++[.ref p]))):=λ b o ne hb=>by rw[aV ne];exact hb
  refine⟨hl6,ds.length-(i+1),by omega,as++[p],rfl,hlt,by rw[List.map_append];rfl,au,?_,?_,by rw[List.length_append];simp;omega,?_,λ a ha=>?_⟩
  ·have R6:=R2.up (s5.trans s6)
   refine⟨R6.len,λ j s e=>?_,λ b o hb=>?_,R6.new,λ q hq=>(R6.tm q hq).but B hl6 rfl labl⟩
   ·match j,e with
    |0,e=>cases e;exact .inl rfl
    |j+1,e=>simp at e
   ·exact B b o (λ z=>by subst z;rw[R1.old.free hl]at hb;cases hb) (R6.old b o hb)
  ·exact λ b o hb=>B b o (λ z=>by subst z;rw[hHl]at hb;cases hb) (((s2.trans s5).trans s6) b o hb)
  ·obtain⟨n1,n2⟩:=List.nodup_cons.mp hnd
   refine List.nodup_cons.mpr ⟨λ z=>?_,List.nodup_append.mpr ⟨n2,by simp,λ x hx y hy e=>?_⟩⟩
   ·rcases List.mem_append.mp z with z|z
    ·exact n1 z
    ·exact hpl (List.mem_singleton.mp z).symm
   ·rw[List.mem_singleton]at hy
    subst hy;subst e;exact hpa hx
  ·rcases List.mem_append.mp ha with z|z
   ·refine⟨(hal a z).1,?_⟩
    rw[aV λ q=>by subst q;exact(List.nodup_cons.mp hnd).1 z];exact s6 _ _ (s5 _ _ (hal a z).2)
   ·rw[List.mem_singleton]at z
    subst z;exact⟨hpH,by rw[aV hpl];exact hp⟩
 ·have ei:i=ds.length:=by omega
  exact .inl ⟨by rw[ei];exact(jj _).1 (Nat.le_refl _),w l as H2 s2 hHl hH2 hnd (by omega) hal⟩
end
section
variable{C:Ct}{pos lpos:Pos}{tg iter:Expr}{sc:Scope}{N:List Str}{js:List (Option Nat)}{ks:List Nat}{fi:En->Rs (List D)}{fg:D->En->Rs En}
def llS(i:Nat)(fi:En->Rs (List D))(js:List (Option Nat))(fg:D->En->Rs En):En->Ou:=λ ρ=>(fi (shE ρ)).bo λ ds=>if ds.length<sizeLine then .nx (ρ.set i (.o2 (List.replicate ds.length [])))else .st
theorem aKb(hi:SI C tg iter fi)(hg:SG (C.blk sc N) tg ks fg)(hj:js=[none]:=by rfl)(hfg:∀d,∃ρ1,fg d [.no]= .ok ρ1:=by intro _;exact⟨_,rfl⟩)(hN:∀j,(C.X j).N[i]? =some x:=by intro _;rfl)(hx:∀j,Loc (C.X j).env.scope x:=by intro _;first|exact Or.inl rfl|exact Or.inr rfl)(hsw:∀j,swapsWith (.ListComp (.List [] lpos) [⟨tg,iter,[],0⟩] sc pos) (some (.Name x pos')) spos.line (C.X j).env=pure true:=by intro _;rfl)(hs:∀i x,foldedSetIterable iter (C.X i).env x=pure x:=by intro _ _;rfl)(hf:∀j,(C.X j).fn x=true\/(C.X j).env.scope.names.lookup x=some .local:=by intro _;first|exact .inl rfl|exact .inr rfl)(nd:∀j,(C.X j).N.Nodup:=by intro _;assumption)(hB:∀i,dX (C.X i) sc N (stV js) ks:=by intro _;exact zN rfl rfl rfl rfl rfl rfl):
  SS C (.Assign [.Name x pos'] (.ListComp (.List [] lpos) [⟨tg,iter,[],0⟩] sc pos) spos) (llS i fi js fg):=by
 subst hj;obtain⟨wi,i1,i2⟩:=hi;obtain⟨g,g1,g2,g3,g4⟩:=hg;obtain⟨tt,t1,t2⟩:=qO (C:=C.blk sc N);refine⟨_,λ j=>zy (nd j) (hN j) (hx j) (hB j) (C.calm j) (i1 j) (λ c fp s₀ H₀=>g1 (j,c,fp,s₀,H₀)) g3 (λ c fp s₀ H₀=>t1 (j,c,fp,s₀,H₀)) (λ c fp s₀ H₀=>kj cP) (hsw j) (hs j) (hf j),λ τ σ H ρ lab De R W=>?_⟩;refine aIm i2 g2 hfg t2 R (W.bo.imp λ ds _ w=>?_);by_cases hl:ds.length<sizeLine
 ·rw[if_pos hl]at w
  refine⟨hl,λ l as H' s hn hH hnd hlen hal=>?_⟩;have hlab:∀p o,H p=some o->(λ p=>if p=l then(i+2,0)else if p∈as then(i+2,as.idxOf p+1)else cU H 1 lab p) p=lab p:=λ p o e=>by
   dsimp only;have z1:p≠l:=λ z=>by subst z;rw[hn]at e;cases e
   have z2:p∉as:=λ z=>by rw[(hal p z).1]at e;cases e
   rw[if_neg z1,if_neg z2,bV e]
  have R':RR C.K C.G τ ρ σ H' (λ p=>if p=l then(i+2,0)else if p∈as then(i+2,as.idxOf p+1)else cU H 1 lab p):=by
   refine(R.relab hlab λ p hp=>?_).up s;cases e:H p with
   |none=>exact R.old.free e
   |some o=>
    have:=hlab p o e
    dsimp only at this hp;rw[this]at hp;exact R.new p hp
  refine w _ _ _ (R'.put (s:=.o2 (List.replicate ds.length [])) ⟨l,as.map V.ref,rfl,hH,by dsimp only;rw[if_pos rfl],by rw[List.length_map,List.length_replicate];exact hlen,λ j x es e1 e2=>?_⟩);rw[List.getElem?_map,Option.map_eq_some_iff]at e1;obtain⟨a,e1,rfl⟩:=e1;have ees:es=[]:=by
   rw[List.getElem?_replicate]at e2;split at e2
   ·cases e2;rfl
   ·cases e2
  subst ees;have ha:a∈as:=List.mem_of_getElem? e1;have hla:a≠l:=λ z=>by subst z;exact(List.nodup_cons.mp hnd).1 ha
  have hj2:j<as.length:=(List.getElem?_eq_some_iff.mp e1).1;refine .lst (hal a ha).2 ?_ .nil
  show(if a=l then(i+2,0)else if a∈as then(i+2,as.idxOf a+1)else cU H 1 lab a)=(i+2,j+1)
  rw[if_neg hla,if_pos ha];have hix:as.idxOf a<as.length:=List.idxOf_lt_length_iff.mpr ha
  have:as[as.idxOf a]? =some a:=by rw[List.getElem?_eq_getElem hix];exact congrArg some (List.getElem_idxOf hix)
  have:=(List.getElem?_inj hix (List.nodup_cons.mp hnd).2).mp (this.trans e1.symm)
  rw[this]
 ·rw[if_neg hl]at w
  exact False.elim w
end
section
variable{C:Ct}{pos apos cpos p:Pos}{e e1 e2:Expr}{fe f1 f2:En->Rs D}{i:Nat}{x:Str}{m m1:Mode}
end
section
variable{C:Ct}{pos p:Pos}{a:Expr}{ga:En->Rs (List D)}{m:Mode}
end
theorem um:∀{us:List α},us.length=1->∃a0,us=[a0]
 |[a0],_=>⟨a0,rfl⟩
theorem qu:∀{us:List α},us.length=2->∃a0 a1,us=[a0,a1]
 |[a0,a1],_=>⟨a0,a1,rfl⟩
theorem aLC:∀{us:List α},us.length=3->∃a0 a1 a2,us=[a0,a1,a2]
 |[a0,a1,a2],_=>⟨a0,a1,a2,rfl⟩
theorem aHR:∀{us:List α},us.length=6->∃a0 a1 a2 a3 a4 a5,us=[a0,a1,a2,a3,a4,a5]
 |[a0,a1,a2,a3,a4,a5],_=>⟨a0,a1,a2,a3,a4,a5,rfl⟩
section
variable{K:PySem.W.Frag}{G:Gx}{wi:TI}{fi:En->Rs (List D)}{js:List (Option Nat)}{g:TG}{fg:D->En->Rs En}{tt:TT}{ft:En->Rs Bool}{te:TE}{fe:En->Rs D}
end
section
variable{C:Ct}{pos:Pos}{elt tg iter:Expr}{ifs:List Expr}{sc:Scope}{N:List Str}{js:List (Option Nat)}{ks:List Nat}{fi:En->Rs (List D)}{fg:D->En->Rs En}{ft:En->Rs Bool}{fe:En->Rs D}
end
section
variable{C:Ct}{pos apos cpos p:Pos}{e a:Expr}{fe fa:En->Rs D}{i:Nat}{x:Str}{m:Mode}
end
section
variable{C:Ct}{pos tpos p:Pos}{ek e:Expr}{fk fe:En->Rs D}{x:Str}{m m1:Mode}{op:Operator}{g:Int->Int->Int}
end
def n6(j:Int):List Int:=(List.range j.toNat).map λ(k:Nat)=>0+(k:Int)
def aKi:List V->Hp->VK->Prop:=λ xs H Q=>∃j:Int,xs=[.int j]/\∀p,H p=none->Q (.ref p) (upd H p (.rng 0 j))
theorem aGH:cO X (.type "range") aKi:=by
 intro pins s σ H vs us Q I rv h;obtain⟨j,rfl,q⟩:=h;obtain⟨u,rfl,ru⟩:=rv.one;obtain⟨t,rfl⟩:=ru;exact call_range_1 ⟨.ref s.heap.objs.size,_,I.laid (a:=s.heap.objs.size) (o:=.rng 0 j) (t':=s.toks+1+1) (λ _ _ q=>Heap.get?_push_of_some _ q) (Nat.le_refl _) ⟨_,_,_,Heap.get?_push_size _ rfl⟩,rfl,q _ (I.hok.fresh (Nat.le_refl _))⟩
def zu:List V->Hp->VK->Prop:=λ xs H Q=>∃(p:Addr) (j:Int),xs=[.ref p]/\H p=some (.rng 0 j)/\-(2^62)<=j/\j<=10000/\∀l H',aU H H'->H l=none->H' l=some (.lst ((n6 j).map V.int))->Q (.ref l) H'
theorem aGW:∀{ns:List Int} {us:List Value},ns.length=us.length->(∀(k:Nat) i,ns[k]? =some i->∃tk,us[k]? =some (.int i tk))->Vals (ns.map V.int) us:=by
 intro ns;induction ns with
 |nil=>intro us hl _;rw[List.eq_nil_of_length_eq_zero hl.symm];exact .nil
 |cons n ns ih=>
  intro us hl h;obtain⟨tk,e⟩:=h 0 n rfl;cases us with
  |nil=>cases e
  |cons u us=>
   have e':u= .int n tk:=Option.some.inj e;subst e';exact .cons ⟨tk,rfl⟩ (ih (Nat.succ.inj hl) λ k i hi=>h (k+1) i hi)
theorem zK(hc:X.calm=true):cO X (.type "list") zu:=by
 intro pins s σ H vs us Q I rv h;obtain⟨p,j,rfl,hp,h1,h2,q⟩:=h;obtain⟨u,rfl,ru⟩:=rv.one;cases ru;obtain⟨t,u,v,hg⟩:=I.hok p _ hp;have hsz:Builtin.Range.rangeSize 0 j 1=(j.toNat:Int):=by
  unfold Builtin.Range.rangeSize;simp only[show(1:Int)>0 by decide,if_true];split<;>lia
 refine call_list_range (n:=j.toNat) (I.ok.hd hc) hg ?_ hsz (by lia) λ h' tk acc c' hk hS hacc=>?_
 ·have fl:∀x:Int,-(2^62)<=x->x<=2^62->Builtin.Range.rangeFitsLong x=true:=λ x hx1 hx2=>by
   unfold Builtin.Range.rangeFitsLong;simp;lia
  unfold Builtin.Range.small;rw[hsz,fl 0 (by lia) (by lia),fl j (by lia) (by lia),fl 1 (by lia) (by lia),fl _ (by lia) (by lia),if_pos (by decide),fl (j+(1-1)) (by lia) (by lia),Bool.or_true];rfl
 ·have hfr:=I.hok.fresh (Nat.le_refl s.heap.objs.size)
  have hv:Vals ((n6 j).map V.int) acc.toList:=by
   have hl:(n6 j).length=acc.toList.length:=by rw[show acc.toList.length=acc.size from Array.length_toList,hacc.1];simp[n6]
   refine aGW hl λ k i hi=>?_
   have hk2:k<acc.size:=by rw[hacc.1];have:=(List.getElem?_eq_some_iff.mp hi).1;simpa[n6]using this
   obtain⟨tk,e⟩:=hacc.2 k acc[k] (Array.getElem?_eq_getElem hk2);refine⟨tk,?_⟩;have ei:i=0+(k:Int)*1:=by
    unfold n6 at hi;rw[List.getElem?_map]at hi;cases c:(List.range j.toNat)[k]? with
    |none=>rw[c]at hi;cases hi
    |some m=>
     rw[c]at hi;cases hi
     have:=List.getElem?_eq_some_iff.mp c
     have:m=k:=by simpa using this.2.symm
     subst this
     show(0:Int)+(m:Int)=0+(m:Int)*1
     lia
   rw[ei,<-e];simp[hk2]
  refine⟨.ref s.heap.objs.size,upd H s.heap.objs.size (.lst ((n6 j).map V.int)),I.laid (t':=tk) hk (Nat.le_refl _) ⟨?_,acc.toList,c',hv,by simpa using hS⟩,rfl,q _ _ (bT hfr _) hfr au⟩;simp[n6]
  have:sizeLine=16777216:=sizeLine_eq
  lia
def lrR:D->Rs D
 | .int j=>if -(2^62)<=j/\j<=10000 then .ok (.lst (bG 0 j))else .st
 |_=>.st
def lrD(fa:En->Rs D):En->Rs D:=λ ρ=>(fa ρ).bd lrR
theorem aDR(j:Int):bG 0 j=(n6 j).map D.int:=by
 unfold bG n6;rw[List.map_map,Int.sub_zero];rfl
section
variable{C:Ct}{pos pos2 p p2:Pos}{a:Expr}{fa:En->Rs D}{m:Mode}
theorem uJ(hmL:C.mg "list"=none)(hmR:C.mg "range"=none)(ha:SE C m a fa)(hs:∀i,starEach [a] (C.X i).env=[(false,eval a (C.X i).env)]:=by intro _;rfl)(hs2:∀i,starEach [.Call (.Name "range" p2) [a] [] pos2] (C.X i).env=[(false,eval (.Call (.Name "range" p2) [a] [] pos2) (C.X i).env)]:=by intro _;rfl)(hgL:∀i,Gl (C.X i) "list":=by intro _;rfl)(hvL:bootBuiltins "list"=some (.type "list"):=by decide+kernel)(hgR:∀i,Gl (C.X i) "range":=by intro _;rfl):SE C (some []) (.Call (.Name "list" p) [.Call (.Name "range" p2) [a] [] pos2] [] pos) (lrD fa):=by
 obtain⟨t,h1,h2⟩:=ha;refine⟨tCB zu (iB (tCB aKi (iB t lV)) lV),λ i=>mY (zK (C.calm i)) (hgL i) (by rw[(C.cx i).2.2.2.1];exact hmL) hvL (aa (mY aGH (hgR i) (by rw[(C.cx i).2.2.2.1];exact hmR) boot_range (aa (h1 i) cP (hs i)) (by decide) (by decide) (hs i) rfl) cP (hs2 i)) (by decide) (by decide) (hs2 i) rfl,λ τ σ H ρ lab Q R W=>?_⟩;refine h2 τ σ H ρ lab _ R (W.bd.imp λ d _ w y H1 s1 r1=>?_);unfold lrR at w;split at w
 ·rename_i j _
  by_cases hz: -(2^62)<=j/\j<=10000
  ·rw[if_pos hz]at w
   have ey:=r1.int_inv;subst ey;refine⟨j,rfl,λ q hq=>⟨q,j,rfl,au,hz.1,hz.2,λ l H' s' hl hH'=>?_⟩⟩;have s0:=(s1.trans (bT hq _)).trans s';have hlH:H l=none:=(s1.trans (bT hq _)).free hl;refine w _ H' s0 (.lst hH' (.inl hlH) ?_);rw[aDR];exact Rps.ints
  ·rw[if_neg hz]at w
   exact False.elim w
 ·exact False.elim w
end
def aIR:V->List V->Hp->VK->Prop:=λ x vs H Q=>∃(l:Addr) (S:Int->Bool) (n:Nat) (i:Int),x= .ref l/\vs=[.int i]/\H l=some (.set S n)/\n+1<scanBound/\∀H',lJ l H H'->H' l=some (.set (λ k=>S k||decide (k=i)) (if S i=true then n else n+1))->Q .non H'
theorem aHI:MtM X "set.add" aIR:=by
 intro pins s σ H x vs v us Q I rx rv h;obtain⟨l,S,n,i,rfl,rfl,hH,hn,q⟩:=h;cases rx;obtain⟨u,rfl,ru⟩:=rv.one;obtain⟨t,rfl⟩:=ru;have hS:s.heap.SetOf (intKind X.prog X.w) l S n:=I.hok l _ hH;refine call_set_add (k:=i) (by simp[intKind,Value.isInt]) rfl hS hn λ h' hsb hS'=>⟨.non,_,?_,rfl,q _ (λ b o ne hb=>by rw[aV ne];exact hb) au⟩
 refine I.write (x:=l) (e:=l) (by rw[hH];exact trivial) (.inl rfl) (λ b' u hb hu=>(hsb.2 b' hb).trans hu) ?_ hS';obtain⟨o,_,_,_,ho,_⟩:=hS';exact⟨o,ho⟩
theorem aDm(ds:List Int)(z:Int):(step_dedup ds z).length=if decide (z∈ds)=true then ds.length else ds.length+1:=by
 unfold step_dedup;by_cases h:z∈ds
 ·rw[if_pos (by simpa using h),if_pos (by simpa using h)]
 ·rw[if_neg (by simpa using h),if_neg (by simpa using h),List.length_append,List.length_singleton]
theorem xU(ds:List Int)(z k:Int):(decide (k∈ds)||decide (k=z))=decide (k∈step_dedup ds z):=by
 unfold step_dedup;rw[Bool.eq_iff_iff];split
 ·rename_i h
  have h':z∈ds:=by simpa using h
  simp only[Bool.or_eq_true,decide_eq_true_eq];exact⟨λ q=>q.elim id λ e=>e▸h',.inl⟩
 ·simp
theorem aAk{z:Int}(nd:ds.Nodup):(step_dedup ds z).Nodup:=by
 unfold step_dedup;split
 ·exact nd
 ·rename_i h
  have h':¬z∈ds:=by simpa using h
  refine List.nodup_append.mpr ⟨nd,by simp,λ a ha b hb e=>?_⟩;rw[List.mem_singleton]at hb;subst hb;subst e;exact h' ha
def aDv(ρ:En)(i:Nat)(ds:List Int):D->Ou
 | .int z=>if ds.length<4000 then .nx (ρ.set i (.ow (.set (step_dedup ds z))))else .st
 |_=>.st
def aHv(i:Nat)(fe:En->Rs D):En->Ou:=λ ρ=>match ρ[i]? with
 |some (.ow (.set ds))=>(fe ρ).bo λ d=>aDv ρ i ds d
 |_=>.st
section
variable{C:Ct}{pos apos cpos p:Pos}{e a:Expr}{fe fa:En->Rs D}{i:Nat}{x:Str}{m:Mode}
theorem aIl(i:Nat)(he:SE C m e fe)(hm:okN m=true:=by rfl)(hN:∀j,(C.X j).N[i]? =some x:=by intro _;rfl)(hv:∀j,Vis (C.X j).env.scope x:=by intro _;first|exact Or.inl rfl|exact Or.inr (Or.inl rfl)|exact Or.inr (Or.inr rfl))(hd:(x==("__debug__":Str))=false:=by decide)
  (hcd:(x==("__classdict__":Str))=false:=by decide)(hs1:∀j,starEach [e] (C.X j).env=[(false,eval e (C.X j).env)]:=by intro _;rfl)
  (hbase:∀j,attributeBase (.Name x p) "add" (C.X j).env (eval (.Name x p) (C.X j).env)=eval (.Name x p) (C.X j).env:=by intro _;rfl)
  (hfew:∀j,((backTo cpos (starEach [e] (C.X j).env)).all (λ x=>!x.1)&&(backToKw cpos (keywordEach [] (C.X j).env)).all (λ x=>x.1.isSome)&&decide ([e].length+([]:List Keyword).length+(if ([]:List Keyword).isEmpty then 0 else 1)<30))=true:=by intro _;rfl)
  (hline:(apos.endLine==cpos.line)=true:=by rfl)
  (hsw:∀j,swapsWith (.Call (.Attribute (.Name x p) "add" apos) [e] [] cpos) none pos.line (C.X j).env=pure false:=by intro _;rfl):
  SS C (.Expr (.Call (.Attribute (.Name x p) "add" apos) [e] [] cpos) pos) (aHv i fe):=by
 obtain⟨t,h1,h2⟩:=he;refine⟨wJ (tBM C.K "set" aIR (nF i) (iB t lV)),λ j=>pI (by rw[<-C.hK j];exact wW PySem.F.plainAttrs_set PySem.F.slot_set_add PySem.F.type_set_add aHI (fY (hN j) (hv j) hd hcd) (aa (h1 j) cP (hs1 j)) (hbase j) (hfew j) hline (hs1 j) rfl) (hsw j),λ τ σ H ρ lab De R W=>?_⟩;unfold aHv at W;cases es:ρ[i]? with
 |none=>rw[es]at W;exact False.elim W
 |some s=>
  rw[es]at W;split at W
  ·rename_i ds hs
   cases hs;rcases R.sl i _ es with z|⟨v,ev,hv'⟩
   ·cases z
   ·obtain⟨hv1,htop⟩:=hv'
    obtain⟨a0,ea0,la0⟩:=htop rfl;subst ea0;cases hv1 with
    |set h mm hS nd=>
     rename_i S;refine⟨.ref a0,ev,.inr (.inr (.inr ⟨rfl,S,_,h⟩)),h2 τ σ H ρ lab _ R (W.bo.imp λ d _ w y H2 s2 r2=>?_)⟩;unfold aDv at w;split at w
     ·rename_i z _
      by_cases hz:ds.length<4000
      ·rw[if_pos hz]at w
       have ey:=r2.int_inv;subst ey;have hb:scanBound=4096:=rfl;refine⟨a0,S,ds.length,z,rfl,rfl,s2 _ _ h,by omega,λ H3 B h3=>?_⟩;refine w σ H3 _ ((R.up s2).mut ev (s2 _ _ h) rfl la0 B ⟨?_,λ _=>⟨a0,rfl,la0⟩⟩);have e1:(if S z=true then ds.length else ds.length+1)=(step_dedup ds z).length:=by
        rw[hS z];exact(aDm ds z).symm
       rw[e1]at h3;exact .set h3 (.inr la0) (λ k=>by rw[hS k];exact xU ds z k) (aAk nd)
      ·rw[if_neg hz]at w
       exact False.elim w
     ·exact False.elim w
  ·exact False.elim W
end
def aIM:List V->Hp->VK->Prop:=λ xs H Q=>xs=[]/\∀p,H p=none->Q (.ref p) (upd H p (.set (λ _=>false) 0))
theorem aDq:cO X (.type "set") aIM:=by
 intro pins s σ H vs us Q I rv h;obtain⟨rfl,q⟩:=h;cases rv;refine call_set_0 λ led=>⟨.ref s.heap.objs.size,_,I.laid (a:=s.heap.objs.size) (o:=.set (λ _=>false) 0) (t':=s.toks) (λ _ _ q=>Heap.get?_push_of_some _ q) (Nat.le_refl _) ?_,rfl,q _ (I.hok.fresh (Nat.le_refl _))⟩
 exact⟨_,#[],0,_,Heap.get?_push_size _ rfl,⟨rfl,rfl,rfl⟩,rfl,λ e he=>by simp at he,λ k=>by simp,by decide,by rfl,rfl⟩
def aKm(neg:Bool):R2:=λ x y H Q=>∃(i:Int) (a:Addr) (S:Int->Bool) (n:Nat),x= .int i/\y= .ref a/\H a=some (.set S n)/\Q (.bl (if neg then !S i else S i)) H
theorem aHA:OpR X (compareOp .NotIn) (aKm true):=by
 intro pins s σ H x y v u Q I rx ry h;obtain⟨i,a,S,n,rfl,rfl,hH,q⟩:=h;obtain⟨t,rfl⟩:=rx;cases ry;have hS:s.heap.SetOf (intKind X.prog X.w) a S n:=I.hok a _ hH;exact wpAny_notInSet_of (k:=i) (by simp[intKind,Value.isInt]) rfl hS ⟨.bl (!S i),H,I.tok _,rfl,q⟩
def inX(neg:Bool):D->D->Rs D
 | .int i,.set l=>.ok (.bl (if neg then !decide (i∈l)else decide (i∈l)))
 |d,e=>inR neg d e
theorem aJW{K:PySem.W.Frag}:OpS K (λ x y H Q=>aDS K n x y H Q\/aKm n x y H Q) (inX n):=by
 intro A x y d e H Q z rx ry ez q;unfold inX at ez;split at ez
 ·cases ez
  have ex:=rx.int_inv;subst ex;cases ry with
  |set h m hS nd=>exact .inr ⟨_,_,_,_,rfl,rfl,h,by rw[hS];exact q _ H (aU.refl H) (.bl _)⟩
 ·exact .inl (aFF A x y d e H Q z rx ry ez q)
section
variable{C:Ct}{pos p:Pos}{a b:Expr}{fa fb:En->Rs D}{m1 m2:Mode}
theorem aGZ(ha:SE C m1 a fa)(hb:SE C m2 b fb)(hm:behindInMarks .NotIn b=false:=by with_unfolding_all rfl):ST C (.Compare a [.NotIn] [b] pos) (tsb (op2 (inX true) fa fb)):=kI (λ i=>(C.ninRl i).or aHA) aJW ha hb hm
theorem aG7(hm:C.mg "set"=none)(hg:∀i,Gl (C.X i) "set":=by intro _;rfl)(hv:bootBuiltins "set"=some (.type "set"):=by decide+kernel):SE C (some []) (.Call (.Name "set" p) [] [] pos) (cD (.set [])):=by
 refine⟨tCB aIM lV,λ i=>aBd aDq (hg i) (by rw[(C.cx i).2.2.2.1];exact hm) hv,λ τ σ H ρ lab Q R W=>?_⟩;exact⟨rfl,λ q hq=>W _ _ (bT hq _) (.set au (.inl hq) (λ _=>by simp) (by simp))⟩
end
section
variable{prog:Program}{w:World}{A:Around}{E:Value->Shared->Prop}{s:Shared}{r:Addr}{a b c:Int}{t u v:Tok}{n:Nat}
end
section
variable{C:Ct}{pos pos2 p p2:Pos}{a:Expr}{fa:En->Rs D}{m:Mode}
end
section
variable{prog:Program}{w:World}{A:Around}{E:Value->Shared->Prop}{s:Shared}{it t:Addr}{i:Nat}{items:Array Value}
end
theorem aFa{X:Cx}{pins:List (Addr×Obj)}{σ:List (Option V)}{H:Hp}{s:Shared}{h':Heap}{ch:List Addr}{p t':Nat}{o:HO}(I:Inv X pins σ H s)(hf:∀b∈ch,qJ X pins H b)(k:∀b u,b∉ch->s.heap.get? b=some u->h'.get? b=some u)
  (hp:s.heap.objs.size<=p)(new:bw X.prog X.w (upd H p o) h' p o):Inv X pins σ (upd H p o) {s with heap:=h',toks:=t'}:=by
 have hn:=I.hok.fresh hp;have nch:∀b u,H b=some u->b∉ch:=λ b u e z=>by have:=(hf b z).1;rw[e]at this;cases this
 refine I.call (g':=s.gens) (d':=s.drawn) (ch:=ch) ⟨λ b u q _ _ hx=>k b u hx q,λ b u q _ _ hx=>⟨u.slots,k b u hx q⟩,λ b u q n _=>?_,λ b u q hx=>⟨u,k b u hx q⟩,λ b xs q=>?_,λ b u xs q=>?_,λ b ps q=>⟨#[],?_⟩⟩ (λ b u e=>?_) I.bare
  λ b hb=>let⟨_,f1,_,f3,f4,f5⟩:=hf b hb;⟨f3,f1,f4,f5⟩
 ·rw[aV (Nat.ne_of_lt (Nat.lt_of_lt_of_le (Heap.lt_size q) hp))];exact n
 ·rw[aV (bD q hn)];exact q
 ·rw[aV (bD q hn)];exact q
 ·rw[aV (bD q hn),q];simp
 ·by_cases hb:b=p
  ·subst hb;rw[au]at e;cases e;exact new
  ·rw[aV hb]at e
   refine(I.hok b u e).stay (λ c v hc q=>k c v ?_ q) (λ c q=>by rw[aV (bD q hn)];exact q) λ c xs q=>by rw[aV (bD q hn)];exact q
   rcases hc with rfl|hc
   ·exact nch _ _ e
   ·exact nch _ _ hc
def aCJ(l:List D):List D:=l.zipIdx.map λ p=>.tup [.int (p.2:Int),p.1]
section
variable{C:Ct}{m:Mode}{a:Expr}{ga:En->Rs (List D)}{elts:List Expr}{x1:Nat}{ps p pos:Pos}
end
abbrev Ent:=List Int×Addr×V
section
variable{X:Cx}{pins:List (Addr×Obj)}{σ:L2.St}{H:Hp}{s:Shared}{a b:Addr}{k:List Int}{es:List Ent}
end
section
variable{C:Ct}{m1 m2:Mode}{a b:Expr}{fa fb:En->Rs D}{pos:Pos}
end
def pairE(fk fv:En->Rs D):En->Rs D:=λ ρ=>(fk ρ).bd λ k=>(fv ρ).bd λ v=>.ok (.tup [k,v])
section
variable{K:PySem.W.Frag}{G:Gx}{wi:TI}{fi:En->Rs (List D)}{js:List (Option Nat)}{g:TG}{fg:D->En->Rs En}{tt:TT}{ft:En->Rs Bool}{tk tv:TE}{fk fv:En->Rs D}
theorem aFA(h:pairE fk fv ρ= .ok y):∃k v,fk ρ= .ok k/\fv ρ= .ok v/\y= .tup [k,v]:=by
 obtain⟨k,h1,h2⟩:=cW h;obtain⟨v,h3,h4⟩:=cW h2;exact⟨k,v,h1,h3,by cases h4;rfl⟩
end
section
variable{C:Ct}{pos:Pos}{kx vx tg iter:Expr}{ifs:List Expr}{sc:Scope}{N:List Str}{js:List (Option Nat)}{ks:List Nat}{fi:En->Rs (List D)}{fg:D->En->Rs En}{ft:En->Rs Bool}{fk fv:En->Rs D}
end
def aDl(p:Int×Tok):Int×Value:=(hashInt p.1,.int p.1 p.2)
def aAu(h:Heap)(a:Addr)(led:Bool)(ks:List Int):Prop:=∃es ep t,h.get? a=some (cG es ep t)/\fV t es.size/\t.led=led/\∃tks:List (Int×Tok),tks.map (·.1)=ks/\es.toList.Perm (tks.map aDl)
section
variable{prog:Program}{w:World}{A:Around}{E:Value->Shared->Prop}{s:Shared}{a:Addr}{led:Bool}{ks:List Int}
theorem aCK{es:Array (Int×Value)}{tks:List (Int×Tok)}(hp:es.toList.Perm (tks.map aDl)):ElemsOf (intKind prog w) es.toList:=λ e he=>by
 obtain⟨p,_,rfl⟩:=List.mem_map.mp (hp.mem_iff.mp he);exact⟨⟨p.1,intKind_is _ _ _ _,rfl⟩,rfl⟩
theorem aD9(T:fV t es.size)(h63:es.size<63)(h:Int)(x:Value):∃j,layNew t es h x=(SetTable.insertAt es (t.put j).2 (h,x),(t.put j).1,false,false)/\mU (t.put j).1 (es.size+1)/\(t.put j).1.led=t.led:=by
 obtain⟨j,j1,j2,j3⟩:=aBc (hashAt:=λ _=>h+1) T (h:=h) λ i hi=>by omega
 obtain⟨P,p1,p2,p3,p4⟩:=aJA T h63 j1 j2;have hes:(SetTable.insertAt es (t.put j).2 (h,x)).size=es.size+1:=pR _ _ _;refine⟨j,?_,P,p4⟩;have hf:t.freeSlot h=some (j,false):=by unfold SetTable.freeSlot;rw[j3];rfl
 unfold layNew SetTable.orStandIn;rw[hf];dsimp only;rw[hes,P.fits];rfl
theorem zq(P:mU t n)(hn:es.size=n)(h5:n=5\/n=19):∃es' t',relayAll t es (SetTable.grown es.size)=(es',t',false)/\fV t' es'.size/\t'.led=t.led/\es'.toList.Perm es.toList:=by
 obtain⟨t',order,r1,r2,r3,r4⟩:=aE6 P.pla h5 (es.map (·.1)) (by rw[Array.size_map];exact hn);have hperm:(order.filterMap (es[·]?)).toList.Perm es.toList:=by
  rw[Array.toList_filterMap];refine(r4.filterMap _).trans ?_;rw[<-hn,filterMap_getElem?_range]
 have hes:(order.filterMap (es[·]?)).size=n:=by rw[<-Array.length_toList,hperm.length_eq,Array.length_toList,hn]
 refine⟨order.filterMap (es[·]?),t',?_,by rw[hes];exact r2,r3,hperm⟩;unfold relayAll;rw[hn,r1];have hc:coversAll order n=true:=List.isPerm_iff.mpr r4;dsimp only;rw[hes,hc,r2.fits];rfl
theorem aG6(S:aAu s.heap a led ks)(h63:ks.length<63)
  (q:∀h' b,Heap.SameBut a s.heap h'->aAu h' a led (step_dedup ks k)->Q b {s with heap:=h',toks:=s.toks+1}):wpAny (model prog w) A (setAdd a (.int k tk)) Q E s:=by
 obtain⟨es,ep,t,ho,T,hl,tks,hk,hp⟩:=S;have hel:ElemsOf (intKind prog w) es.toList:=aCK hp;have hsz:es.size=ks.length:=by rw[<-Array.length_toList,hp.length_eq,List.length_map,<-hk,List.length_map]
 have hb:es.size<scanBound:=by rw[hsz];unfold scanBound;omega
 have hany:∀e∈es.toList,(intKind prog w).is k e.2=true->k∈ks:=λ e he hi=>by
  obtain⟨p,hpm,rfl⟩:=List.mem_map.mp (hp.mem_iff.mp he)
  have:k=p.1:=(intKind prog w).inj _ k p.1 hi (intKind_is _ _ _ _)
  rw[this,<-hk];exact List.mem_map_of_mem hpm
 unfold setAdd;refine wpAny_holding (wpAny_bind ((intKind prog w).pyHash (k:=k) (intKind_is _ _ _ _) ?_));unfold setAddHashed setAddHashedIn;refine wpAny_holding (wpAny_bind (wpAny_setState_of (s:={s with toks:=s.toks+1}) ho rfl T.fits ?_));dsimp only;rw[byScan_of (knd:=intKind prog w) rfl hb hel];simp only[↓reduceIte];unfold setAddByScan;refine wpAny_bind (wpAny_bind (wpAny_rule (wpAny_bind (wpAny_setScan_of (knd:=intKind prog w) (s:={s with toks:=s.toks+1}) (intKind_is _ _ _ _) ho rfl T.fits hel ?_))));cases hr:List.findIdx? (λ e=>(intKind prog w).is k e.2) es.toList with
 |some j=>
  obtain⟨hj,hpj,_⟩:=List.findIdx?_eq_some_iff_getElem.mp hr;have hin:=hany _ (List.getElem_mem hj) hpj;dsimp only;refine wpAny_pure (wpAny_pure (q s.heap _ (Heap.SameBut.refl a s.heap) ?_))
  have:step_dedup ks k=ks:=by unfold step_dedup;rw[if_pos (List.any_eq_true.mpr ⟨k,hin,by simp⟩)]
  rw[this];exact⟨es,ep,t,ho,T,hl,tks,hk,hp⟩
 |none=>
  have hno:k∉ks:=λ hin=>by
   rw[<-hk]at hin;obtain⟨p,hpm,e⟩:=List.mem_map.mp hin;have he:aDl p∈es.toList:=hp.mem_iff.mpr (List.mem_map_of_mem hpm)
   have:=List.findIdx?_eq_none_iff.mp hr _ he
   rw[<-e]at this;have z:(intKind prog w).is p.1 (.int p.1 p.2)=false:=this;rw[intKind_is]at z;cases z
  have hstep:step_dedup ks k=ks++[k]:=by
   unfold step_dedup;rw[if_neg];intro h;obtain⟨y,hy,e⟩:=List.any_eq_true.mp h;exact hno (by rw[<-eq_of_beq e];exact hy)
  obtain⟨j,hL,P,pl⟩:=aD9 T (by omega) ((intKind prog w).hash k) (.int k tk);have hes:(SetTable.insertAt es (t.put j).2 ((intKind prog w).hash k,Value.int k tk)).size=es.size+1:=pR _ _ _;have hperm:(SetTable.insertAt es (t.put j).2 ((intKind prog w).hash k,Value.int k tk)).toList.Perm ((tks++[(k,tk)]).map aDl):=by
   have:=SetTable.insertAt_perm es (t.put j).2 ((intKind prog w).hash k,Value.int k tk)
   rw[Array.toList_push]at this;rw[List.map_append];exact this.trans (hp.append_right _)
  have htk:(tks++[(k,tk)]).map (·.1)=step_dedup ks k:=by rw[hstep,List.map_append,hk];rfl
  dsimp only;rw[hL];dsimp only;refine wpAny_bind (wpAny_pure ?_);rw[P.pla];simp only[↓reduceIte];refine wpAny_bind (wpAny_pure ?_);simp only[↓reduceIte];generalize SetTable.insertAt es (t.put j).2 ((intKind prog w).hash k,Value.int k tk)=es1 at hes hperm ⊢;generalize (t.put j).1=t1 at P pl ⊢;refine wpAny_bind (aEH (s:={s with toks:=s.toks+1}) ho (by omega) λ e1=>?_);simp only[Bool.not_false,Bool.true_and];cases hf:t1.tooFull with
  |true=>
   obtain⟨es2,t2,hR,T2,l2,p2⟩:=zq P hes (P.full (by omega) hf);simp only[↓reduceIte];rw[hR];dsimp only;refine wpAny_bind (wpAny_pure ?_);have hz2:es2.size<=63:=by rw[<-Array.length_toList,p2.length_eq,Array.length_toList];omega
   refine wpAny_bind (aEH e1 hz2 λ e2=>wpAny_pure (wpAny_pure (q _ _ ((Heap.SameBut.update s.heap a _).trans (Heap.SameBut.update _ a _)) ⟨es2,_,t2,e2,T2,l2.trans (pl.trans hl),_,htk,p2.trans hperm⟩)))
  |false=>
   simp only[Bool.false_eq_true,if_false];exact wpAny_pure (wpAny_pure (q _ _ (Heap.SameBut.update ..) ⟨es1,_,t1,e1,by rw[hes];exact P.still hf,pl.trans hl,_,htk,hperm⟩))
theorem aDN{St:Nat->Shared->Prop}(W:WalksS prog w A.in1 I fp wr G n (λ i v=>vs.toArray[i]? =some v) St)(hSf:S∉fp)(hi:IntsAre vs ns)(hn:n=vs.length)(h64:n<64)(led:Bool):
  ∀(k i:Nat) (s:Shared),n-i=k->i<=n->St i s->aAu s.heap S led (ddI (ns.take i))->(∀s',Moved (S::wr) G s s'->aAu s'.heap S led (ddI ns)->R (.ok (.ret .none)) s')->
   codeAny (model prog w) A (.builtin "set.update.loop" ⟨[.ref S,.ref I],[]⟩) R s:=by
 have hSw:S∉wr:=λ h=>hSf (W.sub _ h)
 have hsb:∀b∈wr,b∈S::wr:=λ b hb=>List.mem_cons_of_mem _ hb
 have hlen:vs.length=ns.length:=IntsAre.length hi;have keep:∀{h h':Heap} {ks:List Int},aAu h S led ks->(∀o,h.get? S=some o->h'.get? S=some o)->aAu h' S led ks:=λ⟨es,ep,t,e,r⟩ k=>⟨es,ep,t,k _ e,r⟩
 intro k;induction k with
 |zero=>
  intro i s hk hi' hst hS hR;have hin':i=n:=by omega
  subst hin';refine codeAny_builtin PyProof.Rows.F.entry_set_update_loop ?_;rw[Around.under_plainId PyProof.Rows.F.plain_set_update_loop _];show wpAny _ A.in1 (pyNext (.ref I)>>=_) _ _ s;refine wpAny_bind (W.done s _ _ hst λ s' hm=>wpAny_pure (hR s' (hm.mono hsb) ?_));rw[List.take_of_length_le (by omega)]at hS;exact keep hS λ o e=>hm.heap S _ hSw e
 |succ k ih=>
  intro i s hk hi' hst hS hR;have hlt:i<n:=by omega
  refine codeAny_builtin PyProof.Rows.F.entry_set_update_loop ?_;rw[Around.under_plainId PyProof.Rows.F.plain_set_update_loop _];show wpAny _ A.in1 (pyNext (.ref I)>>=_) _ _ s;refine wpAny_bind (W.item i s _ _ hlt hst λ v s' hP' hst' hm=>?_);have hP:vs[i]? =some v:=by simpa using hP'
  obtain⟨t,rfl⟩:=PyProof.Rows.IntsAre.int_at hi i v hP;have hS':aAu s'.heap S led (ddI (ns.take i)):=keep hS λ o e=>hm.heap S _ hSw e
  have hle:(ddI (ns.take i)).length<63:=by
   have h1:=aGA (ns.take i);rw[List.length_take]at h1;omega
  have hnx:step_dedup (ddI (ns.take i)) (ns.getD i 0)=ddI (ns.take (i+1)):=by
   have hx:ns[i]? =some (ns.getD i 0):=by
    rw[List.getD_eq_getElem?_getD,List.getElem?_eq_getElem (by omega)];rfl
   rw[List.take_add_one,hx,<-aFz];rfl
  show wpAny _ A.in1 (holding [Value.int (ns.getD i 0) t] (setAdd S (.int (ns.getD i 0) t))>>=_) _ _ s';refine wpAny_bind (wpAny_holding (aG6 hS' hle λ h' b c1 c3=>?_));have kp:∀b o,b≠S->s'.heap.get? b=some o->h'.get? b=some o:=λ b o hb e=>by rw[c1.2 b hb];exact e
  rw[hnx]at c3;refine wpAny_pure ⟨plainId_quiet PyProof.Rows.F.plain_set_update_loop _,ih (i+1) _ (by omega) hlt (W.frame _ s' _ _ hst' (Nat.le_succ _) λ b hb o e=>kp b o (λ z=>hSf (z▸hb)) e) c3 λ s'' hm'' hS''=>?_⟩;exact hR s'' (Moved.trans W.gtrans ((hm.mono hsb).then_heap (Nat.le_succ _) λ b o hb e=>kp b o (λ z=>hb (z▸List.mem_cons_self)) e) hm'') hS''
theorem yd{Q:Value->Shared->Prop}(hI:IntsAre vs ns)(h64:vs.length<64)
  (h:∀(out:List Value) h' e,Vals ((sortI ns).map V.int) out->(∀b o,s.heap.get? b=some o->h'.get? b=some o)->h'.get? s.heap.objs.size=some (seqObj "list" out.toArray e)->Q (.ref s.heap.objs.size) {s with heap:=h'}):
  wpAny (model prog w) A (newList vs>>=λ l=>holding [l] (call (.builtin "list.sort") [l])>>=λ _=>ret l) (λ fin s'=>∃r,fin= .done (.ret r)/\Q r s') E s:=by
 refine wpAny_bind (wpAny_newList ?_ (by rw[sizeLine_eq];omega));have hoL:(s.heap.push (seqObj "list" vs.toArray 0)).get? s.heap.objs.size=some (seqObj "list" vs.toArray 0):=Heap.get?_push_size _ rfl;refine wpAny_bind (wpAny_holding (wpAny_call_entry slot_list_sort ⟨_,hoL,rfl⟩ entry_list_sort (list_sort_tree (s:={s with heap:=s.heap.push (seqObj "list" vs.toArray 0)}) hoL hI h64 λ out ns' a1 a2 a3=>⟨_,rfl,wpAny_pure ⟨_,rfl,?_⟩⟩) (args_list_sort _)));have e:ns'=sortI ns:=PySem.W.ksm_same (a2.trans (sortI_perm ns).symm) a3 (iD ns);subst e;have hne:∀b o,s.heap.get? b=some o->b≠s.heap.objs.size:=λ b o e=>Nat.ne_of_lt (Heap.lt_size e)
 have g0:=get?_update_seq hoL λ _=>(#[]:Array Value)
 have g1:=Heap.get?_push_of_some (seqObj "list" #[] 0) (Heap.get?_push_of_some (seqObj "tuple" vs.toArray 0) g0);have g2:=get?_update_seq g1 (λ _=>out);refine h out.toList _ _ (dY a1) (λ b o e=>?_) (by rw[Array.toArray_toList];exact g2);unfold sortedHeap;rw[Heap.get?_update_ne _ _ _ _ (hne b o e)];refine Heap.get?_push_of_some _ (Heap.get?_push_of_some _ ?_);rw[Heap.get?_update_ne _ _ _ _ (hne b o e)];exact Heap.get?_push_of_some _ e
end
section
variable{X:Cx}
def aEVφ(w:World)(a:Addr)(ks:List Int):Heap->Prop:=λ h=>aAu h a (!w.params.followText "set-order") ks
def aIL(K:PySem.W.Frag)(w:World):List V->Hp->VK->Prop:=λ xs H Q=>∃p ns,xs=[.ref p]/\SqL K H p (ns.map V.int)/\ns.length<64/\∀a H',aU H H'->H' a=some (.ext (aEVφ w a (ddI ns)))->H a=none->Q (.ref a) H'
theorem aDp(hc:X.calm=true):cO X (.type "set") (aIL X.K X.w):=by
 intro pins s σ H xs us Q I r h;obtain⟨p,ns,rfl,hp,hz,q⟩:=h;obtain⟨u,rfl,ru⟩:=vals1 r;cases ru;have hh:X.A.in1.in1.in1.handled=none:=I.ok.hd hc;obtain⟨its,rv,pl,_⟩:=I.list hp;have hI:IntsAre its ns:=intsAre_of rv;have hlen:its.length=ns.length:=IntsAre.length hI;obtain⟨ol,hol,hcl,nl,hdl⟩:=pl.isList;have hlS:p<s.heap.objs.size:=Heap.lt_size hol;refine PySem.aAp (T:="list") (Φ:=aEVφ X.w s.heap.objs.size (ddI ns)) ⟨ol,hol,hcl⟩ F.sub_list_set F.sub_list_frozenset (by decide)
  (λ h₁ A₁ E₁ Q₁ k q=>wpAny_pyIter_list (s:={s with heap:=h₁}) (items:=its.toArray) ⟨ol,k _ _ hol,hcl,nl,hdl⟩ q) (λ R hR=>?_) λ h' tk g1 g2=>?_
 ·generalize hled:(!X.w.params.followText "set-order")=led at hR ⊢
  have hS:(s.heap.push (cG #[] 0 (.fresh 0 0 led))).get? s.heap.objs.size=some (cG #[] 0 (.fresh 0 0 led)):=Heap.get?_push_size _ rfl;have hl1:(s.heap.push (cG #[] 0 (.fresh 0 0 led))).IsList p its.toArray:=⟨ol,Heap.get?_push_of_some _ hol,hcl,nl,hdl⟩;have hneI:p≠(s.heap.push (cG #[] 0 (.fresh 0 0 led))).objs.size:=by rw[Heap.size_push];exact Nat.ne_of_lt (Nat.lt_succ_of_lt hlS)
  have hSf:s.heap.objs.size∉[(s.heap.push (cG #[] 0 (.fresh 0 0 led))).objs.size,p]:=by
   rw[Heap.size_push];simp only[List.mem_cons,List.not_mem_nil,or_false,not_or];exact⟨Nat.ne_of_lt (Nat.lt_succ_self _),Nat.ne_of_gt hlS⟩
  refine aDN ((Walks.list hh _ p hneI its.toArray).toS) hSf hI (by simp) (by simpa[hlen]using hz) led (its.toArray.size-0) 0 _ (by simp) (Nat.zero_le _) ⟨⟨_,Heap.get?_push_size _ rfl,rfl,rfl⟩,(hl1.push _)⟩
   ⟨#[],0,_,Heap.get?_push_of_some _ hS,fV.fresh led,rfl,[],rfl,List.Perm.refl _⟩ λ s' hm hS'=>?_
  obtain⟨h',g',d',tk',os'⟩:=s';have eg:g'=s.gens:=hm.gens;have ed:d'=s.drawn:=hm.drawn;have eo:os'=s.os:=hm.os;subst eg;subst ed;subst eo;refine hR h' tk' (by unfold aEVφ;rw[hled];exact hS') λ b o e=>hm.heap b o ?_ (Heap.get?_push_of_some _ (Heap.get?_push_of_some _ e))
  have hb:=Heap.lt_size e;rw[Heap.size_push];simp only[List.mem_cons,List.not_mem_nil,or_false,not_or];exact⟨Nat.ne_of_lt hb,Nat.ne_of_lt (Nat.lt_succ_of_lt hb)⟩
 ·have hfr:H s.heap.objs.size=none:=I.hok.fresh (Nat.le_refl _)
  obtain⟨es,ep,t,ge,r⟩:=id g1;exact⟨.ref s.heap.objs.size,upd H s.heap.objs.size (.ext (aEVφ X.w s.heap.objs.size (ddI ns))),I.laid (t':=tk) g2 (Nat.le_refl _) ⟨g1,⟨_,ge⟩,λ h1 h2 ⟨es,ep,t,e1,e2⟩ k=>⟨es,ep,t,k _ e1,e2⟩⟩,rfl,q _ _ (bT hfr _) au hfr⟩
def aEa(w:World):List V->Hp->VK->Prop:=λ xs H Q=>∃a ks,xs=[.ref a]/\H a=some (.ext (aEVφ w a ks))/\ks.length<64/\New H (.lst ((sortI ks).map V.int)) Q
theorem ints_of:∀(tks:List (Int×Tok)),IntsAre (tks.map λ p=>Value.int p.1 p.2) (tks.map (·.1))
 |[]=>.nil
 |p::r=>.cons _ _ (ints_of r)
theorem zJ(hc:X.calm=true):cO X (.builtin "sorted") (aEa X.w):=by
 intro pins s σ H xs us Q I r h;obtain⟨a,ks,rfl,ha,h64,q⟩:=h;obtain⟨u,rfl,ru⟩:=vals1 r;cases ru;obtain⟨⟨es,ep,t,e1,e2,e3,tks,hk,e4⟩,_,_⟩:=I.hok a _ ha;have hsz:es.size=ks.length:=by rw[<-Array.length_toList,e4.length_eq,List.length_map,<-hk,List.length_map]
 have hh:X.A.in1.handled=none:=I.ok.hd hc;refine pF (aAm (aG0 (ep:=ep) e2 e3) hh e1 (by rw[hsz,sizeLine_eq];omega) λ h1 tk vs1 k0 k1 k2 k3=>?_);have hperm:(oV X.w a ep es).toList.Perm (tks.map aDl):=(mZ X.w a ep es).trans e4;obtain⟨zs,z1,z2⟩:=pL (f:=aDl) hperm rfl;have hvs:vs1=zs.map λ p=>Value.int p.1 p.2:=by
  have e5:(oV X.w a ep es).toList.map (·.2)=zs.map λ p=>Value.int p.1 p.2:=by rw[z2,List.map_map];rfl
  have hlen:(oV X.w a ep es).toList.length=es.size:=by rw[(mZ X.w a ep es).length_eq,Array.length_toList]
  rw[<-e5];refine List.ext_getElem (by rw[k2,List.length_map,hlen]) λ i g1 g2=>?_
  have:=k3 i _ (List.getElem?_eq_getElem g1)
  rw[<-Array.getElem?_toList,<-List.getElem?_map,List.getElem?_eq_getElem g2]at this;exact(Option.some.inj this).symm
 subst hvs;have hps:(zs.map (·.1)).Perm ks:=by rw[<-hk];exact z1.map _
 have hss:sortI (zs.map (·.1))=sortI ks:=PySem.W.ksm_same (((sortI_perm _).trans hps).trans (sortI_perm ks).symm) (iD _) (iD _);refine yd (s:={s with heap:=h1,toks:=tk}) (ints_of zs) (by rw[k2];omega) λ out h' e a1 a2 a3=>?_
 rw[hss]at a1;have hle:s.heap.objs.size<=h1.objs.size:=Nat.le_of_lt k0;have hfr:H h1.objs.size=none:=I.hok.fresh hle;exact⟨.ref h1.objs.size,upd H h1.objs.size (.lst ((sortI ks).map V.int)),I.laid (t':=tk) (λ b o e=>a2 b o (k1 b o e)) hle ⟨by rw[List.length_map,(sortI_perm ks).length_eq];exact Nat.le_trans (Nat.le_of_lt h64) (by decide),out,e,a1,a3⟩,rfl,q.at hfr⟩
end
def j9:List D->Rs D
 |[.lst l]=>match intsOf l with
  |some ns=>if ns.length<64 then .ok (.lst ((sortI (ddI ns)).map .int))else .st
  |none=>.st
 |_=>.st
section
variable{C:Ct}{pos pos2 p p2:Pos}{m:Mode}{a:Expr}{ga:En->Rs (List D)}
theorem v7(hm:C.mg "sorted"=none)(hm2:C.mg "set"=none)(ha:SA C m [a] ga)(he:∀i,starEach [a] (C.X i).env=[(false,eval a (C.X i).env)]:=by intro _;rfl)(he2:∀i,starEach [Expr.Call (.Name "set" p2) [a] [] pos2] (C.X i).env=[(false,eval (.Call (.Name "set" p2) [a] [] pos2) (C.X i).env)]:=by intro _;rfl)(hg:∀i,Gl (C.X i) "sorted":=by intro _;rfl)(hv:bootBuiltins "sorted"=some (.builtin "sorted"):=by decide+kernel)(hg2:∀i,Gl (C.X i) "set":=by intro _;rfl)(hv2:bootBuiltins "set"=some (.type "set"):=by decide+kernel):
  SE C (some []) (.Call (.Name "sorted" p) [.Call (.Name "set" p2) [a] [] pos2] [] pos) (opA j9 ga):=by
 obtain⟨t,h1,h2⟩:=ha;have hw:∀i,(C.X i).w=C.w:=λ i=>(C.cx i).2.1
 refine⟨tCB (aEa C.w) (iB (tCB (aIL C.K C.w) t) lV),λ i=>lz (by rw[<-hw i];exact zJ (C.calm i)) (hg i) (by rw[(C.cx i).2.2.2.1];exact hm) hv
  (aa (mY (by rw[<-C.hK i,<-hw i];exact aDp (C.calm i)) (hg2 i) (by rw[(C.cx i).2.2.2.1];exact hm2) hv2 (h1 i) (by decide) (by decide) (he i) rfl) cP (he2 i)) (by decide) (by decide) (he2 i) rfl,λ τ σ H ρ lab Q R W=>?_⟩
 refine h2 τ σ H ρ lab _ R (W.bd.imp λ ds _ w xs H1 s1 r1=>?_);obtain⟨z,ez,w⟩:=w.okD;unfold j9 at ez;split at ez
 ·obtain⟨v,rfl,rd⟩:=r1.one_inv
  obtain⟨b,ys,rfl,hb,mb,rb⟩:=rd.lst_inv;split at ez
  ·rename_i ns e
   split at ez
   ·rename_i hl
    cases ez;rw[dN e]at rb;have ey:=rb.ints_of;subst ey;refine⟨b,ns,rfl,SqL.of hb,hl,λ c H2 s2 hc2 hn2=>⟨c,ddI ns,rfl,hc2,Nat.lt_of_le_of_lt (aGA ns) hl,λ q H3 s3 hq hn3=>w _ H3 ((s1.trans s2).trans s3) (.lst hq (.inl ((s1.trans s2).free hn3)) Rps.ints)⟩⟩
   ·cases ez
  ·cases ez
 ·cases ez
end
abbrev aLX:=List (Str×(List D->Rs D))
def fnOf(tab:aLX):Rs D->Option (List D->Rs D)
 | .ok (.fn x)=>tab.lookup x
 |_=>none
section
variable{C:Ct}{m:Mode}{e:Expr}{es:List Expr}{ga:En->Rs (List D)}{pos p:Pos}{n i:Nat}{y:Str}{tab:aLX}
end
section
variable{K:PySem.W.Frag}{G:Gx}{wi wi2:TI}{fi fi2:En->Rs (List D)}{js:List (Option Nat)}{ks ks2:List Nat}{g g2:TG}{fg fg2:D->En->Rs En}{tt tt2:TT}{ft ft2:En->Rs Bool}{te:TE}{fe:En->Rs D}
end
section
variable{C:Ct}{pos:Pos}{elt tg iter tg2 iter2:Expr}{ifs ifs2:List Expr}{sc:Scope}{N:List Str}{js:List (Option Nat)}{ks ks2:List Nat}{fi fi2:En->Rs (List D)}{fg fg2:D->En->Rs En}{ft ft2:En->Rs Bool}{fe:En->Rs D}
end
def aKW(K:PySem.W.Frag)(a:Addr):It:=
 ⟨λ i H=>∃xs x,SqL K H a xs/\xs[i]? =some x,λ i H x H'=>∃p y,x= .ref p/\H p=none/\H'=upd H p (.tup [.int i,y])/\∀xs,SqL K H a xs->xs[i]? =some y,λ i H=>∃xs,SqL K H a xs/\xs.length<=i⟩
theorem aBI{K:PySem.W.Frag}(a e it:Addr)(hei:e≠it)(hae:a≠e)(hai:a≠it):
  Turn P w K (.Tuple elts x1 ps) (aKW K a) [e,it] e (λ i h=>(∃old,IsEnum h e it i old)/\h.IsListIter it a i) where
 mem:=by simp
 obj:=λ i h st b hb=>by
  obtain⟨⟨old,he⟩,o,e2,c,d⟩:=st;rcases List.mem_cons.mp hb with rfl|hb
  ·exact⟨_,he,λ v z=>by cases z⟩
  ·have q:b=it:=by simpa using hb
   subst q;exact⟨o,e2,λ v z=>by rw[d]at z;cases z⟩
 keep:=λ i h h' st k=>⟨let⟨old,he⟩:=st.1;⟨old,k e (by simp) _ he⟩,st.2.at λ o q=>k it (by simp) o q⟩
 item:=by
  intro X hP hw hK hc i pins s σ H E I hf st hg;subst hP hw hK;obtain⟨xs,x,hq,hx⟩:=hg;obtain⟨its,rv,p,hz⟩:=I.list hq;obtain⟨u,hu,ru⟩:=rv.get hx;obtain⟨⟨old,he⟩,hit⟩:=st;refine wpAny_pyNext_enum_itemD (Draws.list (A:=X.A.in1) (show X.A.in1.handled=none from I.ok.hd hc) it a hai its.toArray) he ⟨hit,p.isList⟩ (by have:=(List.getElem?_eq_some_iff.mp hu).1;simpa using this) hei (by simp[hei,Ne.symm hae]) λ y h' tk hy ho st' hT hsz hk=>⟨_,rfl,?_⟩
  have ey:y=u:=by
   have:its.toArray[i]? =some u:=by simpa using hu
   rw[this]at hy;exact(Option.some.inj hy).symm
  subst ey;have hel:e<s.heap.objs.size:=Heap.lt_size he;refine wpAny_letOwnedTupleGo_enum ho λ h2 he2 hs2=>⟨.ref s.heap.objs.size,upd H s.heap.objs.size (.tup [.int i,x]),?_,rfl,⟨_,x,rfl,I.hok.fresh (Nat.le_refl _),rfl,λ ys hy=>by rw[I.list_inj hy hq];exact hx⟩,⟨⟨_,by simpa using he2⟩,st'.1.at λ o q=>(hs2.2 it (Ne.symm hei)).trans q⟩,λ b hb=>?_⟩
  ·exact aFa (s:=s) (h':=h2) (t':=tk+1) I hf (λ b u hb q=>(hs2.2 b λ z=>hb (by simp[z])).trans (hk b u (λ z=>hb (by simp[z])) (λ z=>hb (by simp[z])) q)) (Nat.le_refl _) ⟨by simp[sizeLine_eq],[.int i tk,y],.cons ⟨_,rfl⟩ (.cons ru .nil),_,(hs2.2 _ (Nat.ne_of_gt hel)).trans hT,rfl,_,rfl⟩
  ·have:=(hf b hb).1
   rw[aV]
   ·exact this
   ·rintro rfl
    rcases List.mem_cons.mp hb with q|q
    ·exact absurd hel (by rw[<-q];exact Nat.lt_irrefl _)
    ·obtain⟨o,ho2,_⟩:=hit
     have q2:s.heap.objs.size=it:=by simpa using q
     exact absurd (Heap.lt_size ho2) (by rw[<-q2];exact Nat.lt_irrefl _)
 done:=by
  intro X hP hw hK hc i pins s σ H E I hf st hg;subst hP hw hK;obtain⟨xs,hq,hx⟩:=hg;obtain⟨its,rv,p,hz⟩:=I.list hq;obtain⟨⟨old,he⟩,hit⟩:=st;obtain⟨f0,f1,f2,f3,f4,f5⟩:=hf it (by simp);have hT:s.TypeIs (.ref e) "enumerate":=⟨_,he,rfl⟩;have hl:=rv.length;unfold pyNext;refine wpAny_bind (wpAny_attempt (wpAny_callSpecial?_slot (name:=Str.ofString "__next__") hT F.slot_enumerate_next (wpAny_call_entry F.slot_enumerate_next hT F.entry_enumerate_next ?_ (F.args_enumerate_next_1 _))));show wpAny _ _ (field (.ref e) 2>>=_) _ _ _;refine wpAny_bind (wpAny_field he rfl (x:=.ref it) rfl ?_);refine wpAny_bind (wpAny_nextOf_list_end (I.ok.hd hc) hit p.isList (by simp;lia) λ h' x he' hx'=>?_);obtain⟨o,ho,hc⟩:=hx';refine wpAny_bind (wpAny_isInstance (T:="StopIteration") (b:=true) ⟨o,ho,hc⟩ isSubtype_stop ?_);exact wpAny_pure ⟨rfl,I.turned (t':=s.toks) (λ b o hb q=>he' b o hb q) f0 f1 f3 f4 f5⟩
 self:=λ _ _ _ _ _ st h=>let⟨⟨_,he⟩,_⟩:=st;wpAny_pyIter_enum he h
def aFg(K:PySem.W.Frag)(tl:TA):TI:=λ σ H R=>tl σ H λ xs H1=>∃a,xs=[.ref a]/\(∃ys,SqL K H1 a ys)/\R (aKW K a) H1
theorem aEp{x1:Nat}(hl:PA X [l] tl)(hg:Gl X "enumerate")(hm:X.mg "enumerate"=none)(hv:bootBuiltins "enumerate"=some (.type "enumerate"))
  (he:starEach [l] X.env=[(false,eval l X.env)]:=by rfl):PI X (.Tuple elts x1 ps) (.Call (.Name "enumerate" p) [l] [] pos) (aFg X.K tl):=by
 intro pins s σ H R I h;refine wpAny_Call_Name_kw (oX I hg hm hv ?_ (by decide) (by decide));refine PyProof.Rows.callWith_type1 (thn (hl pos pins s σ H _ I h) λ us s1 ⟨vs,H1,I1,r1,a,e,⟨ys,hy⟩,q⟩=>?_) he rfl;subst e;obtain⟨u,rfl,ru⟩:=r1.one;cases ru;obtain⟨its,rv,pp,hz⟩:=I1.list hy;have ha:a<s1.heap.objs.size:=let⟨o,_,ho,_⟩:=pp;Heap.lt_size ho
 refine call_enumerate_list pp.isList λ h' he hit _ hk=>wpAny_pyIter_enum he ?_
 have n1:s1.heap.objs.size+1≠s1.heap.objs.size:=by lia
 refine⟨_,_,_,_,H1,rfl,I1.kept (t':=s1.toks) hk,aBI a _ _ n1 (Nat.ne_of_lt (Nat.lt_succ_of_lt ha)) (Nat.ne_of_lt ha),⟨⟨_,he⟩,hit⟩,λ b hb=>?_,q⟩;have hle:s1.heap.objs.size<=b:=by
  rcases List.mem_cons.mp hb with rfl|hb
  ·exact Nat.le_succ _
  ·have:b=s1.heap.objs.size:=by simpa using hb
   exact Nat.le_of_eq this.symm
 exact I1.fpOk hle (I1.hok.fresh hle)
def aAg:List D->Rs (List D)
 |[.lst l]=>.ok (aCJ l)
 |_=>.st
theorem aF4{K:PySem.W.Frag}(h:SqL K H a xs)(r:Rps K (λ p=>(lab p).1<=1) H xs ds):JL K lab (aKW K a) H (aCJ ds):=by
 have hl:=r.length;have hle:(aCJ ds).length=ds.length:=by simp[aCJ]
 refine λ i=>⟨λ hi=>⟨xs,h,by lia⟩,λ hi=>⟨⟨xs,xs[i]'(by lia),h,by simp[hl,hle▸hi]⟩,λ x H' y=>?_⟩⟩
 obtain⟨p,y,rfl,hp,rfl,hy⟩:=y;obtain⟨d,h1,h2⟩:=r.get (hy xs h);refine⟨bT hp _,.tup [.int (i:Int),d],?_,.tup (.inl (.inl au)) (.cons (.int _) (.cons (h2.up (bT hp _)) .nil))⟩;unfold aCJ;rw[List.getElem?_map,List.getElem?_zipIdx,h1];simp
section
variable{C:Ct}{m:Mode}{a:Expr}{ga:En->Rs (List D)}{elts:List Expr}{x1:Nat}{ps p pos:Pos}
theorem aET(ha:SA C m [a] ga)(hm:C.mg "enumerate"=none)(ho:okS m=true:=by rfl)(hs:∀i,starEach [a] (C.X i).env=[(false,eval a (C.X i).env)]:=by intro _;rfl)(hg:∀i,Gl (C.X i) "enumerate":=by intro _;rfl)(hv:bootBuiltins "enumerate"=some (.type "enumerate"):=by decide+kernel):
  SI C (.Tuple elts x1 ps) (.Call (.Name "enumerate" p) [a] [] pos) (dZ aAg ga):=by
 obtain⟨t,p1,p2⟩:=ha;refine⟨aFg C.K t,λ i=>by rw[<-C.hK i];exact aEp (p1 i) (hg i) (by rw[(C.cx i).2.2.2.1];exact hm) hv (hs i),λ τ σ H ρ lab Rr R W=>p2 τ σ H ρ lab _ R (W.bd.imp λ ds _ w vs H1 s r=>?_)⟩;cases ds with
 |nil=>exact False.elim w
 |cons d ds=>
  cases ds with
  |cons _ _=>cases d<;>exact False.elim w
  |nil=>
   obtain⟨v,rfl,rd⟩:=r.one_inv;cases d with
   |lst l=>
    obtain⟨R',r'⟩:=R.shared ho s rd;obtain⟨b,xs,rfl,h,mm,q⟩:=r'.lst_inv;refine⟨b,rfl,⟨xs,SqL.of h⟩,w _ H1 _ [(.ref b,.lst l)] s (λ p o e=>bV e) ⟨R'.len,R'.sl,R'.old,R'.new,λ z hz=>?_⟩ λ lab' H' hq=>?_⟩
    ·rcases List.mem_cons.mp hz with rfl|hz
     ·exact .lst h mm q
     ·exact R'.tm z hz
    ·have z:=hq _ (List.mem_cons_self ..)
     obtain⟨b',xs',e',h',_,q'⟩:=z.lst_inv;cases e';exact aF4 (SqL.of h') (q'.wk λ _ _ _ z=>z.1)
   |_=>exact False.elim w
end
end VL
namespace HT
open PySem PySem.Spec PyProof.Rows
section
variable{prog:Program}{w:World}{A:Around}{E:Value->Shared->Prop}{s:Shared}
end
end HT
namespace VL
open PySem PySem.Spec PyProof.Rows L2
section
variable{C:Ct}{m:Mode}{e:Expr}{fe:En->Rs D}{pos p2:Pos}
end
section
variable{C:Ct}{elts:List Expr}{n i:Nat}{x:Str}{p lpos pos pos':Pos}
end
end VL
namespace PySem.AutoSeq1
end PySem.AutoSeq1
namespace VL
open PySem PySem.Spec PyProof.Rows L2
section
variable{C:Ct}{m1 m2:Mode}{a b:Expr}{fa fb:En->Rs D}{pos:Pos}
end
section
variable{C:Ct}{pos apos cpos p:Pos}{e:Expr}{fe:En->Rs D}{i:Nat}{x:Str}{m:Mode}
end
def Enr(K:PySem.W.Frag)(x:Str)(st:Stmt)(f:Addr)(fd:FuncData):Prop:=L2.Fun K x x st f fd/\PySem.W.nsIn K mainGlobals x=some (some (.ref f))
theorem enr{K:PySem.W.Frag}{st:Stmt}{oc kV dc pm cd ct:Value}(a:PySem.W.nsIn K mainGlobals x=some (some (.ref f)))
  (l:K.lookup f=some ⟨oc,od,.func (PySem.W.fnOf x x (nA st) (cj st) (aF st) .none kV dc pm an cd ct),sl⟩)(c:PySem.W.codeIn K cd x=true)(k:PySem.W.keepIn K (.ref f)=true):∃f fd,Enr K x st f fd:=⟨f,_,aKF (st:=st) l c k,a⟩
structure Dnr(K:PySem.W.Frag)(mg:Str->Option Value)(x:Str)(st:Stmt)(ps:List Str)(f:Addr)(d:FuncData):Prop where
 F:L2.Fun K x x st f d
 m:mg x=some (.ref f)
 b:L2.Binds K d ps []
section
variable{C:Ct}
theorem bC{st:Stmt}(hF:cY C.prog C.w C.K C.mg C.base (CX1 C.prog C.w) k fn fd ps (spF C.K C.G.cl n F))(D:Dnr C.K C.mg x st ps fn fd)(ha:SA C m (e::es) ga)(hr:k<=C.k:=by exact Nat.le_of_ble_eq_true rfl)(hg:∀i,Gl (C.X i) x:=by intro _;rfl)
  (hn:∀ρ ds,ga ρ= .ok ds->ds.length=n:=by repeat (first|exact λ _ _ h=>aHQ h|apply aFS))(hdb:(x==("__debug__":Str))=false:=by decide)(he:∀i,starEach (e::es) (C.X i).env=(false,eval e (C.X i).env)::starEach es (C.X i).env:=by intro _;rfl)
  (hpl:∀i,(backTo pos (starEach es (C.X i).env)).any (·.1)=false:=by intro _;rfl):SE C (some []) (.Call (.Name x p) (e::es) [] pos) (aO F ga):=aGd hF hr D.m D.F.kp D.b ha hn hdb he hpl hg
end
theorem bQ{P:Program}{w:World}{K:PySem.W.Frag}{st:Stmt}(D:Dnr K mg q st ps fn fd)(S:ak N ps (aF st))(hb:N.Nodup->∀cdv A outer s H E hr,SSs (ctD P w K mg base N q (aF st) fn cdv A outer s H E k hr) (cj st) f)(hn:ps.length=n:=by rfl)(hF:eH N.length f=FF:=by rfl):
  cY P w K mg base (CX1 P w) (k+1) fn fd ps (spF K (aq mg) n FF):=aHi D.F S (hb S.nd) hn hF
section
variable{prog:Program}{w:World}{A:Around}{R:Result->Shared->Prop}{I S:Addr}{fp wr:List Addr}{n:Nat}{P:Nat->Value->Prop}{St:Nat->Heap->Prop}{bt:Nat->Nat->Bool}
end
section
variable{prog:Program}{w:World}{A:Around}{E:Value->Shared->Prop}{s:Shared}{Q:Value->Shared->Prop}
end
def aCQ(items:Array Value)(nss:Nat->List Int)(h:Heap):Prop:=∀i v,items[i]? =some v->∃x its,v= .ref x/\IsTup h x its/\IntsAre its.toList (nss i)
def aB3(items:Array Value):List Addr:=items.toList.filterMap λ v=>match v with| .ref x=>some x|_=>none
theorem aB2{items:Array Value}{i:Nat}(h:items[i]? =some (Value.ref x)):x∈aB3 items:=by
 unfold aB3;rw[List.mem_filterMap];exact⟨.ref x,by have:=List.mem_of_getElem? (l:=items.toList) (i:=i) (by simpa using h);exact this,rfl⟩
theorem aCQ.keep(T:aCQ items nss h)(k:∀b∈aB3 items,∀o,h.get? b=some o->h'.get? b=some o):aCQ items nss h':=λ i v e=>by
 obtain⟨x,its,rfl,⟨o,h1,h2⟩,h3⟩:=T i v e;exact⟨x,its,rfl,⟨o,k x (aB2 e) o h1,h2⟩,h3⟩
section
variable{C:Ct}{pos p:Pos}{a b:Expr}{ga:En->Rs (List D)}{m:Mode}
end
section
variable{prog:Program}{w:World}{A:Around}{E:Value->Shared->Prop}{s:Shared}{z TI TO i1 i2 l1 l2:Addr}{k:Nat}{xs ys:Array Value}{x y a b:Value}
end
section
variable{C:Ct}{m:Mode}{a b:Expr}{ga:En->Rs (List D)}{elts:List Expr}{x1:Nat}{ps p pos:Pos}
end
def putN(ds:List D):D->Option Nat
 | .int n=>ixN ds.length n
 |_=>none
def aB9(i:Nat)(fk fe:En->Rs D):En->Ou:=λ ρ=>match ρ[i]? with
 |some (.ow (.lst ds))=>(fe ρ).bo λ d=>(fk ρ).bo λ k=>match putN ds k with
  |some j=>.nx (ρ.set i (.ow (.lst (ds.set j d))))
  |none=>.st
 |_=>.st
theorem aDT(h:putN ds k=some j):∃n,k= .int n/\ixN ds.length n=some j:=by
 cases k with
 |int n=>exact⟨n,rfl,h⟩
 |_=>cases h
section
variable{C:Ct}{pos tpos p:Pos}{ek e:Expr}{fk fe:En->Rs D}{x:Str}{m m1:Mode}
theorem aCZ(i:Nat)(hk:SE C m1 ek fk)(he:SE C m e fe)(hm:okN m=true:=by rfl)(hN:∀j,(C.X j).N[i]? =some x:=by intro _;rfl)(hv:∀j,Vis (C.X j).env.scope x:=by intro _;first|exact Or.inl rfl|exact Or.inr (Or.inl rfl)|exact Or.inr (Or.inr rfl))(hd:(x==("__debug__":Str))=false:=by decide)
  (hcd:(x==("__classdict__":Str))=false:=by decide)(ha:∀j v,assign (.Subscript (.Name x p) ek tpos) (C.X j).env v=(do
   let ov <-holding [v] (eval (.Name x p) (C.X j).env);let iv <-holding [v,ov] (eval ek (C.X j).env)
   standAt tpos
   holding [v,ov,iv] (setItem ov iv v)
   release [v,ov,iv] []):=by intro _ _;rfl)(hs:∀j,swapsWithSole [.Subscript (.Name x p) ek tpos] e pos.line (C.X j).env=pure false:=by intro _;rfl)(hw:∀j,swappedStores [.Subscript (.Name x p) ek tpos] e (C.X j).env=pure none:=by intro _;rfl)
  (h1:∀j,(assignEach [.Subscript (.Name x p) ek tpos] (C.X j).env).map (·.2)=[assign (.Subscript (.Name x p) ek tpos) (C.X j).env]:=by intro _;rfl):
  SS C (.Assign [.Subscript (.Name x p) ek tpos] e pos) (aB9 i fk fe):=by
 obtain⟨tk,k1,k2⟩:=hk;obtain⟨te,e1,e2⟩:=he;refine⟨z6 te (aLJ (nF i) tk aIK),λ j=>aEn (e1 j) (aJJ (fY (hN j) (hv j) hd hcd) (k1 j) set_list (ha j)) (hs j) (hw j) (h1 j),λ τ σ H ρ lab De R W=>?_⟩;unfold aB9 at W;cases es:ρ[i]? with
 |none=>rw[es]at W;exact False.elim W
 |some s=>
  rw[es]at W;split at W
  ·rename_i ds hs
   cases hs;rcases R.sl i _ es with z|⟨v,ev,hv'⟩
   ·cases z
   ·obtain⟨hv1,htop⟩:=hv'
    obtain⟨a0,ea0,la0⟩:=htop rfl;subst ea0;cases hv1 with
    |lst h mm r=>
     rename_i xs;refine e2 τ σ H ρ lab _ R (W.bo.imp λ d _ w y H2 s2 r2=>⟨.ref a0,ev,?_⟩);refine k2 τ σ H2 ρ lab _ (R.up s2) (w.bo.imp λ k _ w kv H3 s3 r3=>?_);cases hj:putN ds k with
     |none=>rw[hj]at w;exact False.elim w
     |some j=>
      rw[hj]at w;dsimp only at w;obtain⟨n,rfl,hj⟩:=aDT hj;have ey:=r3.int_inv;subst ey;have h3:H3 a0=some (.lst xs):=(s2.trans s3) _ _ h;refine⟨a0,xs,n,j,rfl,rfl,h3,by rw[r.length];exact hj,?_⟩;obtain⟨R',r'⟩:=R.fresh (P:=λ k=>k=1) rfl (λ k hk=>beq_iff_eq.mp (pM hm k hk)) s2 r2;have la:(cU H 1 lab a0).1=i+2:=by rw[bV h];exact la0
      have B:lJ a0 H3 (upd H3 a0 (.lst (xs.set j y))):=λ b' o ne hb=>by rw[aV ne];exact hb
      refine w σ _ _ ((R'.up s3).mut ev h3 rfl la B ⟨.lst au (.inr la) ?_,λ _=>⟨a0,rfl,la⟩⟩);have ra:Rps C.K (λ p=>((cU H 1 lab p).1=1\/(cU H 1 lab p).1=i+2)/\p≠a0) H3 (xs.set j y) (ds.set j d):=by
       refine Rps.set ((r'.up s3).wk λ p o e z=>⟨.inl z,λ q=>?_⟩) j (r.mono (s2.trans s3) λ p o e z=>⟨by rw[bV e];exact z.1,z.2⟩);subst q;rw[la]at z;lia
      exact ra.but B h3 rfl λ z=>z.2 rfl
  ·exact False.elim W
end
def pJ(ks vs:List D):Option (List (Int×D)):=match intsOf ks with
 |some is=>if is.length=vs.length then some (is.zip vs)else none
 |none=>none
def mR(ps:List (Int×D)):D:=.dct (ps.map λ p=>.int p.1) (ps.map (·.2))
theorem aBb(h:pJ ks vs=some ps):ks=ps.map (λ p=>.int p.1)/\vs=ps.map (·.2):=by
 unfold pJ at h;split at h
 ·rename_i is hi
  split at h
  ·rename_i hl
   cases h;refine⟨?_,?_⟩
   ·rw[dN hi,show(λ p:Int×D=>D.int p.1)=(λ i=>D.int i)∘Prod.fst from rfl,<-List.map_map,List.map_fst_zip (by lia)]
   ·rw[List.map_snd_zip (by lia)]
  ·cases h
 ·cases h
theorem aDw:∀ps:List (Int×D),(ps.map (·.1)).zip (ps.map (·.2))=ps
 |[]=>rfl
 |p::ps=>by rw[List.map_cons,List.map_cons,List.zip_cons_cons,aDw ps]
theorem wV(ps:List (Int×D)):pJ (ps.map λ p=>.int p.1) (ps.map (·.2))=some ps:=by
 unfold pJ;have e:intsOf (ps.map λ p=>D.int p.1)=some (ps.map (·.1)):=by
  rw[show(ps.map λ p=>D.int p.1)=(ps.map (·.1)).map D.int by rw[List.map_map];rfl];exact fj _
 rw[e];dsimp only;rw[if_pos (by rw[List.length_map,List.length_map]),aDw]
theorem Rp.dctI_inv{K:PySem.W.Frag}(r:Rp K A H v (.dct ks vs))(h:pJ ks vs=some ps):
  ∃a kvs,v= .ref a/\H a=some (.dK kvs)/\A a/\Rps K (λ p=>A p/\p≠a) H (kvs.map (·.2)) (ps.map (·.2))/\kvs.map (·.1)=ps.map λ p=>(Sum.inl p.1:Key):=by
 obtain⟨h1,h2⟩:=aBb h;generalize hd:D.dct ks vs=d at r;cases r with
 |dK hh m r=>
  rename_i kvs ds;injection hd with q1 q2
  subst q2;refine⟨_,kvs,rfl,hh,m,by rw[<-h2];exact r,?_⟩;rw[h1]at q1;clear r h h1 h2 hh;induction kvs generalizing ps with
  |nil=>cases ps with
   |nil=>rfl
   |cons _ _=>cases q1
  |cons p kvs ih=>cases ps with
   |nil=>cases q1
   |cons q ps=>
    obtain⟨p1,p2⟩:=p;rw[List.map_cons,List.map_cons]at q1;injection q1 with q3 q4
    rw[List.map_cons,List.map_cons,ih q4];cases p1 with
    |inl i=>injection q3 with q3;rw[q3]
    |inr x=>cases q3
 |dT hh m r=>
  injection hd with q1 q2
  rw[h1]at q1;cases ps<;>cases q1
 |_=>cases hd
theorem aBE{K:PySem.W.Frag}:∀{kvs:List (Key×V)} {ps:List (Int×D)},Rps K A H (kvs.map (·.2)) (ps.map (·.2))->(kvs.map (·.1)=ps.map λ p=>(Sum.inl p.1:Key))->∀i:Int,
  (∃d v,ps.lookup i=some d/\sO kvs (.inl i)=some v/\Rp K A H v d)\/(ps.lookup i=none/\sO kvs (.inl i)=none)
 |[],[],_,_,_=>.inr ⟨rfl,rfl⟩
 |[],_::_,_,e,_=>by cases e
 |_::_,[],_,e,_=>by cases e
 |p::kvs,q::ps,r,e,i=>by
  obtain⟨p1,p2⟩:=p;obtain⟨q1,q2⟩:=q;rw[List.map_cons,List.map_cons]at e;injection e with e1 e2
  replace e1:p1= .inl q1:=e1;subst e1;rw[List.map_cons,List.map_cons]at r;cases r with
  |cons h r=>
   by_cases c:q1=i
   ·subst c
    exact .inl ⟨q2,p2,by simp[List.lookup_cons],tV rfl,h⟩
   ·have c1:(i==q1)=false:=by simpa using λ z=>c z.symm
    rw[tW (p:=(Sum.inl q1,p2)) (by simpa using c),List.lookup_cons,c1];exact aBE r e2 i
def zA:D->D->Rs D
 | .dct ks vs,.int i=>match pJ ks vs with
  |some ps=>(match ps.lookup i with
   |some d=>.ok d
   |none=>.st)
  |none=>.st
 |_,_=>.st
def vq(neg:Bool):D->D->Rs D
 | .int i,.dct ks vs=>match pJ ks vs with
  |some ps=>.ok (.bl (neg !=(ps.lookup i).isSome))
  |none=>.st
 |_,_=>.st
def aLd:R2:=λ x y H Q=>∃a v,x= .ref a/\vZ H a y (some v)/\Q v H
def aIy(neg:Bool):R2:=λ y x H Q=>∃a o,x= .ref a/\vZ H a y o/\Q (.bl (neg !=o.isSome)) H
theorem aJc{X:Cx}(hu:X.A.units+1<cLine):OpR X (compareOp .In) (aIy false):=by
 intro pins s σ H y x u v Q I ry rx ⟨a,o,ex,g,q⟩;subst ex;cases rx;exact aLg hu I g ry λ s3 I3=>⟨.bl o.isSome,H,I3,rfl,by simpa using q⟩
theorem aJX{K:PySem.W.Frag}:OpS K (aIy n) (vq n):=by
 intro A x y d e H Q z rx ry ez q;unfold vq at ez;split at ez
 ·rename_i i ks vs
  cases hp:pJ ks vs with
  |none=>rw[hp]at ez;cases ez
  |some ps=>
   rw[hp]at ez;cases ez;have ex:=rx.int_inv;subst ex;obtain⟨a,kvs,rfl,h1,m,r,hk⟩:=ry.dctI_inv hp;refine⟨a,_,rfl,vZ.k (k:=.inl i) h1,?_⟩;rcases aBE r hk i with ⟨d,v,e1,e2,_⟩|⟨e1,e2⟩
   ·rw[e2];rw[e1]at q;exact q _ H (aU.refl H) (.bl _)
   ·rw[e2];rw[e1]at q;exact q _ H (aU.refl H) (.bl _)
 ·cases ez
section
variable{C:Ct}{m1 m2:Mode}{a b:Expr}{fa fb:En->Rs D}{pos:Pos}
theorem Ct.din(C:Ct)(i:C.ι):OpR (C.X i) (compareOp .In) (aIy false):=aJc (by have:=(C.room i).un;lia)
theorem aEI(ha:SE C m1 a fa)(hb:SE C m2 b fb)(hm:behindInMarks .In b=false:=by with_unfolding_all rfl):ST C (.Compare a [.In] [b] pos) (tsb (op2 (vq false) fa fb)):=kI C.din aJX ha hb hm
theorem aEW(ha:SE C m1 a fa)(hb:SE C m2 b fb)(hp:tR b:=by exact λ _ _=>rfl):SE C m1 (.Subscript a b pos) (op2 zA fa fb):=by
 obtain⟨t,h1,h2⟩:=ha;obtain⟨u,k1,k2⟩:=hb;refine⟨tOp aLd t u,λ i=>aGs (by have:=(C.room i).un;lia) (h1 i) (k1 i) hp,λ τ σ H ρ lab Q R W=>?_⟩;refine h2 τ σ H ρ lab _ R (W.bd.imp λ d _ w x H1 s1 r1=>?_);refine k2 τ σ H1 ρ lab _ (R.up s1) (w.bd.imp λ e _ w y H2 s2 r2=>?_);obtain⟨z,ez,wz⟩:=w.okD;cases d with
 |dct ks vs=>
  cases e with
  |int i=>
   cases hp2:pJ ks vs with
   |none=>unfold zA at ez;dsimp only at ez;rw[hp2]at ez;cases ez
   |some ps=>
    unfold zA at ez;dsimp only at ez;rw[hp2]at ez;dsimp only at ez;have ey:=r2.int_inv;subst ey;obtain⟨a,kvs,rfl,g1,m,r,hk⟩:=(r1.up s2).dctI_inv hp2;rcases aBE r hk i with ⟨d,v,e1,e2,e3⟩|⟨e1,e2⟩
    ·rw[e1]at ez
     cases ez;have g2:vZ H2 a (.int i) (some v):=by
      have:=vZ.k (k:=.inl i) g1
      rw[e2]at this;exact this
     exact⟨a,v,rfl,g2,wz v H2 (s1.trans s2) (e3.wk λ p o _ q=>q.1)⟩
    ·rw[e1]at ez;cases ez
  |_=>cases ez
 |_=>cases ez
end
def zx(ps:List (Int×D))(i:Int)(d:D):List (Int×D):=if (ps.any λ p=>decide (p.1=i))=true then ps.map (λ p=>if p.1=i then(p.1,d)else p)else ps++[(i,d)]
theorem aGM:∀{kvs:List (Key×V)} {ps:List (Int×D)} {i:Int},(kvs.map (·.1)=ps.map λ p=>(Sum.inl p.1:Key))->(kvs.any λ kv=>decide (kv.1=(.inl i:Key)))=ps.any λ p=>decide (p.1=i)
 |[],[],_,_=>rfl
 |[],_::_,_,e=>by cases e
 |_::_,[],_,e=>by cases e
 |(p1,p2)::kvs,q::ps,i,e=>by
  rw[List.map_cons,List.map_cons]at e;injection e with e1 e2
  replace e1:p1= .inl q.1:=e1;subst e1;rw[List.any_cons,List.any_cons,aGM e2];simp
theorem aE5{K:PySem.W.Frag}{i:Int}{v:V}{d:D}(h:Rp K A H v d):∀{kvs:List (Key×V)} {ps:List (Int×D)},Rps K A H (kvs.map (·.2)) (ps.map (·.2))->(kvs.map (·.1)=ps.map λ p=>(Sum.inl p.1:Key))->
  Rps K A H ((kvs.map λ kv=>if kv.1= .inl i then(kv.1,v)else kv).map (·.2)) ((ps.map λ p=>if p.1=i then(p.1,d)else p).map (·.2))/\((kvs.map λ kv=>if kv.1= .inl i then(kv.1,v)else kv).map (·.1)=(ps.map λ p=>if p.1=i then(p.1,d)else p).map λ p=>(Sum.inl p.1:Key))
 |[],[],_,_=>⟨.nil,rfl⟩
 |[],_::_,_,e=>by cases e
 |_::_,[],_,e=>by cases e
 |(p1,p2)::kvs,(q1,q2)::ps,r,e=>by
  rw[List.map_cons,List.map_cons]at e;injection e with e1 e2
  replace e1:p1= .inl q1:=e1;subst e1;rw[List.map_cons,List.map_cons]at r;cases r with
  |cons h1 r1=>
   obtain⟨z1,z2⟩:=aE5 h r1 e2;rw[List.map_cons,List.map_cons,List.map_cons,List.map_cons,List.map_cons,List.map_cons,z2];by_cases c:q1=i
   ·subst c
    rw[if_pos rfl,if_pos rfl];exact⟨.cons h z1,rfl⟩
   ·rw[if_neg (show¬((Sum.inl q1:Key),p2).1=Sum.inl i by simpa using c),if_neg (show¬(q1,q2).1=i from c)]
    exact⟨.cons h1 z1,rfl⟩
theorem aJB{K:PySem.W.Frag}{kvs:List (Key×V)}{ps:List (Int×D)}{i:Int}{v:V}{d:D}(r:Rps K A H (kvs.map (·.2)) (ps.map (·.2)))(e:kvs.map (·.1)=ps.map λ p=>(Sum.inl p.1:Key))(h:Rp K A H v d):
  Rps K A H ((putK kvs (.inl i) v).map (·.2)) ((zx ps i d).map (·.2))/\(putK kvs (.inl i) v).map (·.1)=(zx ps i d).map λ p=>(Sum.inl p.1:Key):=by
 unfold putK zx;rw[aGM e];split
 ·exact aE5 h r e
 ·rw[List.map_append,List.map_append,List.map_append,List.map_append,e]
  exact⟨r.append (.cons h .nil),rfl⟩
theorem aHm{K:PySem.W.Frag}{kvs:List (Key×V)}{ps:List (Int×D)}(h:H a=some (.dK kvs))(m:A a)(r:Rps K (λ p=>A p/\p≠a) H (kvs.map (·.2)) (ps.map (·.2)))(e:kvs.map (·.1)=ps.map λ p=>(Sum.inl p.1:Key)):Rp K A H (.ref a) (mR ps):=by
 have e1:(kvs.map λ p=>kD p.1)=ps.map λ p=>.int p.1:=by
  rw[show(kvs.map λ p=>kD p.1)=(kvs.map (·.1)).map kD by rw[List.map_map];rfl,e,List.map_map];rfl
 have:=Rp.dK h m r
 rw[e1]at this;exact this
section
variable{C:Ct}{pos tpos p:Pos}{ek e:Expr}{fk fe:En->Rs D}{x:Str}{m m1:Mode}
end
def prT:D->Option (Int×D)
 | .tup [.int i,v]=>some (i,v)
 |_=>none
def lO:List D->Option (List (Int×D))
 |[]=>some []
 |d::ds=>match prT d,lO ds with
  |some p,some ps=>some (p::ps)
  |_,_=>none
theorem aEo(h:prT d=some p):d= .tup [.int p.1,p.2]:=by
 unfold prT at h;split at h
 ·cases h;rfl
 ·cases h
theorem uV(h:lO (d::ds)=some ps):∃p qs,d= .tup [.int p.1,p.2]/\lO ds=some qs/\ps=p::qs:=by
 unfold lO at h;split at h
 ·rename_i p qs h1 h2
  cases h;exact⟨p,qs,aEo h1,h2,rfl⟩
 ·cases h
def jh(acc qs:List (Int×D)):List (Int×D):=qs.foldl (λ ps q=>zx ps q.1 q.2) acc
def dcI(fi:En->Rs (List D))(js:List (Option Nat))(fg:D->En->Rs En)(ft:En->Rs Bool)(fk fv:En->Rs D):En->Rs D:=λ ρ=>(fi (shE ρ)).bd λ ds=>
 if ds.length<sizeLine then(match lcL (stE js (shE ρ)) fg ft (pairE fk fv) ds with
  | .ok l=>(match lO l with
   |some qs=>.ok (mR (jh [] qs))
   |none=>.st)
  |_=>.st)else .st
def aKZ(tk tv:TE):Addr->L2.St->Hp->(Hp->Prop)->Prop:=λ D σ H Q=>tk σ H λ y H1=>tv σ H1 λ v H2=>∃i kvs,y= .int i/\H2 D=some (.dK kvs)/\kvs.length<sizeLine/\Q (upd H2 D (.dK (putK kvs (.inl i) v)))
theorem aKr{X:Cx}{kx vx:Expr}{tk tv:TE}(hk:PE X kx tk)(hv:PE X vx tv):PB X (vP kx vx) (aKZ tk tv):=by
 intro D pins s σ H Q I h;unfold vP;refine wpAny_bind (thn (hk pins s σ H _ I h) λ u s1 ⟨y,H1,I1,r1,q1⟩=>wpAny_bind (wpAny_holding (thn (hv pins s1 σ H1 _ I1 q1) λ u2 s2 ⟨v,H2,I2,r2,i,kvs,ey,hD,hl,q⟩=>?_)));subst ey;refine wpAny_bind (wpAny_standAt (wpAny_holding ?_));obtain⟨z,hd,vs,rel,dd⟩:=aLL I2.hok hD;have hz:vs.length<=sizeLine:=by rw[<-rel.length];exact z
 have hl2:(putK kvs (.inl i) v).length<=sizeLine:=by have:=rP kvs (.inl i) v;lia
 refine wpAny_dictSet_pairs (knd:=dJ X.prog X.w) (k:=.inl i) (hsz:=hz) (aCq (k:=.inl i) r1) dd λ h' dd' hs=>⟨_,?_,q⟩
 have he:∃q,h'.get? D=some q:=let⟨q,_,_,hq,_⟩:=dd';⟨q,hq⟩
 exact aHn I2 (t':=s2.toks+1) (by rw[hD];exact True.intro) hs he (aKH hl2 hd (rel.put (.inl i) r2) dd')
theorem aKQ:aGT newDict (λ ob=>ob={cls:=.type "dict",data:=.dict #[]}) (λ _=>.dK []) where
 make:=λ h=>wpAny_newObj_type (h _ rfl)
 live:=by rintro ob rfl;rfl
 ok:=by
  rintro P w H h a ob rfl hg hb;exact⟨Nat.zero_le _,beq_eq_false_iff_ne.mpr (Ne.symm (Nat.ne_of_lt hb)),[],.nil,_,#[],0,hg,⟨rfl,rfl,rfl⟩,rfl,λ _ he=>(by simp at he),Pairs.nil,List.nodup_nil⟩
theorem uy(acc qs:List (Int×D))(q:Int×D):jh acc (qs++[q])=zx (jh acc qs) q.1 q.2:=by unfold jh;rw[List.foldl_append];rfl
theorem aAA:∀{l m:List D} {ps:List (Int×D)},lO (l++m)=some ps->∃p1 p2,lO l=some p1/\lO m=some p2/\ps=p1++p2
 |[],m,ps,h=>⟨[],ps,rfl,h,rfl⟩
 |d::l,m,ps,h=>by
  obtain⟨p,qs,rfl,h2,rfl⟩:=uV h;obtain⟨p1,p2,e1,e2,rfl⟩:=aAA h2;exact⟨p::p1,p2,by unfold lO;rw[e1];rfl,e2,rfl⟩
theorem wU(p:Int×D):∀{l:List D} {ps:List (Int×D)},lO l=some ps->lO (l++[.tup [.int p.1,p.2]])=some (ps++[p])
 |[],ps,h=>by cases h;rfl
 |d::l,ps,h=>by
  obtain⟨q,qs,rfl,h2,rfl⟩:=uV h;rw[List.cons_append];unfold lO;rw[wU p h2];rfl
section
variable{K:PySem.W.Frag}{G:Gx}{wi:TI}{fi:En->Rs (List D)}{g:TG}{fg:D->En->Rs En}{tt:TT}{ft:En->Rs Bool}{tk tv:TE}{fk fv:En->Rs D}{js:List (Option Nat)}
theorem aIn(hi:aHw K G wi fi)(hg:aHx K {G with E:=λ _ _ _=>False} g fg)(ht:aCR K {G with E:=λ _ _ _=>False} tt ft)(hk:gj K {G with E:=λ _ _ _=>False} (some []) tk fk)(hv:gj K {G with E:=λ _ _ _=>False} (some []) tv fv):
  gj K G (some []) (aK7 (λ _=>.dK []) wi (stV js) g tt (aKZ tk tv)) (dcI fi js fg ft fk fv):=by
 intro τ σ H ρ lab Q R W;refine hi τ σ H _ _ _ R.shE (W.bd.imp λ ds _ w J H1 lab1 τ1 s1 _ R1 jl=>?_);intro l hl;obtain⟨hlen,out,qs,hout,hqs,w⟩:ds.length<sizeLine/\∃out qs,lcL (stE js (VL.shE ρ)) fg ft (pairE fk fv) ds= .ok out/\lO out=some qs/\QE K (some []) lab H Q (mR (jh [] qs)):=by
  by_cases hlen:ds.length<sizeLine
  ·rw[if_pos hlen]at w
   cases hout:lcL (stE js (VL.shE ρ)) fg ft (pairE fk fv) ds with
   |ok out=>
    rw[hout]at w;dsimp only at w;cases hns:lO out with
    |some ns=>rw[hns]at w;exact⟨hlen,out,ns,rfl,hns,w⟩
    |none=>rw[hns]at w;exact False.elim w
   |ex c=>rw[hout]at w;exact False.elim w
   |st=>rw[hout]at w;exact False.elim w
  ·rw[if_neg hlen]at w
   exact False.elim w
 have R0:RR K {G with E:=λ _ _ _=>False} (τ1++τ) (VL.shE ρ) σ H1 (λ _=>(0,0)):=R1.blk0 rfl;have RB:=R0.block (js:=js) (λ _=>Nat.zero_le _) hl;have hHl:H l=none:=s1.free hl;have h0l:G.H0 l=none:=R1.old.free hl;refine⟨λ i n H2=>∃(kvs:List (Key×V)) (pre:List D) (qp:List (Int×D)),n=ds.length-i/\i<=ds.length/\H2 l=some (.dK kvs)/\kvs.length<=i/\lO pre=some qp/\Rps K (λ p=>H p=none/\p≠l) H2 (kvs.map (·.2)) ((jh [] qp).map (·.2))/\(kvs.map (·.1)=(jh [] qp).map λ p=>(Sum.inl p.1:Key))/\
  RR K {G with E:=λ _ _ _=>False} (τ1++τ) (stE js (VL.shE ρ)) (stV js σ) H2 (λ p=>if p=l then(2,0)else(0,0))/\aU H H2/\
  ∃post,lcL (stE js (VL.shE ρ)) fg ft (pairE fk fv) (ds.drop i)= .ok post/\out=pre++post,⟨ds.length,[],[],[],by lia,by lia,au,Nat.le_refl _,rfl,.nil,rfl,RB.up (bT hl _),s1.trans (bT hl _),out,hout,rfl⟩,?_⟩
 rintro i n H2 ⟨kvs,pre,qp,rfl,hi,hD,hei,hqp,rv,rk,R2,s2,post,hpost,eout⟩;have jj:=jl _ H2 λ q hq=>R2.tm q (List.mem_append_left _ hq)
 by_cases hlt:i<ds.length
 ·obtain⟨go,yl⟩:=(jj i).2 hlt
  refine .inr ⟨go,λ x H3 hy=>?_⟩;obtain⟨s3,d,ed,rx⟩:=yl x H3 hy;replace R2:=R2.up s3;replace hD:=s3 _ _ hD;replace s2:=s2.trans s3;replace rv:=rv.up s3;have ed2:ds.drop i=d::ds.drop (i+1):=by
   rw[List.drop_eq_getElem_cons hlt]
   have:=List.getElem?_eq_getElem hlt
   rw[ed]at this;cases this;rfl
  rw[ed2]at hpost;obtain⟨ρ1,k,e1,e2,e3⟩:=aAZ hpost;refine hg (τ1++τ) x d _ H3 _ _ _ ρ1 R2 rx e1 λ σ4 R4=>?_
  refine ht (τ1++τ) σ4 H3 ρ1 _ _ R4 ?_;rw[e2];intro H5 s5;rcases e3 with ⟨rfl,y,ys,e3,e4,rfl⟩|⟨rfl,e4⟩
  ·rw[if_pos rfl]
   obtain⟨kd,vd,e5,e6,rfl⟩:=aFA e3;obtain⟨p,k3,q3,q4⟩:∃(p:Int×D) (k3:List (Int×D)),D.tup [kd,vd]= .tup [.int p.1,p.2]/\lO ys=some k3:=by
    rw[eout]at hqs;obtain⟨p1,p2,_,q2,_⟩:=aAA hqs;obtain⟨p,k3,a1,a2,_⟩:=uV q2;exact⟨p,k3,a1,a2⟩
   injection q3 with q3
   injection q3 with q5 q6
   injection q6 with q6
   subst q5 q6;refine hk (τ1++τ) σ4 H5 ρ1 _ _ (R4.up s5) ?_;rw[e5];intro v H6 s6 r6;refine hv (τ1++τ) σ4 H6 ρ1 _ _ ((R4.up s5).up s6) ?_;rw[e6];intro v2 H7 s7 r7;have ey:=r6.int_inv;subst ey;have hD7:H7 l=some (.dK kvs):=((s5.trans s6).trans s7) _ _ hD;have B:lJ l H7 (upd H7 l (.dK (putK kvs (.inl p.1) v2))):=λ b o ne hb=>by rw[aV ne];exact hb
   obtain⟨z1,z2⟩:=aJB (i:=p.1) (A:=λ q=>H q=none/\q≠l) (rv.up ((s5.trans s6).trans s7)) rk (r7.wk λ q o _ z=>by
    rcases z with z|z
    ·exact⟨((s2.trans s5).trans s6).free z,λ e=>by subst e;rw[(s5.trans s6) _ _ hD]at z;cases z⟩
    ·cases z)
   refine⟨p.1,kvs,rfl,hD7,by lia,ds.length-(i+1),by lia,putK kvs (.inl p.1) v2,pre++[.tup [.int p.1,p.2]],qp++[p],rfl,hlt,au,by have:=rP kvs (.inl p.1) v2;lia,wU p hqp,?_,?_,(R2.up ((s5.trans s6).trans s7)).but_blk B hD7 rfl h0l,?_,ys,e4,by rw[eout];simp⟩
   ·rw[uy]
    exact z1.but B hD7 rfl λ z=>z.2 rfl
   ·rw[uy]
    exact z2
   ·exact λ b o hb=>B b o (λ z=>by subst z;rw[hHl]at hb;cases hb) ((((s2.trans s5).trans s6).trans s7) b o hb)
  ·rw[if_neg Bool.false_ne_true]
   exact⟨ds.length-(i+1),by lia,kvs,pre,qp,rfl,hlt,s5 _ _ hD,by lia,hqp,rv.up s5,rk,R2.up s5,s2.trans s5,post,e4,eout⟩
 ·have ei:i=ds.length:=by lia
  subst ei;rw[List.drop_length]at hpost;cases hpost;rw[List.append_nil]at eout;subst eout;rw[hqs]at hqp;cases hqp;exact .inl ⟨(jj _).1 (Nat.le_refl _),w _ H2 s2 (aHm hD (.inl hHl) (rv.wk λ p o _ z=>⟨.inl z.1,z.2⟩) rk)⟩
end
section
variable{C:Ct}{pos:Pos}{kx vx tg iter:Expr}{ifs:List Expr}{sc:Scope}{N:List Str}{js:List (Option Nat)}{ks:List Nat}{fi:En->Rs (List D)}{fg:D->En->Rs En}{ft:En->Rs Bool}{fk fv:En->Rs D}
theorem aKg(hi:SI C tg iter fi)(hg:SG (C.blk sc N) tg ks fg)(ht:aGO (C.blk sc N) ifs ft)(hk:SE (C.blk sc N) (some []) kx fk)(hv:SE (C.blk sc N) (some []) vx fv)(hs:∀i x,foldedSetIterable iter (C.X i).env x=pure x:=by intro _ _;rfl)(hB:∀i,dX (C.X i) sc N (stV js) ks:=by intro _;exact zN rfl rfl rfl rfl rfl rfl):SE C (some []) (.DictComp kx vx [⟨tg,iter,ifs,0⟩] sc pos) (dcI fi js fg ft fk fv):=by
 obtain⟨wi,i1,i2⟩:=hi;obtain⟨g,g1,g2,g3,g4⟩:=hg;obtain⟨tt,t1,t2⟩:=ht;obtain⟨tk,k1,k2⟩:=hk;obtain⟨tv,v1,v2⟩:=hv;exact⟨_,λ i=>aKq (pos:=pos) (hB i) (C.calm i) (i1 i) (λ c fp s₀ H₀=>g1 (i,c,fp,s₀,H₀)) g3 (λ c fp s₀ H₀=>t1 (i,c,fp,s₀,H₀)) (aDJ kx vx tg iter ifs sc pos) (aBM kx vx tg iter ifs sc pos) aKQ (λ c fp s₀ H₀=>aKr (X:=(C.X i).block sc c N fp s₀ H₀) (k1 (i,c,fp,s₀,H₀)) (v1 (i,c,fp,s₀,H₀))) rfl rfl (hs i),aIn i2 g2 t2 k2 v2⟩
end
def nP(i:Int):List Int->Option Nat
 |[]=>none
 |a::l=>if a=i then some 0 else(nP i l).map (·+1)
theorem ww:∀{l:List Int} {j:Nat},nP i l=some j->(l.map λ a=>a==i)[j]? =some true/\∀m,m<j->(l.map λ a=>a==i)[m]? =some false
 |a::l,j,h=>by
  unfold nP at h;split at h
  ·rename_i e
   cases h;exact⟨by simp[e],λ m hm=>absurd hm (Nat.not_lt_zero _)⟩
  ·rename_i e
   obtain⟨k,h1,rfl⟩:=Option.map_eq_some_iff.mp h;obtain⟨h2,h3⟩:=ww h1;refine⟨h2,λ m hm=>?_⟩;cases m with
   |zero=>simp[e]
   |succ m=>exact h3 m (by lia)
def rA(l:List D):D->Rs D
 | .int i=>match intsOf l with
  |some is=>(match nP i is with
   |some j=>.ok (.int (j:Nat))
   |none=>.st)
  |none=>.st
 |_=>.st
def isL:D->Option (List D)
 | .lst l=>some l
 |_=>none
def opL(fd:List D->D->Rs D)(fo fe:En->Rs D):En->Rs D:=λ ρ=>(fo ρ).bd λ d=>match isL d with
 |some l=>(fe ρ).bd λ e=>okD (fd l e)
 |none=>.st
theorem wR{H:Hp}:∀is:List Int,L2.fB H (is.map V.int) (is.map L2.D.int)
 |[]=>.nil
 |i::is=>.cons (.int i) (wR is)
theorem aCM:∀is:List Int,L2.cB (is.map L2.D.int)=0/\L2.ao (is.map L2.D.int)=true
 |[]=>⟨rfl,rfl⟩
 |i::is=>by
  obtain⟨h1,h2⟩:=aCM is;simp[L2.cB,L2.fU,L2.ao,L2.aN,h1,h2]
theorem aI2(i:Int)(is:List Int):((is.map L2.D.int).map λ e=>L2.eqD e (.int i))=is.map λ a=>a==i:=by rw[List.map_map];rfl
theorem aFR{K:PySem.W.Frag}(r:Rp K A H x (.lst l))(h:intsOf l=some is):∃a,x= .ref a/\H a=some (.lst (is.map V.int)):=by
 rw[dN h]at r;obtain⟨a,xs,rfl,h1,_,r1⟩:=r.lst_inv;have e:=r1.ints_of;subst e;exact⟨a,rfl,h1⟩
section
variable{C:Ct}{m m1:Mode}{o e:Expr}{fo fe:En->Rs D}{apos cpos:Pos}
theorem z9(ho:SE C m o fo)(he:SE C m1 e fe)(hs1:∀j,starEach [e] (C.X j).env=[(false,eval e (C.X j).env)]:=by intro _;rfl)(hbase:∀j,attributeBase o "index" (C.X j).env (eval o (C.X j).env)=eval o (C.X j).env:=by intro _;rfl)
  (hfew:∀j,((backTo cpos (starEach [e] (C.X j).env)).all (λ x=>!x.1)&&(backToKw cpos (keywordEach [] (C.X j).env)).all (λ x=>x.1.isSome)&&decide ([e].length+([]:List Keyword).length+(if ([]:List Keyword).isEmpty then 0 else 1)<30))=true:=by intro _;rfl)
  (hline:(apos.endLine==cpos.line)=true:=by rfl):SE C (some []) (.Call (.Attribute o "index" apos) [e] [] cpos) (opL rA fo fe):=by
 obtain⟨t,h1,h2⟩:=ho;obtain⟨u,k1,k2⟩:=he;refine⟨tBM C.K "list" aC9 t (iB u lV),λ j=>by rw[<-C.hK j];exact wW PySem.F.plainAttrs_list PySem.F.slot_list_index PySem.F.type_list_index (wY (by have:=(C.room j).un;lia)) (h1 j) (aa (k1 j) cP (hs1 j)) (hbase j) (hfew j) hline (hs1 j) rfl,λ τ σ H ρ lab Q R W=>?_⟩;refine h2 τ σ H ρ lab _ R (W.bd.imp λ d _ w x H1 s1 r1=>?_);cases d with
 |lst l=>
  obtain⟨a,xs,rfl,ha,_⟩:=r1.lst_inv;replace w:WR C.G ((fe ρ).bd λ e=>okD (rA l e)) (QE C.K (some []) lab H Q):=w;refine⟨.inl ⟨rfl,xs,SqL.of ha⟩,k2 τ σ H1 ρ lab _ (R.up s1) (w.bd.imp λ e _ w y H2 s2 r2=>?_)⟩;obtain⟨z,ez,wz⟩:=w.okD;cases e with
  |int i=>
   unfold rA at ez;dsimp only at ez;cases hi:intsOf l with
   |none=>rw[hi]at ez;cases ez
   |some is=>
    rw[hi]at ez;dsimp only at ez;have ey:=r2.int_inv;subst ey;obtain⟨a',ea,hl⟩:=aFR (r1.up s2) hi;cases ea;cases hj:nP i is with
    |none=>rw[hj]at ez;cases ez
    |some j=>
     rw[hj]at ez;cases ez;obtain⟨q1,q2⟩:=ww hj;exact⟨a,.int i,.int i,is.map L2.D.int,j,rfl,rfl,.lst hl (wR is),.int i,by rw[(aCM is).1];decide,rfl,(aCM is).2,by rw[aI2];exact q1,λ m hm=>by rw[aI2];exact q2 m hm,wz _ H2 (s1.trans s2) (.int _)⟩
  |_=>cases ez
 |_=>exact False.elim w
end
def yp(K:PySem.W.Frag)(x:Str)(Pt:Addr):Bool:=match PySem.W.nsIn K mainGlobals x with
 |some (some (.ref f))=>(match K.lookup f with
  |some ⟨_,_,.func fd,_⟩=>(match fd.code with| .ref c=>PySem.W.codeHdIn K c Pt|_=>false)
  |_=>false)&&(K.lookup Pt).isNone
 |_=>false
theorem aDb{K:PySem.W.Frag}{h:Heap}{mg:Str->Option Value}{fa Pt:Addr}{x:Str}(X:K.In h)(G:h.Ns mainGlobals mg)(hm:mg x=some (.ref fa))(e:yp K x Pt=true)
  {o:Obj}{fd:FuncData}(lk:K.lookup fa=some o)(hd:o.data= .func fd):K.lookup Pt=none/\∃c,fd.code= .ref c/\PySem.W.codeHdIn K c Pt=true:=by
 unfold yp at e;split at e
 ·rename_i f hf
  have e1:=(PySem.W.mg_of X G hf).symm.trans hm;cases e1;rw[Bool.and_eq_true]at e;refine⟨by simpa using e.2,?_⟩;have e2:=e.1;rw[lk]at e2;split at e2
  ·rename_i fd' _ q
   have q2:=Option.some.inj q;rw[q2]at hd;have hd2:Data.func fd'=Data.func fd:=hd;cases hd2;split at e2
   ·rename_i c hc
    exact⟨c,hc,e2⟩
   ·cases e2
  ·cases e2
 ·cases e
theorem aHS{P:Program}{w:World}{K:PySem.W.Frag}{h:Heap}{mg:Str->Option Value}{fa Pt:Addr}{fd:FuncData}{k n:Nat}{x:Str}{N:List Str}{st:Stmt}{f:En->Ou}{F:List D->Rs D}(X:K.In h)(G:h.Ns mainGlobals mg)
  (hB:yp K "law" Pt=true){ps:List Str}(e:Dnr K mg "law" st ps fa fd)(S:ak N [x] (aF st))
  (hbind:∀(kV doc pm:Value) (an:Option Addr) (cdv ct:Value) (s:Shared) (u:Value),BindsTo s (PySem.W.fnOf "law" "law" (nA st) (cj st) (aF st) .none kV doc pm an cdv ct) ⟨[u],[]⟩ [(x,u)])
  (body:∀(base:Heap) (c:Addr) (s:Shared) (H:Hp) (hr:dg k (callerA.deeper (envOfC "law" (aF st) s.heap.objs.size fa (.ref c)))),sJ (cxW P w K mg base N "law" (aF st) fa (.ref c) callerA s H Pt) Pt->List.Nodup N->
   SSs (ctW P w K mg base N "law" (aF st) fa (.ref c) callerA s H Pt k hr) (cj st) f)
  (hF:F=eH N.length f)(tru:∀ns:List Int,ns.length<=n->F [.scr ns]= .ok (.bl true)):aDG P w K mg fa Pt k n:=by
 obtain⟨oc,od,kV,doc,pm,an,cdv,ct,osl,e1,lk,hcd⟩:=e.F.ex;obtain⟨h1,c,h2,h3⟩:=aDb X G e.m hB lk rfl;subst e1;obtain rfl:cdv= .ref c:=h2;exact⟨x,"law","law",_,_,_,_,kV,doc,pm,ct,oc,an,od,c,osl,N,h1,h3,lk,hcd,S,λ s u=>hbind kV doc pm an _ ct s u,λ a ns hl base s H hr Lx hO hS=>
  aFU (body base c s H hr Lx S.nd) (by rw[<-hF];exact tru ns hl) (.cons (.scr (aIt hO hS)) .nil)⟩
section
variable{ρ:En}{i:Nat}{f g:En->Rs D}{fb gb:En->Rs Bool}{ga:En->Rs (List D)}{u v:En->Ou}{d e:D}
@[simp] theorem varD_ap:di i ρ=match ρ[i]? with
 |some (.sh d)=>.ok d
 |some (.nw d)=>.ok d
 |some (.ow d)=>.ok d
 |some (.oz d)=>.ok d
 |some (.o2 l)=>.ok (.lst (l.map .lst))
 |_=>.st:=aM rfl
@[simp] theorem aCT:aC i ρ=match ρ[i]? with
 |some (.sh d)=>.ok d
 |some (.nw d)=>.ok d
 |_=>.st:=aM rfl
@[simp] theorem varN_ap:qM i ρ=match ρ[i]? with
 |some (.nw d)=>.ok d
 |_=>.st:=aM rfl
@[simp] theorem varO_ap:qL i ρ=match ρ[i]? with
 |some (.ow d)=>.ok d
 |some (.o2 l)=>.ok (.lst (l.map .lst))
 |_=>.st:=aM rfl
@[simp] theorem aLN:cD d ρ= .ok d:=aM rfl
@[simp] theorem aCj:aG ρ= .ok []:=aM rfl
@[simp] theorem bU:aA f ga ρ=(f ρ).bd λ d=>(ga ρ).bd λ ds=>.ok (d::ds):=aM rfl
@[simp] theorem szl:sizeLine=16777216:=sizeLine_eq
@[simp] theorem xq:dM ga ρ=(ga ρ).bd λ ds=>if ds.length<=16777216 then .ok (.tup ds)else .st:=by unfold dM;rw[szl]
@[simp] theorem lstD_ap:ig ga ρ=(ga ρ).bd λ ds=>if ds.length<=16777216 then .ok (.lst ds)else .st:=by unfold ig;rw[szl]
@[simp] theorem qj:okD (.ok d)= .ok d:=aM rfl
@[simp] theorem uY:op2 fd f g ρ=(f ρ).bd λ x=>(g ρ).bd λ y=>okD (fd x y):=aM rfl
@[simp] theorem op1_ap:op1 fd f ρ=(f ρ).bd λ x=>okD (fd x):=aM rfl
@[simp] theorem km:opA fd ga ρ=(ga ρ).bd λ x=>okD (fd x):=aM rfl
@[simp] theorem jr:aO F ga ρ=(ga ρ).bd F:=aM rfl
def aLR(d:D)(r:Rs D):Rs D:=match d with
 | .bl true=>r
 | .bl false=>.ok (.bl false)
 |_=>.st
@[simp] theorem aDF:aLR (.bl b) r=if b=true then r else .ok (.bl false):=by cases b<;>rfl
@[simp] theorem zU:vV f g ρ=(f ρ).bd λ d=>aLR d (g ρ):=aM rfl
@[simp] theorem notD_bl:aJf (.bl b)= .ok (.bl (!b)):=aM rfl
def chR(d:D)(r:Rs D):Rs D:=match d with
 | .bl true=>r
 | .bl false=>.ok (.bl false)
 |_=>.st
@[simp] theorem chR_bl:chR (.bl b) r=if b=true then r else .ok (.bl false):=by cases b<;>rfl
@[simp] theorem chD_ap:chD fd fd' f g h ρ=(f ρ).bd λ x=>(g ρ).bd λ y=>(okD (fd x y)).bd λ z=>chR z ((h ρ).bd λ w=>okD (fd' y w)):=aM rfl
@[simp] theorem truD_bl:aIf (.bl b)= .ok b:=aM rfl
@[simp] theorem aGJ:blD (.bl b)= .ok b:=aM rfl
@[simp] theorem aED:tst f ρ=(f ρ).bd aIf:=aM rfl
@[simp] theorem tY:tsb f ρ=(f ρ).bd blD:=aM rfl
@[simp] theorem zT:wD fb gb ρ=(fb ρ).bd λ k=>if k=true then gb ρ else .ok false:=aM rfl
@[simp] theorem aBg:orT fb gb ρ=(fb ρ).bd λ k=>if k=true then .ok true else gb ρ:=aM rfl
@[simp] theorem aCi:ie fb ρ=(fb ρ).bd λ k=>.ok (!k):=aM rfl
@[simp] theorem aY:aW u v ρ=(u ρ).sq v:=aM rfl
@[simp] theorem kY:retS f ρ=(f ρ).bo .rt:=aM rfl
@[simp] theorem aFx:ji f ρ=(f ρ).bo λ _=>.nx ρ:=aM rfl
@[simp] theorem aCG:ifS fb u v ρ=(fb ρ).bo λ k=>if k=true then u ρ else v ρ:=aM rfl
@[simp] theorem aG4:cu i f ρ=(f ρ).bo λ d=>.nx (ρ.set i (.sh d)):=aM rfl
@[simp] theorem yG:sS i f ρ=(f ρ).bo λ d=>.nx (ρ.set i (.nw d)):=aM rfl
@[simp] theorem aG5:jV i f ρ=(f ρ).bo λ d=>.nx (ρ.set i (.ow d)):=aM rfl
@[simp] theorem aFp:gnm i d ρ= .ok (ρ.set i (.sh d)):=aM rfl
@[simp] theorem gnil_nil:dF [] ρ= .ok ρ:=aM rfl
@[simp] theorem gcons_cons:aX a b (d::ds) ρ=(a d ρ).bd (b ds):=aM rfl
@[simp] theorem gtup_tup:cz n b (.tup ds) ρ=if ds.length=n then b ds ρ else .st:=aM rfl
def nxO(r:Rs En):Ou:=match r with
 | .ok ρ=>.nx ρ
 |_=>.st
@[simp] theorem nxO_ok:nxO (.ok ρ)= .nx ρ:=aM rfl
@[simp] theorem asgS_ap:zR f a ρ=(f ρ).bo λ d=>nxO (a d ρ):=aM rfl
@[simp] theorem itD_tup:itD (.tup l)= .ok l:=aM rfl
@[simp] theorem itD_lst:itD (.lst l)= .ok l:=aM rfl
@[simp] theorem itrD_ap:cX f ρ=(f ρ).bd itD:=aM rfl
@[simp] theorem iC:dw ga a u ρ=(ga ρ).bo λ ds=>forL a u ds ρ:=aM rfl
def Ou.tn(o:Ou)(k:En->Ou):Ou:=match o with
 | .nx ρ2=>k ρ2
 | .ct ρ2=>k ρ2
 | .bk ρ2=>.nx ρ2
 |o=>o
@[simp] theorem tZ:(Ou.nx ρ).tn k=k ρ:=aM rfl
@[simp] theorem tn_rt:(Ou.rt d).tn k= .rt d:=aM rfl
def okE(r:Rs En)(k:En->Ou):Ou:=match r with
 | .ok ρ=>k ρ
 |_=>.st
@[simp] theorem yc:okE (.ok ρ) k=k ρ:=aM rfl
theorem fD:forL a u (d::ds) ρ=okE (a d ρ) λ ρ1=>(u ρ1).tn (forL a u ds):=by
 unfold forL;cases a d ρ with
 |ok ρ1=>simp only[yc];cases u ρ1<;>rfl
 |ex c=>rfl
 |st=>rfl
@[simp] theorem immD_ap:bL f ρ=(f ρ).bd yw:=aM rfl
@[simp] theorem rngA_ap:dZ r ga ρ=(ga ρ).bd r:=aM rfl
@[simp] theorem raiseS_ap:uQ x ga ρ=(ga ρ).bo λ ds=>if ds.length<=16777216 then .ex x else .st:=by unfold uQ;rw[szl]
@[simp] theorem yesT_ap:jT ρ= .ok true:=aM rfl
end
section
variable{d e:D}{i j:Int}{l m:List D}
theorem aHh(h:imm d=true):yw d= .ok d:=by unfold yw;rw[if_pos h]
@[simp] theorem gImm_int:yw (.int i)= .ok (.int i):=aM rfl
@[simp] theorem addD_int:fX (.int i) (.int j)= .ok (.int (i+j)):=aM rfl
@[simp] theorem subD_int:aGY (.int i) (.int j)= .ok (.int (i-j)):=aM rfl
theorem xH(h0:0<j)(h1:j<1073741824):rT (.int i) (.int j)= .ok (.int (i / j)):=by unfold rT i2;dsimp only;rw[if_pos (by simp[h0,h1])]
theorem mD(h0:0<j):qm (.int i) (.int j)= .ok (.int (i%j)):=by unfold qm i2;dsimp only;rw[if_pos (by simp[h0])]
theorem yf(h0: -(2^64)<i)(h1:i<2^64):jf (.int i) (.int j)= .ok (.int (i*j)):=by unfold jf;dsimp only;rw[if_pos (by simp only[Bool.or_eq_true,Bool.and_eq_true,decide_eq_true_eq];exact .inl ⟨h0,h1⟩)]
theorem aFL(h0: -(2^64)<j)(h1:j<2^64):jf (.int i) (.int j)= .ok (.int (i*j)):=by unfold jf;dsimp only;rw[if_pos (by simp only[Bool.or_eq_true,Bool.and_eq_true,decide_eq_true_eq];exact .inr ⟨h0,h1⟩)]
@[simp] theorem negD_int:aFK (.int i)= .ok (.int (-i)):=aM rfl
@[simp] theorem aHP:ltD (.int i) (.int j)= .ok (.bl (decide (i<j))):=aM rfl
@[simp] theorem leD_int:leD (.int i) (.int j)= .ok (.bl (decide (i<=j))):=aM rfl
@[simp] theorem gtD_int:gtD (.int i) (.int j)= .ok (.bl (decide (j<i))):=aM rfl
@[simp] theorem geD_int:geD (.int i) (.int j)= .ok (.bl (decide (j<=i))):=aM rfl
theorem aHO(ns ms:List Int):ltD (.tup (ns.map .int)) (.tup (ms.map .int))= .ok (.bl (HT.lexLt ns ms)):=by
 unfold ltD ltT i2;simp only[fj]
@[simp] theorem lenD_tup:j6 [.tup l]= .ok (.int l.length):=aM rfl
@[simp] theorem lenD_lst:j6 [.lst l]= .ok (.int l.length):=aM rfl
@[simp] theorem lenD_scr:j6 [.scr x]= .ok (.int x.length):=aM rfl
@[simp] theorem tupleD_lst:dj [.lst l]= .ok (.tup l):=aM rfl
@[simp] theorem mmD_int:mmD f [.int i,.int j]= .ok (.int (f i j)):=aM rfl
@[simp] theorem aHX:ixD (.tup l) (.int i)=atD l i:=aM rfl
@[simp] theorem ixD_lst:ixD (.lst l) (.int i)=atD l i:=aM rfl
@[simp] theorem ixD_scr:ixD (.scr x) (.int i)=atD (x.map .int) i:=aM rfl
theorem jQ{k:Nat}(h:l[k]? =some d):atD l (k:Int)= .ok d:=by
 have hk:=(List.getElem?_eq_some_iff.mp h).1;unfold atD atI ixN;rw[if_pos (by omega),if_pos (by omega)];simp[h]
theorem aGK(h0:0<=i)(h1:i<l.length):∃d,atD l i= .ok d/\d∈l/\l[i.toNat]? =some d:=by
 have hk:i.toNat<l.length:=by omega
 have e:=List.getElem?_eq_getElem hk;refine⟨_,?_,List.getElem_mem hk,e⟩
 have:=jQ e
 rwa [Int.toNat_of_nonneg h0]at this
@[simp] theorem aLQ{r:List D}:atD (d::r) 0= .ok d:=jQ (k:=0) rfl
@[simp] theorem aLP{r:List D}:atD (d::e::r) 1= .ok e:=jQ (k:=1) rfl
@[simp] theorem eqR_int:eqR n (.int i) (.int j)= .ok (.bl (if n then !(i==j)else i==j)):=aM rfl
def knd:D->Bool
 | .set _=>false
 | .scr _=>false
 | .fn _=>false
 |_=>true
theorem tL(hT:T∈["bool","int","str","list","tuple","dict"])(h:knd d=true):fZ T d= .ok (.bl (aHZ (tyD d) T)):=by
 have ht:tyD d∈["NoneType","bool","int","str","list","tuple","dict"]:=by cases d<;>simp_all [tyD,knd]
 unfold fZ nZ;cases e:aHZ (tyD d) T<;>simp[ht,hT]
def aJx:D->Bool
 | .int _=>true
 | .bl _=>true
 |_=>false
def aLD:D->Bool
 | .bl _=>true
 |_=>false
def oZ:D->Bool
 | .tup _=>true
 |_=>false
theorem aHY(h:knd d=true):fZ "int" d= .ok (.bl (aJx d)):=by
 rw[tL (by simp) h];cases d<;>first|rfl|(simp[knd]at h)
theorem aF9(h:knd d=true):fZ "bool" d= .ok (.bl (aLD d)):=by
 rw[tL (by simp) h];cases d<;>first|rfl|(simp[knd]at h)
theorem m9(h:knd d=true):fZ "tuple" d= .ok (.bl (oZ d)):=by
 rw[tL (by simp) h];cases d<;>first|rfl|(simp[knd]at h)
@[simp] theorem nY:fZ "tuple" (.tup l)= .ok (.bl true):=m9 rfl
end
@[simp] theorem bO:eH n u ds=match u (bA n ds)with
 | .nx _=>.ok .non
 | .rt d=>.ok d
 | .ex c=>.ex c
 |_=>.st:=aM rfl
theorem jK(h0: -(2^62)<=j)(h1:j<2^62):fW [.int j]= .ok (bG 0 j):=by unfold fW;dsimp only;rw[if_pos ⟨h0,h1⟩]
theorem aC8(h0: -(2^62)<=i)(h1:i<2^62)(h2: -(2^62)<=j)(h3:j<2^62):aBY [.int i,.int j]= .ok (bG i j):=by unfold aBY;dsimp only;rw[if_pos ⟨⟨h0,h1⟩,h2,h3⟩]
theorem aAN{lo hi:Int}:d∈bG lo hi↔∃k:Int,d= .int k/\lo<=k/\k<hi:=by
 unfold bG;rw[List.mem_map];constructor
 ·rintro⟨n,hn,rfl⟩
  have:=List.mem_range.mp hn
  exact⟨lo+n,rfl,by omega,by omega⟩
 ·rintro⟨k,rfl,h1,h2⟩
  exact⟨(k-lo).toNat,List.mem_range.mpr (by omega),by congr 1;omega⟩
theorem mH(I:Nat->En->Prop)(hs:∀(i:Nat) d ρ,ds[i]? =some d->I i ρ->∃ρ2,okE (a d ρ) (λ ρ1=>u ρ1)= .nx ρ2/\I (i+1) ρ2)(h0:I 0 ρ):∃ρ',forL a u ds ρ= .nx ρ'/\I ds.length ρ':=by
 have go:∀(n:Nat) (ρ:En),n<=ds.length->I (ds.length-n) ρ->∃ρ',forL a u (ds.drop (ds.length-n)) ρ= .nx ρ'/\I ds.length ρ':=by
  intro n;induction n with
  |zero=>intro ρ _ h;exact⟨ρ,by rw[Nat.sub_zero,List.drop_length];rfl,h⟩
  |succ n ih=>
   intro ρ hn h;have hlt:ds.length-(n+1)<ds.length:=by omega
   rw[List.drop_eq_getElem_cons hlt,fD];obtain⟨ρ2,e,h2⟩:=hs _ _ ρ (List.getElem?_eq_getElem hlt) h;rw[show ds.length-(n+1)+1=ds.length-n by omega]at h2 ⊢;cases ea:a ds[ds.length-(n+1)] ρ with
   |ok ρ1=>
    rw[ea]at e;simp only[yc]at e ⊢;rw[e,tZ];exact ih ρ2 (by omega) h2
   |ex c=>rw[ea]at e;cases e
   |st=>rw[ea]at e;cases e
 have:=go ds.length ρ (Nat.le_refl _) (by rw[Nat.sub_self];exact h0)
 rwa [Nat.sub_self,List.drop_zero]at this
end VL
namespace VL.My
open PySem L2
def wdN:Str->Option Str:=λ c=>((["NoWeb","NoPlace","NoWay","NoParting","TooMany","NoForest","NoPlan","NoOneWay","NoOrder","NoText","NoDeed","NoRow"]:List Str).zip (["web","place","way","parting","many","forest","plan","one way","order","text","deed","row"]:List Str)).lookup c
def gC:En->Ou:=
  (retS (vV (op1 (fZ "int") (aC 0)) (op1 aJf (op1 (fZ "bool") (aC 0)))))
def jF:List D->Rs D:=eH 1 gC
def dR:En->Ou:=
  (aW (dw (dZ aBY (aA (cD (.int 1)) (aA (opA j6 (aA (aC 0) aG)) aG))) (gnm 1)
   (ifS (ie (tsb (op2 ltD (op2 ixD (aC 0) (op2 aGY (aC 1) (cD (.int 1)))) (op2 ixD (aC 0) (aC 1)))))
    (retS (cD (.bl false)))
    Ou.nx))
  (retS (cD (.bl true))))
def cZ:List D->Rs D:=eH 2 dR
def gG:En->Ou:=
  (aW (zR (aC 0) (cz 2 (aX (gnm 1) (aX (gnm 2) dF))))
  (aW (llS 3 (dZ fW (aA (aC 1) aG)) [none] (gnm 0))
  (aW (dw (cX (aC 2)) (cz 2 (aX (gnm 4) (aX (gnm 5) dF)))
   (aW (oF 3 (aC 4) (bL (aC 5)))
   (oF 3 (aC 5) (bL (aC 4)))))
  (retS (qL 3)))))
def gQ:List D->Rs D:=eH 6 gG
def fG:En->Ou:=
  (aW (jV 2 (ig (aA (bL (aC 1)) aG)))
  (aW (cu 3 (cD (.int 0)))
  (aW (xn (tsb (op2 ltD (aC 3) (opA j6 (aA (di 2) aG))))
   (aW (sS 4 (bL (op2 ixD (di 2) (aC 3))))
   (aW (dw (cX (op2 ixD (aC 0) (qM 4))) (gnm 5)
    (ifS (tsb (op2 (inR true) (aC 5) (di 2)))
     (lR 2 (bL (aC 5)))
     Ou.nx))
   (aHs (i2 (λ _ _=>true) λ a b=>.int (a+b)) 3 (cD (.int 1))))))
  (retS (opA dj (aA (opA uF (aA (di 2) aG)) aG))))))
def fL:List D->Rs D:=eH 6 fG
def cQ:En->Ou:=
  (aW (ifS (tsb (op2 ltD (aC 1) (opA j6 (aA (aC 0) aG))))
   (retS (bL (op2 ixD (aC 0) (aC 1))))
   Ou.nx)
  (retS (cD (.int 0))))
def cR:List D->Rs D:=eH 2 cQ
def dO:En->Ou:=
  (aW (ifS (tsb (op2 geD (aC 0) (op2 aJF (cD (.int 10)) (cD (.int 18)))))
   (aW (cu 3 (aC 0))
   (aW (dw (dZ fW (aA (aC 1) aG)) (gnm 4)
    (aW (ifS (tsb (op2 (eqR false) (aC 3) (cD (.int 0))))
     (retS (cD (.int 0)))
     Ou.nx)
    (cu 3 (op2 rT (aC 3) (aC 2)))))
   (retS (op2 qm (aC 3) (aC 2)))))
   Ou.nx)
  (aW (cu 5 (op2 qm (op2 jf (op2 fX (op2 fX (op2 qm (aC 0) (cD (.int 1000000007))) (op2 jf (cD (.int 1009)) (aC 1))) (cD (.int 17))) (cD (.int 69621))) (cD (.int 2147483647))))
  (aW (cu 5 (op2 qm (op2 fX (op2 fX (op2 jf (aC 5) (aC 5)) (op2 jf (cD (.int 40503)) (aC 1))) (cD (.int 5))) (cD (.int 2147483629))))
  (retS (op2 qm (op2 rT (op2 qm (op2 jf (aC 5) (cD (.int 48271))) (cD (.int 2147483647))) (cD (.int 32))) (aC 2))))))
def az:List D->Rs D:=eH 6 dO
def fH:En->Ou:=
  (aW (jV 1 (lrD (op2 ixD (aC 0) (cD (.int 0)))))
  (aW (dw (dZ fW (aA (op2 ixD (aC 0) (cD (.int 0))) aG)) (gnm 2)
   (dw (cX (op2 ixD (aC 0) (cD (.int 1)))) (cz 2 (aX (gnm 3) (aX (gnm 4) dF)))
    (aW (aB9 1 (aC 3) (opA (mmD λ i j=>if j<i then j else i) (aA (op2 ixD (di 1) (aC 3)) (aA (op2 ixD (di 1) (aC 4)) aG))))
    (aB9 1 (aC 4) (bL (op2 ixD (di 1) (aC 3)))))))
  (retS (lcD (cX (opA j9 (aA (aC 1) aG))) [none,some 0,some 1] (gnm 0) jT (opA dj (aA (lcD (dZ fW (aA (op2 ixD (aC 1) (cD (.int 0))) aG)) [none,some 2,some 0] (gnm 0) (tsb (op2 (eqR false) (op2 ixD (aC 1) (aC 0)) (aC 2))) (bL (aC 0))) aG))))))
def fM:List D->Rs D:=eH 5 fH
def gB:En->Ou:=
  (aW (sS 2 (lcD (dZ fW (aA (op2 ixD (aC 0) (cD (.int 0))) aG)) [none,some 1] (gnm 0) (tsb (op2 (inR true) (aC 0) (aC 1))) (bL (aC 0))))
  (aW (sS 3 (lcD (cX (op2 ixD (aC 0) (cD (.int 1)))) [none,some 2] (gnm 0) (wD (tsb (op2 (inR false) (op2 ixD (aC 0) (cD (.int 0))) (aC 1))) (tsb (op2 (inR false) (op2 ixD (aC 0) (cD (.int 1))) (aC 1)))) (bL (aC 0))))
  (retS (dM (aA (opA j6 (aA (qM 2) aG)) (aA (opA dj (aA (lcD (cX (aC 3)) [none,none,some 2] (cz 2 (aX (gnm 0) (aX (gnm 1) dF))) jT (dM (aA (opL rA (aC 2) (aC 0)) (aA (opL rA (aC 2) (aC 1)) aG)))) aG)) aG))))))
def jE:List D->Rs D:=eH 4 gB
def iM:En->Ou:=
  (retS (vV (aO jF (aA (aC 0) aG)) (chD leD leD (cD (.int 0)) (aC 0) (cD (.int 60)))))
def nD:List D->Rs D:=eH 1 iM
def gD:En->Ou:=
  (retS (vV (aO jF (aA (aC 1) aG)) (chD leD ltD (cD (.int 0)) (aC 1) (aC 0))))
def cC:List D->Rs D:=eH 2 gD
def dC:En->Ou:=
  (aW (jV 2 (ig aG))
  (aW (jV 3 (cD (.set [])))
  (aW (dw (cX (aC 1)) (gnm 4)
   (ifS (tsb (op2 (inX true) (aC 4) (di 3)))
    (aW (cu 5 (aO fL (aA (aC 0) (aA (aC 4) aG))))
    (aW (lR 2 (bL (aC 5)))
    (dw (cX (aC 5)) (gnm 6)
     (aHv 3 (bL (aC 6))))))
    Ou.nx))
  (retS (qL 2)))))
def dD:List D->Rs D:=eH 7 dC
def iJ:En->Ou:=
  (aW (cu 2 (aO az (aA (aC 0) (aA (cD (.int 0)) (aA (op2 fX (aC 1) (cD (.int 1))) aG)))))
  (aW (cu 3 (op2 fX (cD (.int 1)) (aO az (aA (aC 0) (aA (cD (.int 1)) (aA (cD (.int 6)) aG))))))
  (aW (jV 4 (ig aG))
  (aW (dw (dZ fW (aA (aC 2) aG)) (gnm 5)
   (dw (dZ aBY (aA (op2 fX (aC 5) (cD (.int 1))) (aA (aC 2) aG))) (gnm 6)
    (ifS (tsb (op2 ltD (aO az (aA (aC 0) (aA (op2 fX (op2 fX (cD (.int 3)) (op2 jf (cD (.int 61)) (aC 5))) (aC 6)) (aA (cD (.int 8)) aG)))) (aC 3)))
     (lR 4 (dM (aA (bL (aC 5)) (aA (bL (aC 6)) aG))))
     Ou.nx)))
  (retS (dM (aA (bL (aC 2)) (aA (opA dj (aA (qL 4) aG)) aG))))))))
def gO:List D->Rs D:=eH 7 iJ
def gA:En->Ou:=
  (aW (cu 3 (aO az (aA (aC 0) (aA (aC 2) (aA (cD (.int 6)) aG)))))
  (aW (jV 4 (ig aG))
  (aW (dw (dZ fW (aA (aC 1) aG)) (gnm 5)
   (ifS (orT (tsb (op2 (eqR false) (aC 3) (cD (.int 0)))) (wD (tsb (op2 gtD (aC 3) (cD (.int 1)))) (tsb (op2 (eqR false) (aO az (aA (aC 0) (aA (op2 fX (op2 fX (aC 2) (cD (.int 1))) (aC 5)) (aA (cD (.int 3)) aG)))) (cD (.int 0))))))
    (lR 4 (bL (aC 5)))
    Ou.nx))
  (retS (opA dj (aA (qL 4) aG))))))
def jD:List D->Rs D:=eH 6 gA
def cH:En->Ou:=
  (aW (sS 2 (ig (aA (dM (aA (bL (aC 1)) aG)) (aA (dM (aA (op1 aFK (cD (.int 1))) aG)) (aA (dM (aA (cD (.int 0)) (aA (cD (.int 0)) aG))) (aA (dM (aA (cD (.int 1)) (aA (cD (.int 0)) aG))) (aA (dM (aA (cD (.bl true)) aG)) (aA (dM (aA (cD .non) aG)) (aA (ig aG) (aA (ig (aA (cD (.int 0)) aG)) (aA (cD .non) (aA (cD (.int 0)) (aA (cD (.str "0")) (aA (dM (aA (dM aG) aG)) (aA (dM (aA (cD (.int 0)) (aA (bL (aC 1)) aG))) (aA (cD (.dct [] [])) aG))))))))))))))))
  (retS (op2 ixD (qM 2) (aO az (aA (aC 0) (aA (cD (.int 6000)) (aA (cD (.int 14)) aG)))))))
def cI:List D->Rs D:=eH 3 cH
def iK:En->Ou:=
  (aW (ifS (orT (ie (tst (op1 (fZ "tuple") (aC 1)))) (tsb (op2 (eqR true) (opA j6 (aA (aC 1) aG)) (cD (.int 2)))))
   (retS (cD (.bl false)))
   Ou.nx)
  (retS (vV (aO cC (aA (aC 0) (aA (op2 ixD (aC 1) (cD (.int 0))) aG))) (vV (aO cC (aA (aC 0) (aA (op2 ixD (aC 1) (cD (.int 1))) aG))) (op2 (eqR true) (op2 ixD (aC 1) (cD (.int 0))) (op2 ixD (aC 1) (cD (.int 1))))))))
def jw:List D->Rs D:=eH 2 iK
def cM:En->Ou:=
  (aW (ifS (ie (tst (op1 (fZ "tuple") (aC 1))))
   (retS (cD (.bl false)))
   Ou.nx)
  (aW (dw (cX (aC 1)) (gnm 2)
   (ifS (ie (tst (aO cC (aA (aC 0) (aA (aC 2) aG)))))
    (retS (cD (.bl false)))
    Ou.nx))
  (retS (aO cZ (aA (aC 1) aG)))))
def dh:List D->Rs D:=eH 3 cM
def bF:En->Ou:=
  (aW (ifS (ie (tst (op1 (fZ "tuple") (aC 1))))
   (retS (cD (.bl false)))
   Ou.nx)
  (aW (dw (cX (aC 1)) (gnm 2)
   (ifS (ie (tst (aO jw (aA (aC 0) (aA (aC 2) aG)))))
    (retS (cD (.bl false)))
    Ou.nx))
  (retS (aO cZ (aA (aC 1) aG)))))
def bI:List D->Rs D:=eH 3 bF
def cV:En->Ou:=
  (ifS (ie (tst (aO dh (aA (aC 0) (aA (aC 1) aG)))))
   (uQ "NoPlace" (aA (cD (.str "these are no places of the web")) aG))
   Ou.nx)
def cF:List D->Rs D:=eH 2 cV
def gF:En->Ou:=
  (retS (vV (aO bI (aA (aC 0) (aA (aC 1) aG))) (opA (rD λ bs=>bs.all id) (aA (lcD (cX (aC 1)) [none,none] (cz 2 (aX (gnm 0) (aX (gnm 1) dF))) jT (op2 ltD (aC 0) (aC 1))) aG))))
def lH:List D->Rs D:=eH 2 gF
def jm:En->Ou:=
  (aW (ifS (orT (ie (tst (op1 (fZ "tuple") (aC 0)))) (tsb (op2 (eqR true) (opA j6 (aA (aC 0) aG)) (cD (.int 2)))))
   (retS (cD (.bl false)))
   Ou.nx)
  (retS (vV (aO nD (aA (op2 ixD (aC 0) (cD (.int 0))) aG)) (aO lH (aA (op2 ixD (aC 0) (cD (.int 0))) (aA (op2 ixD (aC 0) (cD (.int 1))) aG))))))
def qK:List D->Rs D:=eH 1 jm
def fJ:En->Ou:=
  (ifS (ie (tst (aO qK (aA (aC 0) aG))))
   (uQ "NoWeb" (aA (cD (.str "this is no web")) aG))
   Ou.nx)
def bf:List D->Rs D:=eH 1 fJ
def nC:En->Ou:=
  (aW (ji (aO bf (aA (aC 0) aG)))
  (retS (aO dD (aA (aO gQ (aA (aC 0) aG)) (aA (lrD (op2 ixD (aC 0) (cD (.int 0)))) aG)))))
def gY:List D->Rs D:=eH 1 nC
def iI:En->Ou:=
  (aW (ji (aO bf (aA (aC 0) aG)))
  (aW (zR (aC 0) (cz 2 (aX (gnm 2) (aX (gnm 3) dF))))
  (aW (ji (aO cF (aA (aC 2) (aA (aC 1) aG))))
  (aW (sS 4 (lcD (dZ fW (aA (aC 2) aG)) [none,some 1] (gnm 0) (tsb (op2 (inR true) (aC 0) (aC 1))) (bL (aC 0))))
  (aW (cu 5 (dcI (dZ aAg (aA (aC 4) aG)) [none,none] (cz 2 (aX (gnm 0) (aX (gnm 1) dF))) jT (bL (aC 1)) (bL (aC 0))))
  (retS (dM (aA (opA j6 (aA (qM 4) aG)) (aA (opA dj (aA (lcD (cX (aC 3)) [none,none,some 5] (cz 2 (aX (gnm 0) (aX (gnm 1) dF))) (wD (tsb (op2 (vq false) (aC 0) (aC 2))) (tsb (op2 (vq false) (aC 1) (aC 2)))) (dM (aA (bL (op2 zA (aC 2) (aC 0))) (aA (bL (op2 zA (aC 2) (aC 1))) aG)))) aG)) aG)))))))))
def bW:List D->Rs D:=eH 6 iI
def xW:En->Ou:=
  (aW (dw (dZ fW (aA (opA (mmD λ i j=>if j>i then j else i) (aA (cD (.int 1)) (aA (opA (mmD λ i j=>if j<i then j else i) (aA (opA j6 (aA (aC 0) aG)) (aA (cD (.int 6)) aG))) aG))) aG)) (gnm 1)
   (aW (cu 2 (aO cR (aA (aC 0) (aA (aC 1) aG))))
   (aW (cu 3 (aO gO (aA (aC 2) (aA (cD (.int 14)) aG))))
   (aW (cu 4 (aO fM (aA (aC 3) aG)))
   (aW (dw (dZ fW (aA (cD (.int 2)) aG)) (gnm 5)
    (aW (jV 6 (aO gY (aA (aC 3) aG)))
    (aW (ifS (orT (ie (tst (op1 (fZ "list") (di 6)))) (orT (tsb (op2 (eqR true) (di 6) (aC 4))) (ie (tst (opA (rD λ bs=>bs.all id) (aA (lcD (cX (aC 6)) [none] (gnm 0) jT (op1 (fZ "tuple") (aC 0))) aG))))))
     (retS (cD (.bl false)))
     Ou.nx)
    (lR 6 (dM aG)))))
   (aW (dw (cX (ig (aA (cD (.int 5000)) (aA (cD (.int 5200)) (aA (cD (.int 5400)) aG))))) (gnm 7)
    (aW (cu 8 (aO jD (aA (aC 2) (aA (op2 ixD (aC 3) (cD (.int 0))) (aA (aC 7) aG)))))
    (aW (cu 9 (aO bW (aA (aC 3) (aA (aC 8) aG))))
    (ifS (orT (ie (tst (op1 (fZ "tuple") (aC 9)))) (tsb (op2 (eqR true) (aC 9) (aO jE (aA (aC 3) (aA (aC 8) aG))))))
     (retS (cD (.bl false)))
     Ou.nx))))
   (aW (cu 10 (aO cI (aA (aC 2) (aA (op2 ixD (aC 3) (cD (.int 0))) aG))))
   (aW (ifS (tsb (op2 (eqR true) (qb wdN "told" (aO bW (aA (aC 3) (aA (aC 10) aG)))) (cD (.str "place"))))
    (retS (cD (.bl false)))
    Ou.nx)
   (aW (ifS (tsb (op2 (eqR true) (qb wdN "told" (aO gY (aA (dM (aA (cD (.int 1)) (aA (cD .non) aG))) aG))) (cD (.str "web"))))
    (retS (cD (.bl false)))
    Ou.nx)
   (ifS (tsb (op2 (eqR true) (qb wdN "told" (aO bW (aA (dM (aA (cD (.int 1)) (aA (ig (aA (dM (aA (cD (.int 0)) (aA (cD (.int 1)) aG))) aG)) aG))) (aA (aC 10) aG)))) (cD (.str "web"))))
    (retS (cD (.bl false)))
    Ou.nx))))))))))
  (retS (cD (.bl true))))
def aGP:List D->Rs D:=eH 11 xW
theorem xT{b:Int}(hb:0<b)(hb2:b<1073741824){c:Int}{k:Int}:∀(ds:List D) (x:Int) (s:Slot),(∀d∈ds,∃n:Int,d= .int n)->
  (∃y s',forL (gnm 4) (aW (ifS (tsb (op2 (eqR false) (aC 3) (cD (.int 0)))) (retS (cD (.int 0))) Ou.nx) (cu 3 (op2 rT (aC 3) (aC 2)))) ds [.sh (.int c),.sh (.int k),.sh (.int b),.sh (.int x),s,.no]= .nx [.sh (.int c),.sh (.int k),.sh (.int b),.sh (.int y),s',.no])\/
  forL (gnm 4) (aW (ifS (tsb (op2 (eqR false) (aC 3) (cD (.int 0)))) (retS (cD (.int 0))) Ou.nx) (cu 3 (op2 rT (aC 3) (aC 2)))) ds [.sh (.int c),.sh (.int k),.sh (.int b),.sh (.int x),s,.no]= .rt (.int 0)
 |[],x,s,_=>.inl ⟨x,s,rfl⟩
 |d::ds,x,s,h=>by
  have ih:=xT hb hb2 (c:=c) (k:=k) ds (x / b) (.sh d) λ e he=>h e (List.mem_cons_of_mem _ he)
  rw[fD];by_cases hx:x=0
  ·subst hx
   right;simp
  ·simp[hx,xH hb hb2]
   exact ih
theorem aHk{c k b:Int}(hk0:0<=k)(hk1:k<2^40)(hb:0<b)(hb2:b<1073741824):∃r:Int,az [.int c,.int k,.int b]= .ok (.int r)/\0<=r/\r<b:=by
 have hp:aJF (.int 10) (.int 18)= .ok (.int 1000000000000000000):=rfl;by_cases hc:(1000000000000000000:Int)<=c
 ·have hr:=jK (j:=k) (by lia) (by lia)
  have hl:=xT hb hb2 (c:=c) (k:=k) (bG 0 k) c .no λ d hd=>let⟨n,e,_⟩:=aAN.mp hd;⟨n,e⟩
  rcases hl with ⟨y,s',e⟩|e
  ·refine⟨y%b,?_,Int.emod_nonneg _ (by lia),Int.emod_lt_of_pos _ hb⟩
   simp[az,dO,bA,hp,hc,hr,e,mD hb]
  ·refine⟨0,?_,by lia,hb⟩
   simp[az,dO,bA,hp,hc,hr,e]
 ·have s1:∀z:Int,0<=z%2147483647/\z%2147483647<2147483647:=λ z=>⟨Int.emod_nonneg _ (by decide),Int.emod_lt_of_pos _ (by decide)⟩
  have s2:∀z:Int,0<=z%2147483629/\z%2147483629<2147483629:=λ z=>⟨Int.emod_nonneg _ (by decide),Int.emod_lt_of_pos _ (by decide)⟩
  have m1:∀z,jf (.int 1009) (.int z)= .ok (.int (1009*z)):=λ z=>yf (by decide) (by decide)
  have m2:∀z,jf (.int z) (.int 69621)= .ok (.int (z*69621)):=λ z=>aFL (by decide) (by decide)
  have m3:∀z,jf (.int 40503) (.int z)= .ok (.int (40503*z)):=λ z=>yf (by decide) (by decide)
  have m4:∀z,jf (.int z) (.int 48271)= .ok (.int (z*48271)):=λ z=>aFL (by decide) (by decide)
  have m5:∀z:Int,jf (.int (z%2147483647)) (.int (z%2147483647))= .ok (.int (z%2147483647*(z%2147483647))):=λ z=>yf (by have:=s1 z;lia) (by have:=s1 z;lia)
  have d1:∀z,qm (.int z) (.int 1000000007)= .ok (.int (z%1000000007)):=λ z=>mD (by decide)
  have d2:∀z,qm (.int z) (.int 2147483647)= .ok (.int (z%2147483647)):=λ z=>mD (by decide)
  have d3:∀z,qm (.int z) (.int 2147483629)= .ok (.int (z%2147483629)):=λ z=>mD (by decide)
  have d4:∀z,rT (.int z) (.int 32)= .ok (.int (z / 32)):=λ z=>xH (by decide) (by decide)
  have d5:∀z,qm (.int z) (.int b)= .ok (.int (z%b)):=λ z=>mD hb
  simp[az,dO,bA,hp,hc,m1,m2,m3,m4,m5,d1,d2,d3,d4,d5,-Int.emod_emod_of_dvd];exact⟨Int.emod_nonneg _ (by lia),Int.emod_lt_of_pos _ hb⟩
theorem mz(hk0:0<=k)(hk1:k<2^40)(hb:0<b)(hb2:b<1073741824):∃r:Nat,az [.int c,.int k,.int b]= .ok (.int r)/\(r:Int)<b:=by
 obtain⟨r,e,h0,h1⟩:=aHk (c:=c) hk0 hk1 hb hb2;exact⟨r.toNat,by rw[Int.toNat_of_nonneg h0];exact e,by lia⟩
theorem aHp(h:0<=k):∃c:Int,cR [.scr ns,.int k]= .ok (.int c):=by
 by_cases hk:k<ns.length
 ·obtain⟨d,e,hm,_⟩:=aGK (l:=ns.map .int) (i:=k) h (by simpa using hk)
  obtain⟨c,_,rfl⟩:=List.mem_map.mp hm;exact⟨c,by simp[cR,cQ,bA,hk,e]⟩
 ·exact⟨0,by simp[cR,cQ,bA,hk]⟩
mutual
def pln:D->Bool
 | .tup l=>pK l
 | .lst l=>pK l
 | .set _=>false
 | .scr _=>false
 | .fn _=>false
 |_=>true
def pK:List D->Bool
 |[]=>true
 |d::r=>pln d&&pK r
end
theorem mX(h:pln d=true):knd d=true:=by cases d<;>first|rfl|(simp[pln]at h)
theorem uW:∀{l:List D} {d:D},pK l=true->d∈l->pln d=true
 |x::r,d,h,hm=>by
  simp only[pK,Bool.and_eq_true]at h;rcases List.mem_cons.mp hm with rfl|hm
  ·exact h.1
  ·exact uW h.2 hm
theorem aCc:∀{l:List D},(∀d∈l,pln d=true)->pK l=true
 |[],_=>rfl
 |x::r,h=>by
  simp only[pK,Bool.and_eq_true];exact⟨h x (List.mem_cons_self ..),aCc λ d hd=>h d (List.mem_cons_of_mem _ hd)⟩
def aBD:D->Bool
 | .int _=>true
 |_=>false
def aCm:D->Bool
 | .int i=>decide (0<=i)&&decide (i<=60)
 |_=>false
def bZ(m:Int):D->Bool
 | .int i=>decide (0<=i)&&decide (i<m)
 |_=>false
theorem rQ(h:knd d=true):jF [d]= .ok (.bl (aBD d)):=by
 simp[jF,gC,bA,aHY h,aF9 h];cases d<;>rfl
theorem aCD(h:knd d=true):nD [d]= .ok (.bl (aCm d)):=by
 simp[nD,iM,bA,rQ h];cases d<;>simp[aBD,aCm]
 rename_i i;by_cases h0:0<=i<;>simp[h0]
theorem mG(h:knd d=true):cC [.int m,d]= .ok (.bl (bZ m d)):=by
 simp[cC,gD,bA,rQ h];cases d<;>simp[aBD,bZ]
 rename_i i;by_cases h0:0<=i<;>simp[h0]
def iY(m:Int):D->Bool
 | .tup [.int a,.int b]=>decide (0<=a)&&decide (a<m)&&decide (0<=b)&&decide (b<m)&& !(a==b)
 |_=>false
theorem qd(h:bZ m d=true):∃i:Int,d= .int i/\0<=i/\i<m:=by
 cases d with
 |int i=>simp[bZ]at h;exact⟨i,rfl,h.1,h.2⟩
 |_=>simp[bZ]at h
theorem aEC(h:oZ d=true):∃l,d= .tup l:=by cases d<;>first|exact⟨_,rfl⟩|(cases h)
theorem aIc(h:l.length=2):∃x y,l=[x,y]:=by
 match l,h with
 |[x,y],_=>exact⟨x,y,rfl⟩
theorem aFC(h:oZ d=false):iY m d=false:=by cases d<;>first|rfl|(cases h)
theorem aD0(h:l.length≠2):iY m (.tup l)=false:=by
 match l,h with
 |[],_=>rfl
 |[x],_=>cases x<;>rfl
 |[x,y],h=>exact absurd rfl h
 |x::y::z::r,_=>cases x<;>first|rfl|(cases y<;>rfl)
theorem aGx(h:bZ m x=false):iY m (.tup [x,y])=false:=by
 cases x with
 |int i=>
  cases y with
  |int j=>
   show((((decide (0<=i)&&decide (i<m))&&decide (0<=j))&&decide (j<m))&& !(i==j))=false
   rw[show(decide (0<=i)&&decide (i<m))=false from h];rfl
  |_=>rfl
 |_=>rfl
theorem aGw(h:bZ m y=false):iY m (.tup [.int i,y])=false:=by
 cases y with
 |int j=>
  show((((decide (0<=i)&&decide (i<m))&&decide (0<=j))&&decide (j<m))&& !(i==j))=false
  rw[Bool.and_assoc (decide (0<=i)&&decide (i<m)),show(decide (0<=j)&&decide (j<m))=false from h,Bool.and_false];rfl
 |_=>rfl
theorem aFB(h1:bZ m (.int i)=true)(h2:bZ m (.int j)=true):iY m (.tup [.int i,.int j])= !(i==j):=by
 show((((decide (0<=i)&&decide (i<m))&&decide (0<=j))&&decide (j<m))&& !(i==j))= !(i==j)
 rw[Bool.and_assoc (decide (0<=i)&&decide (i<m)),show(decide (0<=j)&&decide (j<m))=true from h2,show(decide (0<=i)&&decide (i<m))=true from h1];rfl
def ipE:En->Ou:=ifS (orT (ie (tst (op1 (fZ "tuple") (aC 1)))) (tsb (op2 (eqR true) (opA j6 (aA (aC 1) aG)) (cD (.int 2))))) (retS (cD (.bl false))) Ou.nx
theorem aA9:iK=aW ipE (retS (vV (aO cC (aA (aC 0) (aA (op2 ixD (aC 1) (cD (.int 0))) aG))) (vV (aO cC (aA (aC 0) (aA (op2 ixD (aC 1) (cD (.int 1))) aG))) (op2 (eqR true) (op2 ixD (aC 1) (cD (.int 0))) (op2 ixD (aC 1) (cD (.int 1))))))):=rfl
theorem aJz(hk:knd d=true)(h:oZ d=false):ipE [s,.sh d]= .rt (.bl false):=by simp[ipE,m9 hk,h]
theorem aH1(h:l.length≠2):ipE [s,.sh (.tup l)]= .rt (.bl false):=by
 have:¬((l.length:Int)=2):=by omega
 simp[ipE,this]
theorem aH0:ipE [s,.sh (.tup [x,y])]= .nx [s,.sh (.tup [x,y])]:=by simp[ipE]
theorem aCC(h:pln d=true):jw [.int m,d]= .ok (.bl (iY m d)):=by
 have st:bA 2 [.int m,d]=[.sh (.int m),.sh d]:=rfl;simp only[jw,aA9,bO,st];cases ht:oZ d with
 |false=>rw[aY,aJz (mX h) ht,aFC ht];rfl
 |true=>
  obtain⟨l,rfl⟩:=aEC ht;by_cases hl:l.length=2
  ·obtain⟨x,y,rfl⟩:=aIc hl
   simp only[pln,pK,Bool.and_eq_true]at h;have hx:=mG (m:=m) (mX h.1);have hy:=mG (m:=m) (mX h.2.1);have ex:aO cC (aA (aC 0) (aA (op2 ixD (aC 1) (cD (.int 0))) aG)) [.sh (.int m),.sh (.tup [x,y])]= .ok (.bl (bZ m x)):=by simp[hx]
   have ey:aO cC (aA (aC 0) (aA (op2 ixD (aC 1) (cD (.int 1))) aG)) [.sh (.int m),.sh (.tup [x,y])]= .ok (.bl (bZ m y)):=by simp[hy]
   rw[aY,aH0,bR,kY,zU,ex,cN,aDF,zU,ey,cN,aDF];cases c1:bZ m x with
   |false=>rw[aGx c1];rfl
   |true=>
    obtain⟨i,rfl,_,_⟩:=qd c1;cases c2:bZ m y with
    |false=>rw[aGw c2];rfl
    |true=>
     obtain⟨j,rfl,_,_⟩:=qd c2;rw[aFB c1 c2];rfl
  ·rw[aY,aH1 hl,aD0 hl];rfl
def pD(p:Int×Int):D:=.tup [.int p.1,.int p.2]
def ltP(p q:Int×Int):Bool:=HT.lexLt [p.1,p.2] [q.1,q.2]
def v9:List (Int×Int)->Bool
 |[]=>true
 |[_]=>true
 |p::q::r=>ltP p q&&v9 (q::r)
theorem aJi(p q:Int×Int):ltD (pD p) (pD q)= .ok (.bl (ltP p q)):=aHO [p.1,p.2] [q.1,q.2]
theorem mq:∀(ds:List D) (ok:Nat->Bool) (I:En->Prop) (ρ:En),I ρ->(∀(i:Nat) d ρ,ds[i]? =some d->I ρ->okE (a d ρ) u= .rt r/\ok i=false\/∃ρ',okE (a d ρ) u= .nx ρ'/\I ρ'/\ok i=true)->
  (forL a u ds ρ= .rt r/\∃i,i<ds.length/\ok i=false)\/(∃ρ',forL a u ds ρ= .nx ρ'/\I ρ'/\∀i,i<ds.length->ok i=true)
 |[],ok,I,ρ,h,_=>.inr ⟨ρ,rfl,h,λ i hi=>absurd hi (Nat.not_lt_zero _)⟩
 |d::ds,ok,I,ρ,h,hs=>by
  rw[fD];rcases hs 0 d ρ rfl h with ⟨e,o⟩|⟨ρ',e,h',o⟩
  ·left
   refine⟨?_,0,by simp,o⟩;cases ea:a d ρ with
   |ok ρ1=>rw[ea]at e;simp at e ⊢;rw[e];rfl
   |ex c=>rw[ea]at e;cases e
   |st=>rw[ea]at e;cases e
  ·have ih:=mq ds (λ i=>ok (i+1)) I ρ' h' λ i d2 ρ2 e2 h2=>hs (i+1) d2 ρ2 (by simpa using e2) h2
   have e3:okE (a d ρ) (λ ρ1=>(u ρ1).tn (forL a u ds))=forL a u ds ρ':=by
    cases ea:a d ρ with
    |ok ρ1=>rw[ea]at e;simp at e ⊢;rw[e];rfl
    |ex c=>rw[ea]at e;cases e
    |st=>rw[ea]at e;cases e
   rw[e3];rcases ih with ⟨e4,i,hi,o4⟩|⟨ρ4,e4,h4,o4⟩
   ·exact .inl ⟨e4,i+1,by simpa using hi,o4⟩
   ·refine .inr ⟨ρ4,e4,h4,λ i hi=>?_⟩
    cases i with
    |zero=>exact o
    |succ i=>exact o4 i (by simpa using hi)
theorem jc{i:Nat}(h:(bG lo hi)[i]? =some d):d= .int (lo+i)/\lo+i<hi:=by
 unfold bG at h;rw[List.getElem?_map]at h;by_cases hi2:i<(hi-lo).toNat
 ·rw[List.getElem?_range hi2]at h
  cases h;exact⟨rfl,by omega⟩
 ·rw[List.getElem?_eq_none (by simpa using hi2)]at h
  cases h
theorem gZ:(bG lo hi).length=(hi-lo).toNat:=by unfold bG;simp
section
variable{α:Type}{f:α->D}{lt:α->α->Bool}
def nJ(lt:α->α->Bool):List α->Bool
 |[]=>true
 |[_]=>true
 |p::q::r=>lt p q&&nJ lt (q::r)
theorem jd:∀{ps:List α},nJ lt ps=true↔∀(i:Nat) (p q:α),ps[i]? =some p->ps[i+1]? =some q->lt p q=true
 |[]=>by simp[nJ]
 |[x]=>by
  simp only[nJ,true_iff];intro i p q _ h2;simp at h2
 |x::y::r=>by
  have ih:=jd (ps:=y::r);unfold nJ;rw[Bool.and_eq_true,ih];constructor
  ·rintro⟨h1,h2⟩ i p q e1 e2
   cases i with
   |zero=>simp at e1 e2;subst e1 e2;exact h1
   |succ i=>exact h2 i p q (by simpa using e1) (by simpa using e2)
  ·intro h
   exact⟨h 0 x y rfl rfl,λ i p q e1 e2=>h (i+1) p q (by simpa using e1) (by simpa using e2)⟩
theorem rR(hlt:∀a b,ltD (f a) (f b)= .ok (.bl (lt a b)))(hl:ps.length<=100000):cZ [.tup (ps.map f)]= .ok (.bl (nJ lt ps)):=by
 have hr:=aC8 (i:=1) (j:=(ps.length:Int)) (by decide) (by decide) (by omega) (by omega);have hlen:(bG 1 (ps.length:Int)).length=ps.length-1:=by rw[gZ];omega
 have L:=mq (a:=gnm 1) (u:=ifS (ie (tsb (op2 ltD (op2 ixD (aC 0) (op2 aGY (aC 1) (cD (.int 1)))) (op2 ixD (aC 0) (aC 1))))) (retS (cD (.bl false))) Ou.nx) (r:=.bl false)
  (bG 1 (ps.length:Int)) (λ i=>match ps[i]?,ps[i+1]? with|some p,some q=>lt p q|_,_=>true) (λ ρ=>∃s,ρ=[.sh (.tup (ps.map f)),s]) [.sh (.tup (ps.map f)),.no] ⟨_,rfl⟩ (by
   rintro i d ρ hd ⟨s,rfl⟩;obtain⟨rfl,h2⟩:=jc hd;have e1:ps[i]? =some ps[i]:=List.getElem?_eq_getElem (by omega);have e2:ps[i+1]? =some ps[i+1]:=List.getElem?_eq_getElem (by omega);have a1:atD (ps.map f) (1+(i:Int)-1)= .ok (f ps[i]):=by
    rw[show(1+(i:Int)-1)=(i:Int)by omega];exact jQ (by rw[List.getElem?_map,e1];rfl)
   have a2:atD (ps.map f) (1+(i:Int))= .ok (f ps[i+1]):=by
    rw[show(1+(i:Int))=((i+1:Nat):Int)by omega];exact jQ (by rw[List.getElem?_map,e2];rfl)
   simp only[e1,e2];cases c:lt ps[i] ps[i+1]with
   |true=>right;exact⟨_,by simp[a1,a2,hlt,c];rfl,⟨_,rfl⟩,rfl⟩
   |false=>left;exact⟨by simp[a1,a2,hlt,c],rfl⟩)
 have st:bA 2 [.tup (ps.map f)]=[.sh (.tup (ps.map f)),.no]:=rfl;rcases L with ⟨e,i,hi,o⟩|⟨ρ',e,⟨s,rfl⟩,o⟩
 ·have:nJ lt ps=false:=by
   cases c:nJ lt ps with
   |false=>rfl
   |true=>
    rw[hlen]at hi;have z:=jd.mp c i ps[i] ps[i+1] (List.getElem?_eq_getElem (by omega)) (List.getElem?_eq_getElem (by omega));rw[List.getElem?_eq_getElem (by omega),List.getElem?_eq_getElem (by omega)]at o;simp only at o;rw[z]at o;cases o
  rw[this];simp only[cZ,dR,bO,st];simp[hr,e]
 ·have:nJ lt ps=true:=jd.mpr λ i p q e1 e2=>by
   have h2:=(List.getElem?_eq_some_iff.mp e2).1
   have:=o i (by rw[hlen];omega)
   rw[e1,e2]at this;exact this
  rw[this];simp only[cZ,dR,bO,st];simp[hr,e]
end
theorem aB0:∀ps:List (Int×Int),v9 ps=nJ ltP ps
 |[]=>rfl
 |[_]=>rfl
 |p::q::r=>by unfold v9 nJ;rw[aB0 (q::r)]
theorem yr(hl:ps.length<=100000):cZ [.tup (ps.map pD)]= .ok (.bl (v9 ps)):=by
 rw[aB0];exact rR aJi hl
def ltI(a b:Int):Bool:=decide (a<b)
theorem aA8(hl:ps.length<=100000):cZ [.tup (ps.map .int)]= .ok (.bl (nJ ltI ps)):=rR (λ a b=>by rw[aHP];rfl) hl
theorem aGg:v9 ps=true↔∀(i:Nat) (p q:Int×Int),ps[i]? =some p->ps[i+1]? =some q->ltP p q=true:=by rw[aB0];exact jd
def aGn:D->Int×Int
 | .tup [.int a,.int b]=>(a,b)
 |_=>(0,0)
theorem aBe(h:iY m d=true):∃a b:Int,d= .tup [.int a,.int b]/\0<=a/\a<m/\0<=b/\b<m/\a≠b:=by
 unfold iY at h;split at h
 ·rename_i a b
  simp at h;exact⟨a,b,rfl,h.1.1.1.1,h.1.1.1.2,h.1.1.2,h.1.2,h.2⟩
 ·cases h
theorem aIT:∀{ts:List D},ts.all (iY m)=true->(ts.map aGn).map pD=ts
 |[],_=>rfl
 |t::ts,h=>by
  rw[List.all_cons,Bool.and_eq_true]at h;obtain⟨a,b,rfl,_⟩:=aBe h.1;simp only[List.map_cons];rw[aIT h.2];rfl
def rpB(m:Int):D->Bool
 | .tup ts=>ts.all (iY m)&&v9 (ts.map aGn)
 |_=>false
def nG:D->Bool
 | .tup l=>decide (l.length<=100000)
 |_=>true
theorem nQ(h:pln d=true)(hs:nG d=true):bI [.int m,d]= .ok (.bl (rpB m d)):=by
 cases d with
 |tup ts=>
  have hp:pK ts=true:=by simpa[pln]using h
  have hl:ts.length<=100000:=by simpa[nG]using hs
  have L:=mq (a:=gnm 2) (u:=ifS (ie (tst (aO jw (aA (aC 0) (aA (aC 2) aG))))) (retS (cD (.bl false))) Ou.nx) (r:=.bl false)
   ts (λ i=>match ts[i]? with|some t=>iY m t|none=>true) (λ ρ=>∃s,ρ=[.sh (.int m),.sh (.tup ts),s]) [.sh (.int m),.sh (.tup ts),.no] ⟨_,rfl⟩ (by
    rintro i d ρ hd ⟨s,rfl⟩;have e:=aCC (m:=m) (uW hp (List.mem_of_getElem? hd));simp only[hd];cases c:iY m d with
    |true=>right;exact⟨_,by simp[e,c];rfl,⟨_,rfl⟩,rfl⟩
    |false=>left;exact⟨by simp[e,c],rfl⟩)
  have st:bA 3 [.int m,.tup ts]=[.sh (.int m),.sh (.tup ts),.no]:=rfl;rcases L with ⟨e,i,hi,o⟩|⟨ρ',e,⟨s,rfl⟩,o⟩
  ·have:ts.all (iY m)=false:=by
    rw[List.all_eq_false];rw[List.getElem?_eq_getElem hi]at o;exact⟨ts[i],List.getElem_mem hi,by simpa using o⟩
   simp only[bI,bF,bO,st];simp[e,rpB,this]
  ·have:ts.all (iY m)=true:=by
    rw[List.all_eq_true];intro t ht;obtain⟨i,hi,rfl⟩:=List.getElem_of_mem ht
    have:=o i hi
    rw[List.getElem?_eq_getElem hi]at this;exact this
   have er:=yr (ps:=ts.map aGn) (by rw[List.length_map];exact hl);rw[aIT this]at er;simp only[bI,bF,bO,st];simp[e,rpB,this,er]
 |_=>simp[bI,bF,bA,m9 (mX h),oZ,rpB]
structure Ow(n:Int)(ps:List (Int×Int)):Prop where
 n0:0<=n
 n1:n<=60
 len:ps.length<=3600
 pr:∀p∈ps,0<=p.1/\p.1<n/\0<=p.2/\p.2<n/\p.1≠p.2
 ris:v9 ps=true
def owD(n:Int)(ps:List (Int×Int)):D:=.tup [.int n,.tup (ps.map pD)]
theorem Ow.rp(h:Ow n ps):rpB n (.tup (ps.map pD))=true:=by
 have e:(ps.map pD).map aGn=ps:=by rw[List.map_map];exact(List.map_congr_left λ p _=>rfl).trans (List.map_id ps)
 unfold rpB;dsimp only;rw[e,h.ris,Bool.and_true,List.all_eq_true];intro d hd;obtain⟨p,hp,rfl⟩:=List.mem_map.mp hd;obtain⟨a,b,c,d,e⟩:=h.pr p hp;simp[pD,iY,a,b,c,d,e]
theorem aCb:∀ps:List (Int×Int),pK (ps.map pD)=true
 |[]=>rfl
 |p::ps=>by simp only[List.map_cons,pK,aCb ps,Bool.and_true];rfl
theorem aAj:∀ns:List Int,cB (ns.map .int)=0/\ao (ns.map .int)=true
 |[]=>⟨rfl,rfl⟩
 |n::ns=>by
  obtain⟨h1,h2⟩:=aAj ns;simp[cB,fU,ao,aN,h1,h2]
theorem pU(neg:Bool)(y:Int)(ns:List Int):inR neg (.int y) (.lst (ns.map .int))= .ok (.bl (if neg then !decide (y∈ns)else decide (y∈ns))):=by
 obtain⟨h1,h2⟩:=aAj ns;have e:inD (.int y) (ns.map .int)=decide (y∈ns):=by
  unfold inD;rw[Bool.eq_iff_iff];simp[List.any_eq_true,eqD]
 unfold inR;dsimp only;rw[h1,h2,e];rfl
theorem zM(f:α->Bool)(l:List α):boolsOf (l.map λ x=>D.bl (f x))=some (l.map f):=by
 have:=sI (l.map f)
 rwa [List.map_map]at this
theorem aAt(f:α->Bool)(l:List α):rD (λ bs=>bs.all id) [.lst (l.map λ x=>D.bl (f x))]= .ok (.bl (l.all f)):=by
 unfold rD;dsimp only;rw[zM];dsimp only;rw[List.all_map];rfl
theorem m7:∀(l:List α),(∀x∈l,∃ρ1,fg (f x) ρ= .ok ρ1/\ft ρ1= .ok (t x)/\fe ρ1= .ok (g x))->lcL ρ fg ft fe (l.map f)= .ok ((l.filter t).map g)
 |[],_=>rfl
 |x::l,h=>by
  obtain⟨ρ1,e1,e2,e3⟩:=h x List.mem_cons_self;have ih:=m7 l λ y hy=>h y (List.mem_cons_of_mem _ hy)
  rw[List.map_cons];unfold lcL;rw[e1,cN,e2,cN,e3,cN,ih,cN,List.filter_cons];cases t x<;>rfl
theorem aIZ{ρ:En}:∀(ps:List (Int×Int)),lcL [.no,.no] (cz 2 (aX (gnm 0) (aX (gnm 1) dF))) jT (op2 ltD (aC 0) (aC 1)) (ps.map pD)= .ok (ps.map λ p=>.bl (decide (p.1<p.2)))
 |[]=>rfl
 |p::ps=>by
  unfold lcL;simp[pD,aIZ (ρ:=ρ) ps]
theorem aAr{n:Int}(h:Ow n ps)(low:∀p∈ps,p.1<p.2):lH [.int n,.tup (ps.map pD)]= .ok (.bl true):=by
 have hl:=h.len;have e:=nQ (m:=n) (d:=.tup (ps.map pD)) (by simpa[pln]using aCb ps) (by simp[nG];lia);rw[h.rp]at e;have el:=aIZ (ρ:=[]) ps;have ei:lcD (cX (aC 1)) [none,none] (cz 2 (aX (gnm 0) (aX (gnm 1) dF))) jT (op2 ltD (aC 0) (aC 1)) [.sh (.int n),.sh (.tup (ps.map pD))]= .ok (.lst (ps.map λ p=>.bl (decide (p.1<p.2)))):=by
  have hi:cX (aC 1) (shE [.sh (.int n),.sh (.tup (ps.map pD))])= .ok (ps.map pD):=by simp[shE,qN]
  unfold lcD;rw[hi,cN,if_pos (by rw[szl,List.length_map];lia)]
  show(match lcL [.no,.no] _ jT _ (ps.map pD)with| .ok l=>Rs.ok (D.lst l)|_=>Rs.st)=_
  rw[el]
 have ha:opA (rD λ bs=>bs.all id) (aA (lcD (cX (aC 1)) [none,none] (cz 2 (aX (gnm 0) (aX (gnm 1) dF))) jT (op2 ltD (aC 0) (aC 1))) aG) [.sh (.int n),.sh (.tup (ps.map pD))]= .ok (.bl true):=by
  rw[km,bU,ei,cN,aCj,cN,cN,aAt,qj];rw[List.all_eq_true.mpr λ p hp=>decide_eq_true (low p hp)]
 have st:bA 2 [.int n,.tup (ps.map pD)]=[.sh (.int n),.sh (.tup (ps.map pD))]:=rfl;have ec:aO bI (aA (aC 0) (aA (aC 1) aG)) [.sh (.int n),.sh (.tup (ps.map pD))]= .ok (.bl true):=by rw[jr];exact e
 simp only[lH,gF,bO,st];rw[kY,zU,ec,ha];rfl
theorem aDh(h:Ow n ps)(low:∀p∈ps,p.1<p.2):qK [owD n ps]= .ok (.bl true):=by
 have e1:=aCD (d:=.int n) rfl;have e2:=aAr h low;have e3:aCm (.int n)=true:=by simp[aCm,h.n0,h.n1]
 rw[e3]at e1;simp[qK,jm,owD,bA,e1,e2]
def mn(a b:Int):Int:=if b<a then b else a
def intOf:D->Int
 | .int i=>i
 |_=>0
theorem oY(h1:fi (shE ρ)= .ok ds)(h2:ds.length<16777216)(h3:lcL (stE js (shE ρ)) fg ft fe ds= .ok out):lcD fi js fg ft fe ρ= .ok (.lst out):=by
 unfold lcD;rw[h1,cN,if_pos (by rw[szl];exact h2),h3]
theorem yj{α:Type}{f g:α->D}(l:List α)(h:∀x∈l,∃ρ1,fg (f x) ρ= .ok ρ1/\fe ρ1= .ok (g x)):lcL ρ fg jT fe (l.map f)= .ok (l.map g):=by
 have:=m7 (ρ:=ρ) (fg:=fg) (ft:=jT) (fe:=fe) (f:=f) (g:=g) (t:=λ _=>true) l λ x hx=>by
  obtain⟨ρ1,h1,h2⟩:=h x hx;exact⟨ρ1,h1,rfl,h2⟩
 rwa [List.filter_eq_self.mpr λ _ _=>rfl]at this
theorem aKP{α:Type}{f:α->Bool}{l:List α}(h:fe ρ= .ok (.lst (l.map λ x=>.bl (f x)))):opA (rD λ bs=>bs.all id) (aA fe aG) ρ= .ok (.bl (l.all f)):=by
 rw[km,bU,h,cN,aCj,cN,cN,aAt,qj]
theorem aFc(neg:Bool)(y:Int)(ns:List Int):inR neg (.int y) (.tup (ns.map .int))= .ok (.bl (if neg then !decide (y∈ns)else decide (y∈ns))):=pU neg y ns
def cJ(ll:List (List D))(p:Int×Int):List (List D):=ll.set p.1.toNat (ll.getD p.1.toNat []++[.int p.2])
theorem rB:∀(ps:List (Int×Int)) (ll:List (List D)),(ps.foldl cJ ll).length=ll.length
 |[],_=>rfl
 |p::ps,ll=>by rw[List.foldl_cons,rB ps];unfold cJ;rw[List.length_set]
def uo(ps:List (Int×Int))(i:Int):List Int:=(ps.filter λ p=>p.1==i).map (·.2)
theorem xF:∀(ps:List (Int×Int)) (ll:List (List D)) (i:Nat),(∀p∈ps,0<=p.1/\p.1<ll.length)->i<ll.length->(ps.foldl cJ ll).getD i []=ll.getD i []++(uo ps i).map .int
 |[],ll,i,_,_=>by simp[uo]
 |p::ps,ll,i,h,hi=>by
  obtain⟨h0,h1⟩:=h p List.mem_cons_self;rw[List.foldl_cons,xF ps (cJ ll p) i (λ q hq=>by unfold cJ;rw[List.length_set];exact h q (List.mem_cons_of_mem _ hq)) (by unfold cJ;rw[List.length_set];exact hi)];unfold cJ uo;by_cases c:p.1=i
  ·have hk:p.1.toNat=i:=by lia
   rw[hk,List.filter_cons_of_pos (by simpa using c)];simp[hi]
  ·have hk:p.1.toNat≠i:=by lia
   rw[List.filter_cons_of_neg (by simpa using c)];simp[List.getElem?_set_ne hk]
theorem aHJ:b∈uo ps a↔(a,b)∈ps:=by
 unfold uo;simp only[List.mem_map,List.mem_filter];constructor
 ·rintro⟨p,⟨h1,h2⟩,rfl⟩
  have:p.1=a:=by simpa using h2
  rw[<-this];exact h1
 ·intro h
  exact⟨(a,b),⟨h,by simp⟩,rfl⟩
def dbl(ps:List (Int×Int)):List (Int×Int):=ps.flatMap λ p=>[p,(p.2,p.1)]
theorem jM:(a,b)∈dbl ps↔(a,b)∈ps\/(b,a)∈ps:=by
 unfold dbl;simp only[List.mem_flatMap,List.mem_cons,List.not_mem_nil,or_false];constructor
 ·rintro⟨p,hp,h|h⟩
  ·rw[h];exact .inl hp
  ·cases h;exact .inr hp
 ·rintro(h|h)
  ·exact⟨_,h,.inl rfl⟩
  ·exact⟨_,h,.inr rfl⟩
theorem aGB(p:Int×Int)(ps:List (Int×Int)):dbl (p::ps)=p::(p.2,p.1)::dbl ps:=rfl
theorem aDE(hi:ρ[i]? =some (.o2 ll))(hf:f ρ= .ok (.int a))(hg:g ρ= .ok (.int b))(h0:0<=a)(h1:a<ll.length)(hz:(ll.getD a.toNat []).length<16777216):
  oF i f g ρ= .nx (ρ.set i (.o2 (cJ ll (a,b)))):=by
 have hk:a.toNat<ll.length:=by lia
 have ha:at2 ll (.int a)=some (a.toNat,ll.getD a.toNat []):=by
  have hx:ixN ll.length a=some a.toNat:=by
   unfold ixN;rw[if_pos (by lia),if_pos (by lia)]
  simp only[at2,hx,Option.bind_some];rw[List.getElem?_eq_getElem hk];simp[hk]
 unfold oF;rw[hi];dsimp only;rw[hf,dW,ha];dsimp only;rw[hg,dW,if_pos (by rw[sizeLine_eq];exact hz)];rfl
theorem uB(ll:List (List D))(p:Int×Int):(cJ ll p).length=ll.length:=by unfold cJ;rw[List.length_set]
theorem aCW(h:∀l∈ll,l.length<=m):∀l∈cJ ll p,l.length<=m+1:=by
 intro l hl;unfold cJ at hl;rcases List.mem_or_eq_of_mem_set hl with z|z
 ·exact Nat.le_succ_of_le (h l z)
 ·subst z
  rw[List.length_append,List.length_singleton]
  have:(ll.getD p.1.toNat []).length<=m:=by
   by_cases hk:p.1.toNat<ll.length
   ·exact h _ (by simp[hk])
   ·simp[List.getElem?_eq_none (Nat.le_of_not_lt hk)]
  lia
theorem aCx{ll:List (List D)}(h:∀l∈ll,l.length<=m)(k:Nat):(ll.getD k []).length<=m:=by
 by_cases hk:k<ll.length
 ·exact h _ (by simp[hk])
 ·simp[List.getElem?_eq_none (Nat.le_of_not_lt hk)]
def atB:En->Ou:=aW (oF 3 (aC 4) (bL (aC 5))) (oF 3 (aC 5) (bL (aC 4)))
theorem wH{w s1 s2:Slot}:∀(ps:List (Int×Int)) (ll:List (List D)) (s4 s5:Slot),(∀p∈ps,0<=p.1/\p.1<ll.length/\0<=p.2/\p.2<ll.length)->(∀l∈ll,l.length+2*ps.length<=10000)->
  ∃s4' s5',forL (cz 2 (aX (gnm 4) (aX (gnm 5) dF))) atB (ps.map pD) [w,s1,s2,.o2 ll,s4,s5]= .nx [w,s1,s2,.o2 ((dbl ps).foldl cJ ll),s4',s5']
 |[],ll,s4,s5,_,_=>⟨s4,s5,rfl⟩
 |p::ps,ll,s4,s5,h,hl=>by
  obtain⟨a0,a1,b0,b1⟩:=h p List.mem_cons_self;have hb0:∀l∈ll,l.length<=10000-2*(ps.length+1):=λ l hm=>by
   have:=hl l hm
   rw[List.length_cons]at this;lia
  have hb1:=aCW (p:=p) hb0;have hb2:=aCW (p:=(p.2,p.1)) hb1;by_cases hne:ll=[]
  ·subst hne
   simp at a1;lia
  have hbig:2*(ps.length+1)<=10000:=by
   obtain⟨l,hm⟩:=List.exists_mem_of_ne_nil ll hne
   have:=hl l hm
   rw[List.length_cons]at this;lia
  obtain⟨s4',s5',e⟩:=wH (w:=w) (s1:=s1) (s2:=s2) ps (cJ (cJ ll p) (p.2,p.1)) (.sh (.int p.1)) (.sh (.int p.2)) (λ q hq=>by rw[uB,uB];exact h q (List.mem_cons_of_mem _ hq)) (λ l hm=>by have:=hb2 l hm;lia);refine⟨s4',s5',?_⟩;rw[List.map_cons,fD,aGB,List.foldl_cons,List.foldl_cons];have hg:okE (cz 2 (aX (gnm 4) (aX (gnm 5) dF)) (pD p) [w,s1,s2,.o2 ll,s4,s5]) (λ ρ1=>(atB ρ1).tn (forL (cz 2 (aX (gnm 4) (aX (gnm 5) dF))) atB (ps.map pD)))=
    (atB [w,s1,s2,.o2 ll,.sh (.int p.1),.sh (.int p.2)]).tn (forL (cz 2 (aX (gnm 4) (aX (gnm 5) dF))) atB (ps.map pD)):=by
   simp[pD]
  have c1:oF 3 (aC 4) (bL (aC 5)) [w,s1,s2,.o2 ll,.sh (.int p.1),.sh (.int p.2)]= .nx [w,s1,s2,.o2 (cJ ll p),.sh (.int p.1),.sh (.int p.2)]:=
   aDE (a:=p.1) (b:=p.2) rfl (by simp) (by simp) a0 a1 (by have:=aCx hb0 p.1.toNat;lia)
  have c2:oF 3 (aC 5) (bL (aC 4)) [w,s1,s2,.o2 (cJ ll p),.sh (.int p.1),.sh (.int p.2)]= .nx [w,s1,s2,.o2 (cJ (cJ ll p) (p.2,p.1)),.sh (.int p.1),.sh (.int p.2)]:=
   aDE (a:=p.2) (b:=p.1) rfl (by simp) (by simp) b0 (by rw[uB];exact b1) (by have:=aCx hb1 p.2.toNat;lia)
  have hc:atB [w,s1,s2,.o2 ll,.sh (.int p.1),.sh (.int p.2)]= .nx [w,s1,s2,.o2 (cJ (cJ ll p) (p.2,p.1)),.sh (.int p.1),.sh (.int p.2)]:=by
   unfold atB;rw[aY,c1,bR,c2]
  rw[hg,hc,tZ];exact e
structure aKV(n:Int)(es:List (Int×Int))(ll:List (List D)):Prop where
 len:ll.length=n.toNat
 item:∀i:Int,0<=i->i<n->∃ws:List Int,atD (ll.map .lst) i= .ok (.lst (ws.map .int))/\∀b,b∈ws↔(i,b)∈es
theorem aAs(h:Ow n ps):∃ll,gQ [owD n ps]= .ok (.lst (ll.map .lst))/\aKV n (dbl ps) ll:=by
 have hn0:=h.n0;have hn1:=h.n1;have hr:=jK (j:=n) (by lia) (by lia);have hlen:(bG 0 n).length=n.toNat:=by rw[gZ];lia
 have hps:=h.len;have hin:∀p∈ps,0<=p.1/\p.1<(List.replicate n.toNat ([]:List D)).length/\0<=p.2/\p.2<(List.replicate n.toNat ([]:List D)).length:=λ p hp=>by
  obtain⟨a,b,c,d,_⟩:=h.pr p hp;rw[List.length_replicate];lia
 have hin2:∀p∈dbl ps,0<=p.1/\p.1<(List.replicate n.toNat ([]:List D)).length:=λ p hp=>by
  rcases jM.mp (show(p.1,p.2)∈dbl ps from hp)with z|z
  ·have:=hin _ z;exact⟨this.1,this.2.1⟩
  ·have:=hin _ z;exact⟨this.2.2.1,this.2.2.2⟩
 obtain⟨s4,s5,e⟩:=wH (w:=.sh (owD n ps)) (s1:=.sh (.int n)) (s2:=.sh (.tup (ps.map pD))) ps (List.replicate n.toNat []) .no .no hin (λ l hl=>by
  rw[(List.mem_replicate.mp hl).2];simp;lia)
 refine⟨(dbl ps).foldl cJ (List.replicate n.toNat []),?_,by rw[rB,List.length_replicate],λ i h0 h1=>⟨uo (dbl ps) i,?_,λ b=>aHJ⟩⟩
 ·have hz:n.toNat<16777216:=by lia
  have a0:zR (aC 0) (cz 2 (aX (gnm 1) (aX (gnm 2) dF))) [.sh (owD n ps),.no,.no,.no,.no,.no]= .nx [.sh (owD n ps),.sh (.int n),.sh (.tup (ps.map pD)),.no,.no,.no]:=by
   simp[owD]
  have a1:llS 3 (dZ fW (aA (aC 1) aG)) [none] (gnm 0) [.sh (owD n ps),.sh (.int n),.sh (.tup (ps.map pD)),.no,.no,.no]= .nx [.sh (owD n ps),.sh (.int n),.sh (.tup (ps.map pD)),.o2 (List.replicate n.toNat []),.no,.no]:=by
   unfold llS;simp[shE,qN,hr,hlen,hz]
  have a2:dw (cX (aC 2)) (cz 2 (aX (gnm 4) (aX (gnm 5) dF))) atB [.sh (owD n ps),.sh (.int n),.sh (.tup (ps.map pD)),.o2 (List.replicate n.toNat []),.no,.no]= .nx [.sh (owD n ps),.sh (.int n),.sh (.tup (ps.map pD)),.o2 ((dbl ps).foldl cJ (List.replicate n.toNat [])),s4,s5]:=by
   have hi:cX (aC 2) [.sh (owD n ps),.sh (.int n),.sh (.tup (ps.map pD)),.o2 (List.replicate n.toNat []),.no,.no]= .ok (ps.map pD):=by simp
   rw[iC,hi,dW];exact e
  have a3:retS (qL 3) [.sh (owD n ps),.sh (.int n),.sh (.tup (ps.map pD)),.o2 ((dbl ps).foldl cJ (List.replicate n.toNat [])),s4,s5]= .rt (.lst (((dbl ps).foldl cJ (List.replicate n.toNat [])).map .lst)):=by simp
  have st:bA 6 [owD n ps]=[.sh (owD n ps),.no,.no,.no,.no,.no]:=rfl;have df:gG=aW (zR (aC 0) (cz 2 (aX (gnm 1) (aX (gnm 2) dF)))) (aW (llS 3 (dZ fW (aA (aC 1) aG)) [none] (gnm 0)) (aW (dw (cX (aC 2)) (cz 2 (aX (gnm 4) (aX (gnm 5) dF))) atB) (retS (qL 3)))):=rfl;simp only[gQ,df,bO,st];rw[aY,a0,bR,aY,a1,bR,aY,a2,bR,a3]
 ·have hk:i.toNat<(List.replicate n.toNat ([]:List D)).length:=by rw[List.length_replicate];lia
  have hg:=xF (dbl ps) (List.replicate n.toNat []) i.toNat hin2 hk;have hk2:i.toNat<((dbl ps).foldl cJ (List.replicate n.toNat [])).length:=by rw[rB];exact hk
  have hi:((i.toNat:Nat):Int)=i:=Int.toNat_of_nonneg h0;rw[hi]at hg;rw[<-hi];refine jQ ?_;rw[hi,List.getElem?_map,List.getElem?_eq_getElem hk2]
  have:((dbl ps).foldl cJ (List.replicate n.toNat []))[i.toNat]=(uo (dbl ps) i).map .int:=by
   have e1:((dbl ps).foldl cJ (List.replicate n.toNat [])).getD i.toNat []=((dbl ps).foldl cJ (List.replicate n.toNat []))[i.toNat]:=by simp[hk2]
   rw[<-e1,hg];have e2:(List.replicate n.toNat ([]:List D)).getD i.toNat []=[]:=by
    rw[List.getD_eq_getElem?_getD,List.getElem?_replicate];split<;>rfl
   rw[e2,List.nil_append]
  rw[this];rfl
def eE(ps:List (Int×Int)):List Int->Bool
 |a::b::r=>decide ((a,b)∈ps)&&eE ps (b::r)
 |_=>true
def aLb:D->Bool
 | .tup l=>decide (l.length<4000)
 |_=>true
theorem aAe(neg:Bool)(h1:fU d<=60)(h2:aN d=true):eqR neg d d= .ok (.bl (if neg then false else true)):=by
 unfold eqR;rw[if_pos (by simp[h1,h2]),gf d h2];cases neg<;>rfl
theorem tQ{a:D->En->Rs En}{u:En->Ou}{I:En->Prop}:∀(ds:List D) (ρ:En),I ρ->(∀d∈ds,∀ρ,I ρ->∃ρ',okE (a d ρ) u= .nx ρ'/\I ρ')->∃ρ',forL a u ds ρ= .nx ρ'/\I ρ'
 |[],ρ,h,_=>⟨ρ,rfl,h⟩
 |d::ds,ρ,h,H=>by
  rw[fD];have tnE:∀(r':Rs En) (k:En->Ou),okE r' (λ ρ1=>(u ρ1).tn k)=(okE r' u).tn k:=λ r' k=>by cases r'<;>rfl
  rw[tnE];obtain⟨ρ',e,hI⟩:=H d List.mem_cons_self ρ h;rw[e,tZ];exact tQ ds ρ' hI λ y hy=>H y (List.mem_cons_of_mem _ hy)
theorem aHj{a b:Str}:eqR true (.str a) (.str b)= .ok (.bl (!(a==b))):=rfl
theorem aAY{α:Type}{f:α->D}{g:α->D}{t:α->Bool}{ρ:En}{fg:D->En->Rs En}{ft:En->Rs Bool}{fe:En->Rs D}:∀(l:List α),(∀x∈l,∃ρ1,fg (f x) ρ= .ok ρ1/\ft ρ1= .ok (t x)/\(t x=true->fe ρ1= .ok (g x)))->lcL ρ fg ft fe (l.map f)= .ok ((l.filter t).map g)
 |[],_=>rfl
 |x::l,h=>by
  obtain⟨ρ1,e1,e2,e3⟩:=h x List.mem_cons_self;have ih:=aAY (t:=t) (g:=g) (ft:=ft) (fe:=fe) l λ y hy=>h y (List.mem_cons_of_mem _ hy)
  rw[List.map_cons,List.filter_cons];unfold lcL;rw[e1,cN,e2,cN];cases c:t x with
  |true=>rw[if_pos rfl,e3 c,cN,ih,cN];rfl
  |false=>rw[if_neg (by simp),ih];rfl
theorem aHN{p q:Int×Int}:ltP p q=true↔p.1<q.1\/p.1=q.1/\p.2<q.2:=by
 unfold ltP;have e:HT.lexLt [p.1,p.2] [q.1,q.2]=true↔p.1<q.1\/p.1=q.1/\p.2<q.2:=by
  by_cases h1:p.1=q.1
  ·by_cases h2:p.2=q.2
   ·simp[HT.lexLt,h1,h2]
   ·simp[HT.lexLt,h1,h2]
  ·simp[HT.lexLt,h1]
 exact e
theorem aE4{ps:List (Int×Int)}{q:Int×Int}(h:v9 ps=true)(l:∀p∈ps,ltP p q=true):v9 (ps++[q])=true:=by
 rw[aGg]at h ⊢;intro i a b e1 e2;by_cases hi:i+1<ps.length
 ·rw[List.getElem?_append_left (by lia)]at e1
  rw[List.getElem?_append_left hi]at e2;exact h i a b e1 e2
 ·have hj:=(List.getElem?_eq_some_iff.mp e2).1
  rw[List.length_append,List.length_singleton]at hj;have hk:i+1=ps.length:=by lia
  rw[List.getElem?_append_left (by lia)]at e1;rw[hk,List.getElem?_append_right (Nat.le_refl _),Nat.sub_self]at e2;cases e2;exact l a (List.mem_of_getElem? e1)
structure Wi(n a b:Int)(ps:List (Int×Int)):Prop where
 ris:v9 ps=true
 pr:∀p∈ps,0<=p.1/\p.1<p.2/\p.2<n/\(p.1<a\/p.1=a/\p.2<b)
theorem Wi.put(W:Wi n a b ps)(h0:0<=a)(h1:a<b)(h2:b<n):Wi n a (b+1) (ps++[(a,b)]):=by
 refine⟨aE4 W.ris λ p hp=>?_,λ p hp=>?_⟩
 ·obtain⟨_,_,_,h⟩:=W.pr p hp
  rw[aHN];exact h
 ·rcases List.mem_append.mp hp with hp|hp
  ·obtain⟨q1,q2,q3,q4⟩:=W.pr p hp
   exact⟨q1,q2,q3,by lia⟩
  ·rw[List.mem_singleton.mp hp]
   exact⟨h0,h1,h2,.inr ⟨rfl,by show b<b+1;lia⟩⟩
theorem Wi.on{a' b':Int}(W:Wi n a b ps)(h:a<a'\/a=a'/\b<=b'):Wi n a' b' ps:=⟨W.ris,λ p hp=>by
 obtain⟨q1,q2,q3,q4⟩:=W.pr p hp;exact⟨q1,q2,q3,by lia⟩⟩
def wbI:En->Ou:=ifS (tsb (op2 ltD (aO az (aA (aC 0) (aA (op2 fX (op2 fX (cD (.int 3)) (op2 jf (cD (.int 61)) (aC 5))) (aC 6)) (aA (cD (.int 8)) aG)))) (aC 3))) (lR 4 (dM (aA (bL (aC 5)) (aA (bL (aC 6)) aG)))) Ou.nx
def wbO:En->Ou:=dw (dZ aBY (aA (op2 fX (aC 5) (cD (.int 1))) (aA (aC 2) aG))) (gnm 6) wbI
theorem aBu{most:Nat}(h1:most<=60):∃n ps,gO [.int c,.int most]= .ok (owD n ps)/\Ow n ps/\(∀p∈ps,p.1<p.2)/\n<=most:=by
 obtain⟨n,en,hn⟩:=mz (c:=c) (k:=0) (b:=(most:Int)+1) (by decide) (by decide) (by lia) (by lia);obtain⟨th,et,_⟩:=mz (c:=c) (k:=1) (b:=6) (by decide) (by decide) (by decide) (by decide);have hr1:=jK (j:=(n:Int)) (by lia) (by lia);have inner:∀(a:Int) (K0:Nat) (ps:List (Int×Int)) (s2:Slot),0<=a->a<n->K0<=3600->ps.length<=K0->Wi n a (a+1) ps->
   ∃ps' s2',forL (gnm 6) wbI (bG (a+1) n) [.sh (.int c),.sh (.int most),.sh (.int n),.sh (.int (1+th)),.ow (.lst (ps.map pD)),.sh (.int a),s2]= .nx [.sh (.int c),.sh (.int most),.sh (.int n),.sh (.int (1+th)),.ow (.lst (ps'.map pD)),.sh (.int a),s2']/\ps'.length<=K0+60/\Wi n a n ps':=by
  intro a K0 ps s2 ha0 ha1 hK hl W;obtain⟨ρ',e,ps',s',rfl,hl',W'⟩:=mH (a:=gnm 6) (u:=wbI) (ds:=bG (a+1) n)
   (λ k ρ=>∃(ps:List (Int×Int)) (s2:Slot),ρ=[.sh (.int c),.sh (.int most),.sh (.int n),.sh (.int (1+th)),.ow (.lst (ps.map pD)),.sh (.int a),s2]/\ps.length<=K0+k/\Wi n a (a+1+k) ps)
   (by
    rintro i d ρ hd ⟨ps,s2,rfl,hps,W⟩;obtain⟨rfl,hlt⟩:=jc hd;have hm:jf (.int 61) (.int a)= .ok (.int (61*a)):=yf (by decide) (by decide);obtain⟨r,er,_⟩:=mz (c:=c) (k:=3+61*a+(a+1+i)) (b:=8) (by lia) (by lia) (by decide) (by decide);have hz:ps.length<16777216:=by lia
    by_cases hlt2:(r:Int)<1+th
    ·exact⟨_,by simp[wbI,hm,er,hlt2,lR,hz];rfl,ps++[(a,a+1+i)],_,by simp[pD];rfl,by simp;lia,by rw[show a+1+((i+1:Nat):Int)=a+1+(i:Int)+1 by lia];exact W.put ha0 (by lia) (by lia)⟩
    ·exact⟨_,by simp[wbI,hm,er,hlt2];rfl,ps,_,rfl,by lia,W.on (by lia)⟩)
   (ρ:=[.sh (.int c),.sh (.int most),.sh (.int n),.sh (.int (1+th)),.ow (.lst (ps.map pD)),.sh (.int a),s2]) ⟨ps,s2,rfl,by lia,W.on (by lia)⟩
  rw[gZ]at hl' W';exact⟨ps',s',e,by lia,W'.on (by lia)⟩
 obtain⟨ρ',e,ps,s1,s2,rfl,hl,W⟩:=mH (a:=gnm 5) (u:=wbO) (ds:=bG 0 n)
  (λ k ρ=>∃(ps:List (Int×Int)) (s1 s2:Slot),ρ=[.sh (.int c),.sh (.int most),.sh (.int n),.sh (.int (1+th)),.ow (.lst (ps.map pD)),s1,s2]/\ps.length<=60*k/\Wi n k 0 ps)
  (by
   rintro i d ρ hd ⟨ps,s1,s2,rfl,hps,W⟩;obtain⟨rfl,hlt⟩:=jc hd;have hr2:=aC8 (i:=0+(i:Int)+1) (j:=(n:Int)) (by lia) (by lia) (by lia) (by lia);obtain⟨ps',s2',e,hl',W'⟩:=inner (0+(i:Int)) (60*i) ps s2 (by lia) (by lia) (by lia) hps ⟨W.ris,λ p hp=>by obtain⟨q1,q2,q3,q4⟩:=W.pr p hp;exact⟨q1,q2,q3,by lia⟩⟩;refine⟨_,?_,ps',.sh (.int (0+(i:Int))),s2',rfl,by lia,W'.on (by lia)⟩;simp only[Int.zero_add]at hr2 e ⊢;simp[wbO,hr2,e])
  (ρ:=[.sh (.int c),.sh (.int most),.sh (.int n),.sh (.int (1+th)),.ow (.lst []),.no,.no]) ⟨[],.no,.no,rfl,by simp,rfl,λ p hp=>by cases hp⟩
 rw[gZ]at hl;refine⟨n,ps,?_,⟨by lia,by lia,by lia,λ p hp=>by obtain⟨q1,q2,q3,q4⟩:=W.pr p hp;exact⟨q1,by lia,by lia,q3,by lia⟩,W.ris⟩,λ p hp=>(W.pr p hp).2.1,by lia⟩;have st:bA 7 [.int c,.int most]=[.sh (.int c),.sh (.int most),.no,.no,.no,.no,.no]:=rfl;have df:iJ=aW (cu 2 (aO az (aA (aC 0) (aA (cD (.int 0)) (aA (op2 fX (aC 1) (cD (.int 1))) aG)))))
  (aW (cu 3 (op2 fX (cD (.int 1)) (aO az (aA (aC 0) (aA (cD (.int 1)) (aA (cD (.int 6)) aG))))))
  (aW (jV 4 (ig aG)) (aW (dw (dZ fW (aA (aC 2) aG)) (gnm 5) wbO)
  (retS (dM (aA (bL (aC 2)) (aA (opA dj (aA (qL 4) aG)) aG))))))):=rfl
 simp only[gO,df,bO,st];simp[en,et,hr1,e,owD]
theorem aAB:∀ws:List Int,pK (ws.map .int)=true
 |[]=>rfl
 |_::ws=>by simp only[List.map_cons,pK,aAB ws,pln];rfl
theorem aCt:∀{l:List D},(∀d∈l,imm d=true)->vp l=true
 |[],_=>rfl
 |x::r,h=>by
  simp only[vp,Bool.and_eq_true];exact⟨h x (List.mem_cons_self ..),aCt λ d hd=>h d (List.mem_cons_of_mem _ hd)⟩
theorem vQ{k:Nat}:∀{l:List D},(∀d∈l,fU d<=k)->cB l<=k
 |[],_=>Nat.zero_le _
 |x::r,h=>by
  unfold cB;exact Nat.max_le.mpr ⟨h x List.mem_cons_self,vQ λ d hd=>h d (List.mem_cons_of_mem _ hd)⟩
theorem ql:∀{l:List D},(∀d∈l,aN d=true)->ao l=true
 |[],_=>rfl
 |x::r,h=>by
  unfold ao;rw[h x List.mem_cons_self,ql λ d hd=>h d (List.mem_cons_of_mem _ hd)];rfl
structure El(k:Nat)(d:D):Prop where
 p:pln d=true
 e:fU d<=k
 n:aN d=true
 i:imm d=true
theorem El.tup{k:Nat}{l:List D}(h:∀d∈l,El k d):El (k+1) (.tup l):=⟨by unfold pln;exact aCc λ d hd=>(h d hd).p,by unfold fU;exact Nat.succ_le_succ (vQ λ d hd=>(h d hd).e),by unfold aN;exact ql λ d hd=>(h d hd).n,by unfold imm;exact aCt λ d hd=>(h d hd).i⟩
theorem El.int{k:Nat}{i:Int}:El k (.int i):=⟨rfl,Nat.zero_le _,rfl,rfl⟩
theorem El.ints{k:Nat}{ws:List Int}:∀d∈ws.map D.int,El k d:=λ d hd=>by obtain⟨w,_,rfl⟩:=List.mem_map.mp hd;exact .int
theorem El.g{k:Nat}(h:El k d):yw d= .ok d:=aHh h.i
structure Fn4(d:D):Prop where
 p:pln d=true
 s:aLb d=true
 e:fU d<=60
 n:aN d=true
theorem aF7{c:En->Rs Bool}{b:En->Ou}{I:Nat->En->Prop}(st:∀m ρ,I m ρ->c ρ= .ok false\/(c ρ= .ok true/\∃ρ' m',b ρ= .nx ρ'/\m'<m/\I m' ρ')):
  ∀(n m:Nat) (ρ:En),m<n->I m ρ->∃ρ' m',itW c b n ρ= .nx ρ'/\I m' ρ'/\c ρ'= .ok false
 |0,_,_,h,_=>absurd h (Nat.not_lt_zero _)
 |n+1,m,ρ,h,hI=>by
  rcases st m ρ hI with e|⟨e,ρ',m',e2,hm,hI'⟩
  ·exact⟨ρ,m,by unfold itW;rw[e];rfl,hI,e⟩
  ·obtain⟨ρ2,m2,e3,r⟩:=aF7 st n m' ρ' (by lia) hI'
   refine⟨ρ2,m2,?_,r⟩;unfold itW;rw[e,dW,if_pos rfl,e2];exact e3
theorem aEA{c:En->Rs Bool}{b:En->Ou}(I:Nat->En->Prop)(st:∀m ρ,I m ρ->c ρ= .ok false\/(c ρ= .ok true/\∃ρ' m',b ρ= .nx ρ'/\m'<m/\I m' ρ')){m:Nat}{ρ:En}(hm:m<1000000)(h:I m ρ):
  ∃ρ' m',xn c b ρ= .nx ρ'/\I m' ρ'/\c ρ'= .ok false:=aF7 st fuel m ρ hm h
def upI(n:Int):List Int:=(List.range n.toNat).map λ(k:Nat)=>(k:Int)
theorem aBX(n:Int):bG 0 n=(upI n).map .int:=by
 unfold bG upI;rw[List.map_map,show(n-0).toNat=n.toNat by lia];exact List.map_congr_left λ k _=>by simp
theorem mF{x n:Int}:x∈upI n↔0<=x/\x<n:=by
 unfold upI;rw[List.mem_map];constructor
 ·rintro⟨k,hk,rfl⟩
  have:=List.mem_range.mp hk
  lia
 ·rintro⟨h0,h1⟩
  exact⟨x.toNat,List.mem_range.mpr (by lia),by lia⟩
theorem jU(n:Int):(upI n).length=n.toNat:=by unfold upI;simp
theorem vW{es:List (Int×Int)}{v:Int}:∀{ws:List Int} (h:ws≠[]),eE es ws=true->(ws.getLast h,v)∈es->eE es (ws++[v])=true
 |[a],_,_,h2=>by simpa[eE]using h2
 |a::b::r,_,h1,h2=>by
  simp only[eE,Bool.and_eq_true,decide_eq_true_eq]at h1
  have:=vW (ws:=b::r) (by simp) h1.2 (by simpa using h2)
  rw[List.cons_append,List.cons_append,eE,Bool.and_eq_true,decide_eq_true_eq];exact⟨h1.1,by simpa using this⟩
theorem aDK(h:l.length<64):uF [.lst (l.map .int)]= .ok (.lst ((sortI l).map .int)):=by
 cases l with
 |nil=>rfl
 |cons i r=>
  have e:tX ((i::r).map D.int)=none:=rfl;unfold uF;dsimp only;rw[e];dsimp only;rw[fj];dsimp only;rw[if_pos h]
theorem aIY(hf:f ρ= .ok (.int n))(h0:0<=n)(h1:n<=60):lrD f ρ= .ok (.lst (bG 0 n)):=by
 unfold lrD;rw[hf,cN];unfold lrR;simp;lia
theorem aFG{i j:Nat}{l m:List Int}(hf:f (shE ρ)= .ok (l.map .int))(hs:stE js (shE ρ)=[.no,.sh (.tup (m.map .int))]\/stE js (shE ρ)=[.no,.sh (.lst (m.map .int))])(hl:l.length<=1000):
  lcD f js (gnm 0) (tsb (op2 (inR true) (aC 0) (aC 1))) (bL (aC 0)) ρ= .ok (.lst ((l.filter λ x=>!decide (x∈m)).map .int)):=by
 refine oY hf (by rw[List.length_map];lia) ?_;rcases hs with hs|hs<;>rw[hs]
 ·refine m7 (fg:=gnm 0) (f:=D.int) (g:=D.int) (t:=λ x=>!decide (x∈m)) l λ x _=>⟨[.sh (.int x),.sh (.tup (m.map .int))],rfl,?_,by simp⟩
  have a2:aC 1 [.sh (.int x),.sh (.tup (m.map .int))]= .ok (.tup (m.map .int)):=rfl;have a3:aC 0 [.sh (.int x),.sh (.tup (m.map .int))]= .ok (.int x):=rfl;rw[tY,uY,a3,cN,a2,cN,aFc,qj,cN];rfl
 ·refine m7 (fg:=gnm 0) (f:=D.int) (g:=D.int) (t:=λ x=>!decide (x∈m)) l λ x _=>⟨[.sh (.int x),.sh (.lst (m.map .int))],rfl,?_,by simp⟩
  have a2:aC 1 [.sh (.int x),.sh (.lst (m.map .int))]= .ok (.lst (m.map .int)):=rfl;have a3:aC 0 [.sh (.int x),.sh (.lst (m.map .int))]= .ok (.int x):=rfl;rw[tY,uY,a3,cN,a2,cN,pU,qj,cN];rfl
theorem lD(h:Ow n ps)(low:∀p∈ps,p.1<p.2):bf [owD n ps]= .ok .non:=by
 have st:bA 1 [owD n ps]=[.sh (owD n ps)]:=rfl;simp only[bf,fJ,bO,st];simp[aDh h low]
inductive Cn(es:List (Int×Int))(a:Int):Int->Prop where
 |refl:Cn es a a
 |step {b c:Int} (h:Cn es a b) (e:(b,c)∈es):Cn es a c
theorem Cn.trans{es:List (Int×Int)}{a b c:Int}(h:Cn es a b)(k:Cn es b c):Cn es a c:=by
 induction k with
 |refl=>exact h
 |step _ e ih=>exact ih.step e
def Sym(es:List (Int×Int)):Prop:=∀a b,(a,b)∈es->(b,a)∈es
theorem zB(ps:List (Int×Int)):Sym (dbl ps):=λ a b h=>jM.mpr (jM.mp h).symm
theorem Cn.symm{es:List (Int×Int)}(S:Sym es){a b:Int}(h:Cn es a b):Cn es b a:=by
 induction h with
 |refl=>exact .refl
 |step _ e ih=>exact Cn.trans (.step .refl (S _ _ e)) ih
theorem Cn.inn{es:List (Int×Int)}{n a b:Int}(hin:∀x y,(x,y)∈es->0<=y/\y<n)(h:Cn es a b)(ha:0<=a/\a<n):0<=b/\b<n:=by
 induction h with
 |refl=>exact ha
 |step _ e _=>exact hin _ _ e
theorem xm{es:List (Int×Int)}:∀{l m:List Int},eE es (l++m)=true->eE es l=true
 |[],_,_=>rfl
 |[a],_,_=>rfl
 |a::b::r,m,h=>by
  rw[List.cons_append,List.cons_append,eE,Bool.and_eq_true]at h;rw[eE,Bool.and_eq_true];exact⟨h.1,xm (l:=b::r) (by simpa using h.2)⟩
structure aLU(es:List (Int×Int))(a b:Int)(l:List Int):Prop where
 hd:l.head?=some a
 lt:l.getLast?=some b
 al:eE es l=true
theorem Cn.path{es:List (Int×Int)}{a b:Int}(h:Cn es a b):∃l,aLU es a b l/\l.Nodup:=by
 induction h with
 |refl=>exact⟨[a],⟨rfl,rfl,rfl⟩,by simp⟩
 |step _ e ih=>
  rename_i b c _;obtain⟨l,P,nd⟩:=ih;have hne:l≠[]:=by intro z;have:=P.hd;rw[z]at this;cases this
  by_cases hc:c∈l
  ·obtain⟨l1,l2,rfl⟩:=List.append_of_mem hc
   refine⟨l1++[c],⟨?_,by simp,xm (m:=l2) (by rw[List.append_assoc];exact P.al)⟩,?_⟩
   ·have:=P.hd
    cases l1 with
    |nil=>simpa using this
    |cons x r=>simpa using this
   ·have e2:l1++c::l2=(l1++[c])++l2:=by simp
    rw[e2]at nd;exact(List.nodup_append.mp nd).1
  ·refine⟨l++[c],⟨?_,by simp,?_⟩,?_⟩
   ·have:=P.hd
    cases l with
    |nil=>exact absurd rfl hne
    |cons x r=>simpa using this
   ·refine vW hne P.al ?_
    have:=P.lt
    rw[List.getLast?_eq_some_getLast hne]at this;rw[Option.some.inj this];exact e
   ·rw[List.nodup_append]
    exact⟨nd,by simp,λ x hx y hy z=>by rw[List.mem_singleton.mp hy]at z;subst z;exact hc hx⟩
theorem aAC{es:List (Int×Int)}{a:Int}:∀{l:List Int},eE es (a::l)=true->∀x∈a::l,Cn es a x
 |[],_,x,hx=>by rw[List.mem_singleton.mp hx];exact .refl
 |b::r,h,x,hx=>by
  rw[eE,Bool.and_eq_true,decide_eq_true_eq]at h;rcases List.mem_cons.mp hx with rfl|hx
  ·exact .refl
  ·exact Cn.trans (.step .refl h.1) (aAC h.2 x hx)
def prB(p:Prop):Bool:=@decide p (Classical.propDecidable p)
theorem yR{p:Prop}:prB p=true↔p:=@decide_eq_true_iff p (Classical.propDecidable p)
def bH(n:Int)(es:List (Int×Int))(a:Int):List Int:=(upI n).filter λ b=>prB (Cn es a b)
theorem ue{n a b:Int}{es:List (Int×Int)}:b∈bH n es a↔(0<=b/\b<n)/\Cn es a b:=by
 unfold bH;rw[List.mem_filter,mF,yR]
def bu(es:List (Int×Int))(a:Int):Bool:=prB (∀b,0<=b->Cn es a b->a<=b)
theorem qw{es:List (Int×Int)}{a:Int}:bu es a=true↔∀b,0<=b->Cn es a b->a<=b:=yR
def gq(n:Int)(es:List (Int×Int)):List (List Int):=((upI n).filter (bu es)).map (bH n es)
theorem aBF(n:Int):(upI n).Pairwise (·< ·):=by
 unfold upI;rw[List.pairwise_map];exact List.pairwise_lt_range.imp λ h=>by lia
theorem aBZ:∀{l m:List Int},l.Pairwise (·< ·)->m.Pairwise (·< ·)->(∀x,x∈l↔x∈m)->l=m
 |[],[],_,_,_=>rfl
 |[],b::m,_,_,h=>by have:=(h b).mpr List.mem_cons_self;cases this
 |a::l,[],_,_,h=>by have:=(h a).mp List.mem_cons_self;cases this
 |a::l,b::m,h1,h2,h=>by
  obtain⟨p1,p2⟩:=List.pairwise_cons.mp h1;obtain⟨q1,q2⟩:=List.pairwise_cons.mp h2;have e:a=b:=by
   rcases List.mem_cons.mp ((h a).mp List.mem_cons_self)with z|z
   ·exact z
   ·rcases List.mem_cons.mp ((h b).mpr List.mem_cons_self)with y|y
    ·exact y.symm
    ·have:=q1 a z;have:=p1 b y;lia
  subst e;rw[aBZ p2 q2 λ x=>?_];constructor
  ·intro hx
   rcases List.mem_cons.mp ((h x).mp (List.mem_cons_of_mem _ hx))with z|z
   ·subst z;have:=p1 x hx;lia
   ·exact z
  ·intro hx
   rcases List.mem_cons.mp ((h x).mpr (List.mem_cons_of_mem _ hx))with z|z
   ·subst z;have:=q1 x hx;lia
   ·exact z
theorem pG{l:List Int}(nd:l.Nodup):(sortI l).Pairwise (·< ·):=by
 have h1:=iD l;have h2:(sortI l).Nodup:=(sortI_perm l).nodup_iff.mpr nd;rw[List.nodup_iff_pairwise_ne]at h2;exact(h1.and h2).imp λ⟨a,b⟩=>by lia
theorem aBP{n a:Int}{es:List (Int×Int)}{l:List Int}(nd:l.Nodup)(h:∀x,x∈l↔(0<=x/\x<n)/\Cn es a x):sortI l=bH n es a:=
 aBZ (pG nd) ((aBF n).filter _) λ x=>by rw[(sortI_perm l).mem_iff,h,ue]
def pwI:En->Ou:=ifS (tsb (op2 (inR true) (aC 5) (di 2))) (lR 2 (bL (aC 5))) Ou.nx
def pwW:En->Ou:=aW (sS 4 (bL (op2 ixD (di 2) (aC 3)))) (aW (dw (cX (op2 ixD (aC 0) (qM 4))) (gnm 5) pwI) (aHs (i2 (λ _ _=>true) λ a b=>.int (a+b)) 3 (cD (.int 1))))
def pwT:En->Rs Bool:=tsb (op2 ltD (aC 3) (opA j6 (aA (di 2) aG)))
theorem vg:fG=aW (jV 2 (ig (aA (bL (aC 1)) aG))) (aW (cu 3 (cD (.int 0))) (aW (xn pwT pwW) (retS (opA dj (aA (opA uF (aA (di 2) aG)) aG))))):=rfl
abbrev wE(ll:List (List D))(a:Int)(part:List Int)(k:Int)(s4 s5:Slot):En:=[.sh (.lst (ll.map .lst)),.sh (.int a),.ow (.lst (part.map .int)),.sh (.int k),s4,s5]
structure Pw(n:Int)(es:List (Int×Int))(a:Int)(part:List Int):Prop where
 nd:part.Nodup
 cn:∀x∈part,Cn es a x
 inn:∀x∈part,0<=x/\x<n
 st:a∈part
section
variable{n:Int}{es:List (Int×Int)}{ll:List (List D)}{a k:Int}{part:List Int}{s4 s5:Slot}
theorem Pw.len(P:Pw n es a part):part.length<=n.toNat:=by
 have:=sub_len (l':=upI n) P.nd λ x hx=>mF.mpr (P.inn x hx)
 rwa [jU]at this
theorem uT(hn:n<=60)(hin:∀x y,(x,y)∈es->0<=y/\y<n){p:Int}:∀(us:List Int) (part:List Int) (s5:Slot),(∀u∈us,(p,u)∈es)->p∈part->Pw n es a part->
  ∃part' s5',forL (gnm 5) pwI (us.map .int) (wE ll a part k s4 s5)= .nx (wE ll a part' k s4 s5')/\Pw n es a part'/\(∃m,part'=part++m)/\∀u∈us,u∈part'
 |[],part,s5,_,_,P=>⟨part,s5,rfl,P,⟨[],by simp⟩,λ u hu=>by cases hu⟩
 |u::us,part,s5,h,hp,P=>by
  have hu:=h u List.mem_cons_self;have hl:=P.len;rw[List.map_cons,fD,aFp,yc]
  show∃part' s5',(pwI (wE ll a part k s4 (.sh (.int u)))).tn _=_/\_
  have hi:=pU true u part;by_cases hm:u∈part
  ·have e:pwI (wE ll a part k s4 (.sh (.int u)))= .nx (wE ll a part k s4 (.sh (.int u))):=by simp[pwI,hi,hm]
   rw[e,tZ];obtain⟨part',s5',e2,P',⟨m,hm'⟩,h2⟩:=uT hn hin us part (.sh (.int u)) (λ v hv=>h v (List.mem_cons_of_mem _ hv)) hp P;refine⟨part',s5',e2,P',⟨m,hm'⟩,λ v hv=>?_⟩;rcases List.mem_cons.mp hv with rfl|hv
   ·rw[hm'];exact List.mem_append_left _ hm
   ·exact h2 v hv
  ·have hz:part.length<16777216:=by lia
   have e:pwI (wE ll a part k s4 (.sh (.int u)))= .nx (wE ll a (part++[u]) k s4 (.sh (.int u))):=by simp[pwI,hi,hm,lR,hz]
   rw[e,tZ];have P1:Pw n es a (part++[u]):=by
    refine⟨?_,λ x hx=>?_,λ x hx=>?_,List.mem_append_left _ P.st⟩
    ·rw[List.nodup_append]
     exact⟨P.nd,by simp,λ x hx y hy z=>by rw[List.mem_singleton.mp hy]at z;subst z;exact hm hx⟩
    ·rcases List.mem_append.mp hx with hx|hx
     ·exact P.cn x hx
     ·rw[List.mem_singleton.mp hx];exact(P.cn p hp).step hu
    ·rcases List.mem_append.mp hx with hx|hx
     ·exact P.inn x hx
     ·rw[List.mem_singleton.mp hx];exact hin _ _ hu
   obtain⟨part',s5',e2,P',⟨m,hm'⟩,h2⟩:=uT hn hin us (part++[u]) (.sh (.int u)) (λ v hv=>h v (List.mem_cons_of_mem _ hv)) (List.mem_append_left _ hp) P1;refine⟨part',s5',e2,P',⟨[u]++m,by rw[hm',List.append_assoc]⟩,λ v hv=>?_⟩;rcases List.mem_cons.mp hv with rfl|hv
   ·rw[hm'];exact List.mem_append_left _ (by simp)
   ·exact h2 v hv
theorem yS(hn:n<=60)(N:aKV n es ll)(hin:∀x y,(x,y)∈es->0<=y/\y<n)(h0:0<=a)(h1:a<n):fL [.lst (ll.map .lst),.int a]= .ok (tupI (bH n es a)):=by
 have st:bA 6 [.lst (ll.map .lst),.int a]=[.sh (.lst (ll.map .lst)),.sh (.int a),.no,.no,.no,.no]:=rfl;obtain⟨ρ',m',e,⟨part,k,s4,s5,rfl,P,hk,hcl,_⟩,ht⟩:=aEA (c:=pwT) (b:=pwW)
  (λ m ρ=>∃(part:List Int) (k:Nat) (s4 s5:Slot),ρ=wE ll a part k s4 s5/\Pw n es a part/\k<=part.length/\(∀i x,i<k->part[i]? =some x->∀y,(x,y)∈es->y∈part)/\m=n.toNat-k)
  (by
   rintro m ρ ⟨part,k,s4,s5,rfl,P,hk,hcl,rfl⟩;have hl:=P.len;by_cases hlt:k<part.length
   ·right
    have hx:=List.getElem?_eq_getElem hlt;have ha:atD (part.map .int) (k:Int)= .ok (.int part[k]):=jQ (by rw[List.getElem?_map,hx];rfl);have hp:=P.inn _ (List.getElem_mem hlt);obtain⟨us,e1,e2⟩:=N.item _ hp.1 hp.2;obtain⟨part',s5',e3,P',⟨m,hm⟩,h2⟩:=uT (ll:=ll) (k:=(k:Int)) (s4:=.nw (.int part[k])) hn hin us part s5 (λ u hu=>(e2 u).mp hu) (List.getElem_mem hlt) P;have c0:pwT (wE ll a part k s4 s5)= .ok true:=by simp[pwT,hlt]
    have c1:sS 4 (bL (op2 ixD (di 2) (aC 3))) (wE ll a part k s4 s5)= .nx (wE ll a part k (.nw (.int part[k])) s5):=by simp[ha]
    have c2:dw (cX (op2 ixD (aC 0) (qM 4))) (gnm 5) pwI (wE ll a part k (.nw (.int part[k])) s5)= .nx (wE ll a part' k (.nw (.int part[k])) s5'):=by
     have hi:cX (op2 ixD (aC 0) (qM 4)) (wE ll a part k (.nw (.int part[k])) s5)= .ok (us.map .int):=by simp[e1]
     rw[iC,hi,dW,e3]
    have c3:aHs (i2 (λ _ _=>true) λ a b=>.int (a+b)) 3 (cD (.int 1)) (wE ll a part' k (.nw (.int part[k])) s5')= .nx (wE ll a part' ((k:Int)+1) (.nw (.int part[k])) s5'):=rfl;refine⟨c0,wE ll a part' ((k+1:Nat):Int) (.nw (.int part[k])) s5',n.toNat-(k+1),?_,by lia,part',k+1,_,_,rfl,P',?_,λ i x hi hx' y hy=>?_,rfl⟩
    ·rw[pwW,aY,c1,bR,aY,c2,bR,c3]
     rfl
    ·rw[hm,List.length_append];lia
    ·by_cases hik:i=k
     ·subst hik
      rw[hm,List.getElem?_append_left hlt,hx]at hx';cases hx';exact h2 y ((e2 y).mpr hy)
     ·rw[hm,List.getElem?_append_left (by lia)]at hx'
      rw[hm];exact List.mem_append_left _ (hcl i x (by lia) hx' y hy)
   ·left
    simp[pwT,show¬k<part.length from hlt])
  (m:=n.toNat-0) (ρ:=wE ll a [a] (0:Nat) .no .no) (by lia) ⟨[a],0,.no,.no,rfl,⟨by simp,λ x hx=>by rw[List.mem_singleton.mp hx];exact .refl,λ x hx=>by rw[List.mem_singleton.mp hx];exact⟨h0,h1⟩,by simp⟩,by simp,λ i x hi=>absurd hi (Nat.not_lt_zero _),rfl⟩
 have hlt:¬k<part.length:=λ z=>by
  have:pwT (wE ll a part k s4 s5)= .ok true:=by simp[pwT,z]
  rw[this]at ht;cases ht
 have go:∀x,Cn es a x->x∈part:=λ x hc=>by
  induction hc with
  |refl=>exact P.st
  |step hb he ih=>
   obtain⟨i,hi,hx⟩:=List.getElem_of_mem ih;exact hcl i _ (by lia) (by rw[List.getElem?_eq_getElem hi,hx]) _ he
 have hall:∀x,x∈part↔(0<=x/\x<n)/\Cn es a x:=λ x=>⟨λ hx=>⟨P.inn x hx,P.cn x hx⟩,λ h=>go x h.2⟩
 have hs:=aDK (l:=part) (by have:=P.len;lia);rw[aBP P.nd hall]at hs;have c0:jV 2 (ig (aA (bL (aC 1)) aG)) [.sh (.lst (ll.map .lst)),.sh (.int a),.no,.no,.no,.no]= .nx [.sh (.lst (ll.map .lst)),.sh (.int a),.ow (.lst [.int a]),.no,.no,.no]:=by simp
 have c1:cu 3 (cD (.int 0)) [.sh (.lst (ll.map .lst)),.sh (.int a),.ow (.lst [.int a]),.no,.no,.no]= .nx (wE ll a [a] (0:Nat) .no .no):=rfl;simp only[fL,vg,bO,st];rw[aY,c0,bR,aY,c1,bR,aY,e,bR];have hd:di 2 (wE ll a part k s4 s5)= .ok (.lst (part.map .int)):=rfl;rw[kY,km,bU,km,bU,hd];simp[hs,tupI]
end
def paF:En->Ou:=aHv 3 (bL (aC 6))
def paB:En->Ou:=ifS (tsb (op2 (inX true) (aC 4) (di 3))) (aW (cu 5 (aO fL (aA (aC 0) (aA (aC 4) aG)))) (aW (lR 2 (bL (aC 5))) (dw (cX (aC 5)) (gnm 6) paF))) Ou.nx
theorem sV:dC=aW (jV 2 (ig aG)) (aW (jV 3 (cD (.set []))) (aW (dw (cX (aC 1)) (gnm 4) paB) (retS (qL 2)))):=rfl
abbrev qE(ll:List (List D))(w:D)(rws:List (List Int))(seen:List Int)(s4 s5 s6:Slot):En:=[.sh (.lst (ll.map .lst)),.sh w,.ow (.lst (rws.map tupI)),.ow (.set seen),s4,s5,s6]
section
variable{n:Int}{es:List (Int×Int)}{ll:List (List D)}{w:D}{rws:List (List Int)}{s4 s5 s6:Slot}
theorem aAD:∀(us:List Int) (seen:List Int) (s6:Slot),(∀u∈us,0<=u/\u<n)->seen.Nodup->(∀u∈seen,0<=u/\u<n)->n<=60->
  ∃seen' s6',forL (gnm 6) paF (us.map .int) (qE ll w rws seen s4 s5 s6)= .nx (qE ll w rws seen' s4 s5 s6')/\seen'.Nodup/\(∀x,x∈seen'↔x∈seen\/x∈us)/\(∀u∈seen',0<=u/\u<n)
 |[],seen,s6,_,nd,hin,_=>⟨seen,s6,rfl,nd,λ x=>by simp,hin⟩
 |u::us,seen,s6,h,nd,hin,hn=>by
  have hl:seen.length<=n.toNat:=by
   have:=sub_len (l':=upI n) nd λ x hx=>mF.mpr (hin x hx)
   rwa [jU]at this
  have nd':=aAk (z:=u) nd;have hm':∀x,x∈PyProof.Rows.step_dedup seen u↔x∈seen\/x=u:=λ x=>by
   have:=xU seen u x
   rw[Bool.eq_iff_iff]at this;simpa using this.symm
  obtain⟨seen',s6',e,q1,q2,q3⟩:=aAD us (PyProof.Rows.step_dedup seen u) (.sh (.int u)) (λ v hv=>h v (List.mem_cons_of_mem _ hv)) nd' (λ x hx=>by
   rcases(hm' x).mp hx with z|z
   ·exact hin x z
   ·rw[z];exact h u List.mem_cons_self) hn
  refine⟨seen',s6',?_,q1,λ x=>?_,q3⟩
  ·rw[List.map_cons,fD,aFp,yc]
   show(paF (qE ll w rws seen s4 s5 (.sh (.int u)))).tn _=_
   have e1:paF (qE ll w rws seen s4 s5 (.sh (.int u)))= .nx (qE ll w rws (PyProof.Rows.step_dedup seen u) s4 s5 (.sh (.int u))):=by
    have hv:bL (aC 6) (qE ll w rws seen s4 s5 (.sh (.int u)))= .ok (.int u):=by simp
    show((bL (aC 6) (qE ll w rws seen s4 s5 (.sh (.int u)))).bo λ d=>aDv (qE ll w rws seen s4 s5 (.sh (.int u))) 3 seen d)=_
    rw[hv,dW];unfold aDv;dsimp only;rw[if_pos (by lia)];rfl
   rw[e1,tZ,e]
  ·rw[q2,hm',List.mem_cons]
   constructor
   ·rintro((z|z)|z)
    ·exact .inl z
    ·exact .inr (.inl z)
    ·exact .inr (.inr z)
   ·rintro(z|z|z)
    ·exact .inl (.inl z)
    ·exact .inl (.inr z)
    ·exact .inr z
theorem aCU(k:Nat):upI ((k+1:Nat):Int)=upI (k:Int)++[(k:Int)]:=by
 unfold upI;rw[Int.toNat_natCast,Int.toNat_natCast,List.range_succ,List.map_append];rfl
theorem uX(hn0:0<=n)(hn:n<=60)(S:Sym es)(N:aKV n es ll)(hin:∀x y,(x,y)∈es->0<=y/\y<n):dD [.lst (ll.map .lst),.lst (bG 0 n)]= .ok (.lst ((gq n es).map tupI)):=by
 have st:bA 7 [.lst (ll.map .lst),.lst (bG 0 n)]=[.sh (.lst (ll.map .lst)),.sh (.lst (bG 0 n)),.no,.no,.no,.no,.no]:=rfl;obtain⟨ρ',e,seen,s4,s5,s6,rfl,_⟩:=mH (a:=gnm 4) (u:=paB) (ds:=bG 0 n)
  (λ k ρ=>∃(seen:List Int) (s4 s5 s6:Slot),ρ=qE ll (.lst (bG 0 n)) (((upI (k:Int)).filter (bu es)).map (bH n es)) seen s4 s5 s6/\seen.Nodup/\(∀x,x∈seen↔(0<=x/\x<n)/\∃j,(0<=j/\j<(k:Int))/\Cn es j x))
  (by
   rintro i d ρ hd ⟨seen,s4,s5,s6,rfl,nd,hs⟩;obtain⟨rfl,hlt⟩:=jc hd;rw[Int.zero_add]at hlt ⊢;have hk:0<=(i:Int)/\(i:Int)<n:=⟨by lia,hlt⟩;have hg:okE (gnm 4 (.int (i:Int)) (qE ll (.lst (bG 0 n)) (((upI (i:Int)).filter (bu es)).map (bH n es)) seen s4 s5 s6)) (λ ρ1=>paB ρ1)=paB (qE ll (.lst (bG 0 n)) (((upI (i:Int)).filter (bu es)).map (bH n es)) seen (.sh (.int (i:Int))) s5 s6):=rfl;rw[hg];have hlb:bu es (i:Int)= !decide ((i:Int)∈seen):=by
    rw[Bool.eq_iff_iff,qw];constructor
    ·intro h
     simp only[Bool.not_eq_true',decide_eq_false_iff_not];intro hm;obtain⟨_,j,hj,hc⟩:=(hs _).mp hm
     have:=h j hj.1 (hc.symm S)
     lia
    ·intro h b hb hc
     simp only[Bool.not_eq_true',decide_eq_false_iff_not]at h
     have:=λ z:b<(i:Int)=>h ((hs _).mpr ⟨hk,b,⟨hb,z⟩,hc.symm S⟩)
     lia
   have hx:inX true (.int (i:Int)) (.set seen)= .ok (.bl (!decide ((i:Int)∈seen))):=rfl;have hrl:(((upI (i:Int)).filter (bu es)).map (bH n es)).length<16777216:=by
    rw[List.length_map]
    have:=List.length_filter_le (bu es) (upI (i:Int))
    rw[jU]at this;lia
   by_cases hm:(i:Int)∈seen
   ·have hb:paB (qE ll (.lst (bG 0 n)) (((upI (i:Int)).filter (bu es)).map (bH n es)) seen (.sh (.int (i:Int))) s5 s6)= .nx (qE ll (.lst (bG 0 n)) (((upI (i:Int)).filter (bu es)).map (bH n es)) seen (.sh (.int (i:Int))) s5 s6):=by
     simp[paB,hx,hm]
    refine⟨_,hb,seen,.sh (.int (i:Int)),s5,s6,?_,nd,λ x=>?_⟩
    ·rw[aCU,List.filter_append,List.filter_cons,hlb]
     simp[hm]
    ·rw[hs]
     constructor
     ·rintro⟨h1,j,h2,h3⟩
      exact⟨h1,j,⟨h2.1,by lia⟩,h3⟩
     ·rintro⟨h1,j,h2,h3⟩
      by_cases hj:j<(i:Int)
      ·exact⟨h1,j,⟨h2.1,hj⟩,h3⟩
      ·have hj':j=(i:Int):=by lia
       subst hj';obtain⟨_,j',h4,h5⟩:=(hs _).mp hm;exact⟨h1,j',h4,h5.trans h3⟩
   ·have hp:=yS hn N hin hk.1 hk.2
    have hsin:∀u∈seen,0<=u/\u<n:=λ u hu=>((hs u).mp hu).1
    obtain⟨seen',s6',e,q1,q2,q3⟩:=aAD (ll:=ll) (w:=.lst (bG 0 n)) (rws:=((upI (i:Int)).filter (bu es)).map (bH n es)++[bH n es (i:Int)]) (s4:=.sh (.int (i:Int))) (s5:=.sh (tupI (bH n es (i:Int)))) (bH n es (i:Int)) seen s6 (λ u hu=>(ue.mp hu).1) nd hsin hn;have gi:yw (tupI (bH n es (i:Int)))= .ok (tupI (bH n es (i:Int))):=(El.tup (k:=0) El.ints).g;have hb:paB (qE ll (.lst (bG 0 n)) (((upI (i:Int)).filter (bu es)).map (bH n es)) seen (.sh (.int (i:Int))) s5 s6)= .nx (qE ll (.lst (bG 0 n)) (((upI (i:Int)).filter (bu es)).map (bH n es)++[bH n es (i:Int)]) seen' (.sh (.int (i:Int))) (.sh (tupI (bH n es (i:Int)))) s6'):=by
     have t1:tsb (op2 (inX true) (aC 4) (di 3)) (qE ll (.lst (bG 0 n)) (((upI (i:Int)).filter (bu es)).map (bH n es)) seen (.sh (.int (i:Int))) s5 s6)= .ok true:=by simp[hx,hm]
     have t2:cu 5 (aO fL (aA (aC 0) (aA (aC 4) aG))) (qE ll (.lst (bG 0 n)) (((upI (i:Int)).filter (bu es)).map (bH n es)) seen (.sh (.int (i:Int))) s5 s6)= .nx (qE ll (.lst (bG 0 n)) (((upI (i:Int)).filter (bu es)).map (bH n es)) seen (.sh (.int (i:Int))) (.sh (tupI (bH n es (i:Int)))) s6):=by simp[hp]
     have t3:lR 2 (bL (aC 5)) (qE ll (.lst (bG 0 n)) (((upI (i:Int)).filter (bu es)).map (bH n es)) seen (.sh (.int (i:Int))) (.sh (tupI (bH n es (i:Int)))) s6)= .nx (qE ll (.lst (bG 0 n)) (((upI (i:Int)).filter (bu es)).map (bH n es)++[bH n es (i:Int)]) seen (.sh (.int (i:Int))) (.sh (tupI (bH n es (i:Int)))) s6):=by
      generalize ((upI (i:Int)).filter (bu es)).map (bH n es)=R at hrl ⊢;have hv:bL (aC 5) (qE ll (.lst (bG 0 n)) R seen (.sh (.int (i:Int))) (.sh (tupI (bH n es (i:Int)))) s6)= .ok (tupI (bH n es (i:Int))):=by simp[gi]
      show((bL (aC 5) (qE ll (.lst (bG 0 n)) R seen (.sh (.int (i:Int))) (.sh (tupI (bH n es (i:Int)))) s6)).bo λ d=>if (R.map tupI).length<sizeLine then .nx [.sh (.lst (ll.map .lst)),.sh (.lst (bG 0 n)),.ow (.lst (R.map tupI++[d])),.ow (.set seen),.sh (.int (i:Int)),.sh (tupI (bH n es (i:Int))),s6]else .st)=_
      rw[hv,dW,if_pos (by rw[szl,List.length_map];exact hrl)];simp[List.map_append]
     have t4:cX (aC 5) (qE ll (.lst (bG 0 n)) (((upI (i:Int)).filter (bu es)).map (bH n es)++[bH n es (i:Int)]) seen (.sh (.int (i:Int))) (.sh (tupI (bH n es (i:Int)))) s6)= .ok ((bH n es (i:Int)).map .int):=by simp[tupI]
     rw[paB,aCG,t1,dW,if_pos rfl,aY,t2,bR,aY,t3,bR,iC,t4,dW,e]
    refine⟨_,hb,seen',.sh (.int (i:Int)),.sh (tupI (bH n es (i:Int))),s6',?_,q1,λ x=>?_⟩
    ·rw[aCU,List.filter_append,List.filter_cons,hlb]
     simp[hm]
    ·rw[q2,hs,ue]
     constructor
     ·rintro(⟨h1,j,h2,h3⟩|⟨h1,h2⟩)
      ·exact⟨h1,j,⟨h2.1,by lia⟩,h3⟩
      ·exact⟨h1,(i:Int),⟨by lia,by lia⟩,h2⟩
     ·rintro⟨h1,j,h2,h3⟩
      by_cases hj:j<(i:Int)
      ·exact .inl ⟨h1,j,⟨h2.1,hj⟩,h3⟩
      ·have hj':j=(i:Int):=by lia
       subst hj';exact .inr ⟨h1,h3⟩)
  (ρ:=qE ll (.lst (bG 0 n)) [] [] .no .no .no) ⟨[],.no,.no,.no,rfl,List.nodup_nil,λ x=>⟨λ h=>(nomatch h),λ⟨_,j,h,_⟩=>absurd h.2 (by have:=h.1;lia)⟩⟩
 have c0:jV 2 (ig aG) [.sh (.lst (ll.map .lst)),.sh (.lst (bG 0 n)),.no,.no,.no,.no,.no]= .nx [.sh (.lst (ll.map .lst)),.sh (.lst (bG 0 n)),.ow (.lst []),.no,.no,.no,.no]:=by simp
 have c1:jV 3 (cD (.set [])) [.sh (.lst (ll.map .lst)),.sh (.lst (bG 0 n)),.ow (.lst []),.no,.no,.no,.no]= .nx (qE ll (.lst (bG 0 n)) [] [] .no .no .no):=rfl;have hi:cX (aC 1) (qE ll (.lst (bG 0 n)) [] [] .no .no .no)= .ok (bG 0 n):=by simp
 have hln:(((bG 0 n).length:Nat):Int)=n:=by rw[gZ];lia
 rw[hln]at e;simp only[dD,sV,bO,st];rw[aY,c0,bR,aY,c1,bR,aY,iC,hi,dW,e,bR];simp[gq]
theorem aEz{ps:List (Int×Int)}(h:Ow n ps)(low:∀p∈ps,p.1<p.2):gY [owD n ps]= .ok (.lst ((gq n (dbl ps)).map tupI)):=by
 obtain⟨ll,e,N⟩:=aAs h;have st:bA 1 [owD n ps]=[.sh (owD n ps)]:=rfl;have hp:=uX h.n0 h.n1 (zB ps) N (λ x y m=>by
  rcases jM.mp m with z|z
  ·have:=h.pr _ z;exact⟨this.2.2.1,this.2.2.2.1⟩
  ·have:=h.pr _ z;exact⟨this.1,this.2.1⟩)
 have hlr:=aIY (f:=op2 ixD (aC 0) (cD (.int 0))) (ρ:=[.sh (owD n ps)]) (n:=n) (by simp[owD]) h.n0 h.n1;have c0:ji (aO bf (aA (aC 0) aG)) [.sh (owD n ps)]= .nx [.sh (owD n ps)]:=by simp[lD h low]
 have c1:aO dD (aA (aO gQ (aA (aC 0) aG)) (aA (lrD (op2 ixD (aC 0) (cD (.int 0)))) aG)) [.sh (owD n ps)]= .ok (.lst ((gq n (dbl ps)).map tupI)):=by
  rw[jr,bU,jr,bU,bU,hlr];simp[e,hp]
 have df:nC=aW (ji (aO bf (aA (aC 0) aG))) (retS (aO dD (aA (aO gQ (aA (aC 0) aG)) (aA (lrD (op2 ixD (aC 0) (cD (.int 0)))) aG)))):=rfl;simp only[gY,df,bO,st];rw[aY,c0,bR,kY,c1];rfl
end
def lsB:En->Ou:=aW (aB9 1 (aC 3) (opA (mmD λ i j=>if j<i then j else i) (aA (op2 ixD (di 1) (aC 3)) (aA (op2 ixD (di 1) (aC 4)) aG)))) (aB9 1 (aC 4) (bL (op2 ixD (di 1) (aC 3))))
def lsO:En->Ou:=dw (cX (op2 ixD (aC 0) (cD (.int 1)))) (cz 2 (aX (gnm 3) (aX (gnm 4) dF))) lsB
def lsI:En->Rs D:=opA dj (aA (lcD (dZ fW (aA (op2 ixD (aC 1) (cD (.int 0))) aG)) [none,some 2,some 0] (gnm 0) (tsb (op2 (eqR false) (op2 ixD (aC 1) (aC 0)) (aC 2))) (bL (aC 0))) aG)
def lsR:En->Rs D:=lcD (cX (opA j9 (aA (aC 1) aG))) [none,some 0,some 1] (gnm 0) jT lsI
theorem vo:fH=aW (jV 1 (lrD (op2 ixD (aC 0) (cD (.int 0))))) (aW (dw (dZ fW (aA (op2 ixD (aC 0) (cD (.int 0))) aG)) (gnm 2) lsO) (retS lsR)):=rfl
def gL(L:List Int)(i:Int):Int:=L.getD i.toNat 0
def nW(L:List Int)(p:Int×Int):List Int:=(L.set p.1.toNat (mn (gL L p.1) (gL L p.2))).set p.2.toNat (mn (gL L p.1) (gL L p.2))
theorem aF2(L:List Int)(p:Int×Int):(nW L p).length=L.length:=by unfold nW;rw[List.length_set,List.length_set]
theorem aLB(a b:Int):mn a b<=a/\mn a b<=b/\(mn a b=a\/mn a b=b):=by
 unfold mn;split<;>lia
theorem aCI{L:List Int}{i:Nat}{v:Int}(hi:i<L.length)(x:Int)(h0:0<=x):gL (L.set i v) x=if x.toNat=i then v else gL L x:=by
 unfold gL;rw[List.getD_eq_getElem?_getD,List.getD_eq_getElem?_getD];split
 ·rename_i e
  rw[e,List.getElem?_set_self hi];rfl
 ·rename_i e
  rw[List.getElem?_set_ne (λ z=>e z.symm)]
theorem aHg{L:List Int}{p:Int×Int}(h1:0<=p.1/\p.1.toNat<L.length)(h2:0<=p.2/\p.2.toNat<L.length)(x:Int)(h0:0<=x):gL (nW L p) x=if x=p.1\/x=p.2 then mn (gL L p.1) (gL L p.2)else gL L x:=by
 unfold nW;rw[aCI (by rw[List.length_set];exact h2.2) x h0,aCI h1.2 x h0];by_cases e2:x=p.2
 ·subst e2;simp
 ·have:x.toNat≠p.2.toNat:=by lia
  rw[if_neg this];by_cases e1:x=p.1
  ·subst e1;simp
  ·have:x.toNat≠p.1.toNat:=by lia
   rw[if_neg this,if_neg (by lia)]
structure Lb(n:Int)(es:List (Int×Int))(L:List Int):Prop where
 len:L.length=n.toNat
 cn:∀x,0<=x->x<n->Cn es x (gL L x)/\gL L x<=x/\0<=gL L x
section
variable{n:Int}{ps:List (Int×Int)}{L:List Int}{s2 s3 s4:Slot}
theorem Lb.join(B:Lb n (dbl ps) L){p:Int×Int}(hp:p∈ps)(h:0<=p.1/\p.1<n/\0<=p.2/\p.2<n):Lb n (dbl ps) (nW L p)/\(∀x,0<=x->x<n->gL (nW L p) x<=gL L x)/\gL (nW L p) p.1<=gL L p.2/\gL (nW L p) p.2<=gL L p.1:=by
 have hl:=B.len;have g:=λ x h0=>aHg (L:=L) (p:=p) ⟨h.1,by lia⟩ ⟨h.2.2.1,by lia⟩ x h0
 obtain⟨m1,m2,m3⟩:=aLB (gL L p.1) (gL L p.2);have c1:=B.cn p.1 h.1 h.2.1;have c2:=B.cn p.2 h.2.2.1 h.2.2.2;have e12:(p.1,p.2)∈dbl ps:=jM.mpr (.inl hp);have e21:(p.2,p.1)∈dbl ps:=jM.mpr (.inr hp);have k1:Cn (dbl ps) p.1 (mn (gL L p.1) (gL L p.2)):=by
  rcases m3 with z|z
  ·rw[z];exact c1.1
  ·rw[z];exact Cn.trans (.step .refl e12) c2.1
 have k2:Cn (dbl ps) p.2 (mn (gL L p.1) (gL L p.2)):=Cn.trans (.step .refl e21) k1;refine⟨⟨by rw[aF2];exact hl,λ x h0 h1=>?_⟩,λ x h0 h1=>?_,?_,?_⟩
 ·rw[g x h0]
  split
  ·rename_i e
   rcases e with rfl|rfl
   ·exact⟨k1,by lia,by lia⟩
   ·exact⟨k2,by lia,by lia⟩
  ·exact B.cn x h0 h1
 ·rw[g x h0]
  split
  ·rename_i e
   rcases e with rfl|rfl
   ·exact m1
   ·exact m2
  ·exact Int.le_refl _
 ·rw[g p.1 h.1,if_pos (.inl rfl)];exact m2
 ·rw[g p.2 h.2.2.1,if_pos (.inr rfl)];exact m1
theorem aDD{x:Int}(h0:0<=x)(h1:x.toNat<L.length):atD (L.map .int) x= .ok (.int (gL L x)):=by
 have:=jQ (l:=L.map D.int) (k:=x.toNat) (d:=.int (gL L x)) (by rw[List.getElem?_map,List.getElem?_eq_getElem h1];unfold gL;rw[List.getD_eq_getElem?_getD,List.getElem?_eq_getElem h1];rfl)
 rwa [Int.toNat_of_nonneg h0]at this
theorem aCa{w s2 s3 s4:Slot}{fk fe:En->Rs D}{k v:Int}(hk:fk [w,.ow (.lst (L.map .int)),s2,s3,s4]= .ok (.int k))(he:fe [w,.ow (.lst (L.map .int)),s2,s3,s4]= .ok (.int v))(h0:0<=k)(h1:k.toNat<L.length):
  aB9 1 fk fe [w,.ow (.lst (L.map .int)),s2,s3,s4]= .nx [w,.ow (.lst ((L.set k.toNat v).map .int)),s2,s3,s4]:=by
 have e:putN (L.map .int) (.int k)=some k.toNat:=by
  show ixN (L.map D.int).length k=_;unfold ixN;rw[List.length_map,if_pos (by lia),if_pos (by lia)]
 show((fe [w,.ow (.lst (L.map .int)),s2,s3,s4]).bo λ d=>(fk [w,.ow (.lst (L.map .int)),s2,s3,s4]).bo λ k=>match putN (L.map .int) k with
  |some j=>.nx [w,.ow (.lst ((L.map .int).set j d)),s2,s3,s4]
  |none=>.st)=_
 rw[he,dW,hk,dW,e];simp[List.map_set]
theorem aJj{w:Slot}{p:Int×Int}(hl:L.length=n.toNat)(h:0<=p.1/\p.1<n/\0<=p.2/\p.2<n):
  lsB [w,.ow (.lst (L.map .int)),s2,.sh (.int p.1),.sh (.int p.2)]= .nx [w,.ow (.lst ((nW L p).map .int)),s2,.sh (.int p.1),.sh (.int p.2)]:=by
 have a1:=aDD (L:=L) h.1 (by lia);have a2:=aDD (L:=L) h.2.2.1 (by lia);have b1:=aCa (L:=L) (w:=w) (s2:=s2) (s3:=.sh (.int p.1)) (s4:=.sh (.int p.2)) (fk:=aC 3) (fe:=opA (mmD λ i j=>if j<i then j else i) (aA (op2 ixD (di 1) (aC 3)) (aA (op2 ixD (di 1) (aC 4)) aG))) (k:=p.1) (v:=mn (gL L p.1) (gL L p.2)) (by simp) (by simp[a1,a2,mn]) h.1 (by lia);have hl2:(L.set p.1.toNat (mn (gL L p.1) (gL L p.2))).length=L.length:=List.length_set;have a3:=aDD (L:=L.set p.1.toNat (mn (gL L p.1) (gL L p.2))) h.1 (by lia);rw[aCI (by lia) p.1 h.1,if_pos rfl]at a3;have b2:=aCa (L:=L.set p.1.toNat (mn (gL L p.1) (gL L p.2))) (w:=w) (s2:=s2) (s3:=.sh (.int p.1)) (s4:=.sh (.int p.2)) (fk:=aC 4) (fe:=bL (op2 ixD (di 1) (aC 3))) (k:=p.2) (v:=mn (gL L p.1) (gL L p.2)) (by simp) (by rw[List.map_set]at a3;simp[a3]) h.2.2.1 (by lia);rw[lsB,aY,b1,bR,b2];rfl
theorem aAP{w:Slot}(hpr:∀p∈ps,0<=p.1/\p.1<n/\0<=p.2/\p.2<n):∀(qs:List (Int×Int)) (L:List Int) (s3 s4:Slot),(∀q∈qs,q∈ps)->Lb n (dbl ps) L->
  ∃L' s3' s4',forL (cz 2 (aX (gnm 3) (aX (gnm 4) dF))) lsB (qs.map pD) [w,.ow (.lst (L.map .int)),s2,s3,s4]= .nx [w,.ow (.lst (L'.map .int)),s2,s3',s4']/\Lb n (dbl ps) L'/\(∀x,0<=x->x<n->gL L' x<=gL L x)/\∀q∈qs,gL L' q.1<=gL L q.2/\gL L' q.2<=gL L q.1
 |[],L,s3,s4,_,B=>⟨L,s3,s4,rfl,B,λ _ _ _=>Int.le_refl _,λ q hq=>by cases hq⟩
 |q::qs,L,s3,s4,h,B=>by
  have hq:=h q List.mem_cons_self;have hr:=hpr q hq;obtain⟨B1,m1,m2,m3⟩:=B.join hq hr;obtain⟨L',s3',s4',e,B',k1,k2⟩:=aAP (w:=w) hpr qs (nW L q) (.sh (.int q.1)) (.sh (.int q.2)) (λ x hx=>h x (List.mem_cons_of_mem _ hx)) B1;refine⟨L',s3',s4',?_,B',λ x h0 h1=>Int.le_trans (k1 x h0 h1) (m1 x h0 h1),λ x hx=>?_⟩
  ·rw[List.map_cons,fD]
   have g:okE (cz 2 (aX (gnm 3) (aX (gnm 4) dF)) (pD q) [w,.ow (.lst (L.map .int)),s2,s3,s4]) (λ ρ1=>(lsB ρ1).tn (forL (cz 2 (aX (gnm 3) (aX (gnm 4) dF))) lsB (qs.map pD)))=(lsB [w,.ow (.lst (L.map .int)),s2,.sh (.int q.1),.sh (.int q.2)]).tn (forL (cz 2 (aX (gnm 3) (aX (gnm 4) dF))) lsB (qs.map pD)):=by simp[pD]
   rw[g,aJj B.len hr,tZ,e]
  ·rcases List.mem_cons.mp hx with rfl|hx
   ·exact⟨Int.le_trans (k1 _ hr.1 hr.2.1) m2,Int.le_trans (k1 _ hr.2.2.1 hr.2.2.2) m3⟩
   ·have hx':=hpr x (h x (List.mem_cons_of_mem _ hx))
    exact⟨Int.le_trans (k2 x hx).1 (m1 _ hx'.2.2.1 hx'.2.2.2),Int.le_trans (k2 x hx).2 (m1 _ hx'.1 hx'.2.1)⟩
def Rd1(n:Int)(es:List (Int×Int))(t:Nat)(L:List Int):Prop:=∀(l:List Int) (a b:Int),0<=a->a<n->aLU es a b l->l.length<=t+1->gL L a<=b
theorem aGv{es:List (Int×Int)}(hin:∀x y,(x,y)∈es->0<=y/\y<n){a b:Int}{r:List Int}(h:eE es (a::b::r)=true):(a,b)∈es/\0<=b/\b<n:=by
 rw[eE,Bool.and_eq_true,decide_eq_true_eq]at h;exact⟨h.1,hin _ _ h.1⟩
theorem aBv(h:Ow n ps):∃L s2 s3 s4,forL (gnm 2) lsO (bG 0 n) [.sh (owD n ps),.ow (.lst ((upI n).map .int)),.no,.no,.no]= .nx [.sh (owD n ps),.ow (.lst (L.map .int)),s2,s3,s4]/\Lb n (dbl ps) L/\∀a,0<=a->a<n->∀b,Cn (dbl ps) a b->gL L a<=b:=by
 have hpr:∀p∈ps,0<=p.1/\p.1<n/\0<=p.2/\p.2<n:=λ p hp=>by have:=h.pr p hp;exact⟨this.1,this.2.1,this.2.2.1,this.2.2.2.1⟩
 have hin:∀x y,(x,y)∈dbl ps->0<=y/\y<n:=λ x y m=>by
  rcases jM.mp m with z|z
  ·have:=h.pr _ z;exact⟨this.2.2.1,this.2.2.2.1⟩
  ·have:=h.pr _ z;exact⟨this.1,this.2.1⟩
 have g0:∀x,0<=x->x<n->gL (upI n) x=x:=λ x h0 h1=>by
  unfold gL upI;rw[List.getD_eq_getElem?_getD,List.getElem?_map,List.getElem?_range (by lia)]
  show(((x.toNat:Nat):Int))=x
  lia
 obtain⟨ρ',e,L,s2,s3,s4,rfl,B,hR⟩:=mH (a:=gnm 2) (u:=lsO) (ds:=bG 0 n)
  (λ t ρ=>∃(L:List Int) (s2 s3 s4:Slot),ρ=[.sh (owD n ps),.ow (.lst (L.map .int)),s2,s3,s4]/\Lb n (dbl ps) L/\Rd1 n (dbl ps) t L)
  (by
   rintro i d ρ hd ⟨L,s2,s3,s4,rfl,B,hR⟩;obtain⟨rfl,hlt⟩:=jc hd;obtain⟨L',s3',s4',e,B',k1,k2⟩:=aAP (w:=.sh (owD n ps)) (s2:=.sh (.int (0+(i:Int)))) hpr ps L s3 s4 (λ _ h=>h) B;refine⟨[.sh (owD n ps),.ow (.lst (L'.map .int)),.sh (.int (0+(i:Int))),s3',s4'],?_,L',_,_,_,rfl,B',λ l a b h0 h1 P hl=>?_⟩
   ·show lsO [.sh (owD n ps),.ow (.lst (L.map .int)),.sh (.int (0+(i:Int))),s3,s4]=_
    have hi:cX (op2 ixD (aC 0) (cD (.int 1))) [.sh (owD n ps),.ow (.lst (L.map .int)),.sh (.int (0+(i:Int))),s3,s4]= .ok (ps.map pD):=by simp[owD]
    rw[lsO,iC,hi,dW,e]
   ·match l,P,hl with
    |[],P,_=>cases P.hd
    |[x],P,_=>
     have e1:=P.hd;have e2:=P.lt;cases e1;cases e2;exact(B'.cn a h0 h1).2.1
    |x::y::r,P,hl=>
     have e1:=P.hd;cases e1;obtain⟨q1,q2⟩:=aGv hin P.al;have hy:=hR (y::r) y b q2.1 q2.2 ⟨rfl,by have:=P.lt;simpa using this,by have:=P.al;rw[eE,Bool.and_eq_true]at this;exact this.2⟩ (by simp at hl ⊢;lia)
     have:gL L' a<=gL L y:=by
      rcases jM.mp q1 with z|z
      ·exact(k2 _ z).1
      ·exact(k2 _ z).2
     lia)
  (ρ:=[.sh (owD n ps),.ow (.lst ((upI n).map .int)),.no,.no,.no]) ⟨upI n,.no,.no,.no,rfl,⟨jU n,λ x h0 h1=>by rw[g0 x h0 h1];exact⟨.refl,Int.le_refl _,h0⟩⟩,λ l a b h0 h1 P hl=>by
   rw[g0 a h0 h1]
   match l,P,hl with
   |[],P,_=>cases P.hd
   |[x],P,_=>
    have e1:=P.hd;have e2:=P.lt;cases e1;cases e2;exact Int.le_refl _
   |x::y::r,P,hl=>simp at hl⟩
 refine⟨L,s2,s3,s4,e,B,λ a h0 h1 b hc=>?_⟩;obtain⟨l,P,nd⟩:=hc.path;refine hR l a b h0 h1 P ?_;have hsub:∀x∈l,x∈upI n:=λ x hx=>by
  cases l with
  |nil=>cases hx
  |cons y r=>
   have e1:=P.hd;cases e1;exact mF.mpr ((aAC P.al x hx).inn hin ⟨h0,h1⟩)
 have:=sub_len nd hsub
 rw[jU]at this;rw[gZ];lia
theorem ym(h:Ow n ps):fM [owD n ps]= .ok (.lst ((gq n (dbl ps)).map tupI)):=by
 obtain⟨L,s2,s3,s4,e,B,hmin⟩:=aBv h;have hn0:=h.n0;have hn1:=h.n1;have hLl:=B.len;have st:bA 5 [owD n ps]=[.sh (owD n ps),.no,.no,.no,.no]:=rfl;have hlr:=aIY (f:=op2 ixD (aC 0) (cD (.int 0))) (ρ:=[.sh (owD n ps),.no,.no,.no,.no]) (n:=n) (by simp[owD]) h.n0 h.n1;have hr:=jK (j:=n) (by lia) (by lia);have hS:sortI (ddI L)=(upI n).filter (bu (dbl ps)):=by
  refine aBZ (pG (xV L)) ((aBF n).filter _) λ x=>?_
  rw[(sortI_perm _).mem_iff,aCl,List.mem_filter,mF,qw];constructor
  ·intro hx
   obtain⟨i,hi,rfl⟩:=List.getElem_of_mem hx;have hg:gL L (i:Int)=L[i]:=by unfold gL;rw[Int.toNat_natCast,List.getD_eq_getElem?_getD,List.getElem?_eq_getElem hi];rfl
   have c:=B.cn (i:Int) (by lia) (by lia);rw[hg]at c;refine⟨⟨c.2.2,by lia⟩,λ b hb hc=>?_⟩
   have:=hmin (i:Int) (by lia) (by lia) b (c.1.trans hc)
   rwa [hg]at this
  ·rintro⟨⟨h0,h1⟩,hl⟩
   have c:=B.cn x h0 h1;have e1:=hl _ c.2.2 c.1;have e2:gL L x=x:=by lia
   rw[<-e2];unfold gL;rw[List.getD_eq_getElem?_getD,List.getElem?_eq_getElem (show x.toNat<L.length by lia)];exact List.getElem_mem _
 have c0:jV 1 (lrD (op2 ixD (aC 0) (cD (.int 0)))) [.sh (owD n ps),.no,.no,.no,.no]= .nx [.sh (owD n ps),.ow (.lst ((upI n).map .int)),.no,.no,.no]:=by
  rw[aG5,hlr,dW,aBX];rfl
 have c1:dw (dZ fW (aA (op2 ixD (aC 0) (cD (.int 0))) aG)) (gnm 2) lsO [.sh (owD n ps),.ow (.lst ((upI n).map .int)),.no,.no,.no]= .nx [.sh (owD n ps),.ow (.lst (L.map .int)),s2,s3,s4]:=by
  have hi:dZ fW (aA (op2 ixD (aC 0) (cD (.int 0))) aG) [.sh (owD n ps),.ow (.lst ((upI n).map .int)),.no,.no,.no]= .ok (bG 0 n):=by simp[owD,hr]
  rw[iC,hi,dW,e]
 have c2:lsR [.sh (owD n ps),.ow (.lst (L.map .int)),s2,s3,s4]= .ok (.lst ((gq n (dbl ps)).map tupI)):=by
  have hs:j9 [.lst (L.map .int)]= .ok (.lst ((sortI (ddI L)).map .int)):=by
   unfold j9;dsimp only;rw[fj];dsimp only;rw[if_pos (by lia)]
  rw[hS]at hs;refine oY (ds:=((upI n).filter (bu (dbl ps))).map .int) (by simp[shE,qN,hs]) (by
   rw[List.length_map]
   have:=List.length_filter_le (bu (dbl ps)) (upI n)
   rw[jU]at this;lia) ?_
  unfold gq;rw[List.map_map];refine yj _ λ a ha=>⟨[.sh (.int a),.sh (owD n ps),.sh (.lst (L.map .int))],rfl,?_⟩
  obtain⟨ha1,ha2⟩:=List.mem_filter.mp ha;have ha0:=mF.mp ha1;rw[qw]at ha2;have hc:lcD (dZ fW (aA (op2 ixD (aC 1) (cD (.int 0))) aG)) [none,some 2,some 0] (gnm 0) (tsb (op2 (eqR false) (op2 ixD (aC 1) (aC 0)) (aC 2))) (bL (aC 0)) [.sh (.int a),.sh (owD n ps),.sh (.lst (L.map .int))]= .ok (.lst ((bH n (dbl ps) a).map .int)):=by
   refine oY (ds:=(upI n).map .int) (by rw[<-aBX];simp[shE,qN,owD,hr]) (by rw[List.length_map,jU];lia) ?_;have ef:bH n (dbl ps) a=(upI n).filter λ b=>gL L b==a:=by
    unfold bH;refine List.filter_congr λ b hb=>?_
    have hb0:=mF.mp hb;have c:=B.cn b hb0.1 hb0.2;rw[Bool.eq_iff_iff,yR,beq_iff_eq];constructor
    ·intro hab
     have q1:=ha2 _ c.2.2 (hab.trans c.1);have q2:=hmin b hb0.1 hb0.2 a (hab.symm (zB ps));lia
    ·intro hg
     rw[hg]at c;exact c.1.symm (zB ps)
   rw[ef];refine m7 (upI n) λ b hb=>⟨[.sh (.int b),.sh (.lst (L.map .int)),.sh (.int a)],rfl,?_,?_⟩
   ·have hb0:=mF.mp hb
    have:=aDD (L:=L) hb0.1 (by lia)
    simp[this]
   ·simp
  rw[lsI,km,bU,hc];simp[tupI]
 simp only[fM,vo,bO,st];rw[aY,c0,bR,aY,c1,bR,kY,c2];rfl
end
theorem rM:∀{ts:List D},ts.all (bZ n)=true->(ts.map intOf).map D.int=ts
 |[],_=>rfl
 |t::ts,h=>by
  rw[List.all_cons,Bool.and_eq_true]at h;obtain⟨a,rfl,_⟩:=qd h.1;rw[List.map_cons,List.map_cons,rM h.2];rfl
def je(m:Int):D->Bool
 | .tup ts=>ts.all (bZ m)&&nJ ltI (ts.map intOf)
 |_=>false
theorem wC(h:pln d=true)(hs:nG d=true):dh [.int m,d]= .ok (.bl (je m d)):=by
 cases d with
 |tup ts=>
  have hp:pK ts=true:=by simpa[pln]using h
  have hl:ts.length<=100000:=by simpa[nG]using hs
  have L:=mq (a:=gnm 2) (u:=ifS (ie (tst (aO cC (aA (aC 0) (aA (aC 2) aG))))) (retS (cD (.bl false))) Ou.nx) (r:=.bl false)
   ts (λ i=>match ts[i]? with|some t=>bZ m t|none=>true) (λ ρ=>∃s,ρ=[.sh (.int m),.sh (.tup ts),s]) [.sh (.int m),.sh (.tup ts),.no] ⟨_,rfl⟩ (by
    rintro i d ρ hd ⟨s,rfl⟩;have e:=mG (m:=m) (mX (uW hp (List.mem_of_getElem? hd)));simp only[hd];cases c:bZ m d with
    |true=>right;exact⟨_,by simp[e,c];rfl,⟨_,rfl⟩,rfl⟩
    |false=>left;exact⟨by simp[e,c],rfl⟩)
  have st:bA 3 [.int m,.tup ts]=[.sh (.int m),.sh (.tup ts),.no]:=rfl;rcases L with ⟨e,i,hi,o⟩|⟨ρ',e,⟨s,rfl⟩,o⟩
  ·have:ts.all (bZ m)=false:=by
    rw[List.all_eq_false];rw[List.getElem?_eq_getElem hi]at o;exact⟨ts[i],List.getElem_mem hi,by simpa using o⟩
   simp only[dh,cM,bO,st];simp[e,je,this]
  ·have:ts.all (bZ m)=true:=by
    rw[List.all_eq_true];intro t ht;obtain⟨i,hi,rfl⟩:=List.getElem_of_mem ht
    have:=o i hi
    rw[List.getElem?_eq_getElem hi]at this;exact this
   have er:=aA8 (ps:=ts.map intOf) (by rw[List.length_map];exact hl);rw[rM this]at er;simp only[dh,cM,bO,st];simp[e,je,this,er]
 |_=>simp[dh,cM,bA,m9 (mX h),oZ,je]
theorem lN(h:pln d=true)(hs:nG d=true):cF [.int m,d]=if je m d=true then .ok .non else .ex "NoPlace":=by
 have st:bA 2 [.int m,d]=[.sh (.int m),.sh d]:=rfl;simp only[cF,cV,bO,st];cases c:je m d<;>simp[wC h hs,c]
theorem aLM{ps:List (Int×D)}{i:Int}{neg:Bool}:vq neg (.int i) (mR ps)= .ok (.bl (neg !=(ps.lookup i).isSome)):=by
 unfold vq mR;dsimp only;rw[wV]
theorem aI4{ps:List (Int×D)}{i:Int}{d:D}(h:ps.lookup i=some d):zA (mR ps) (.int i)= .ok d:=by
 unfold zA mR;dsimp only;rw[wV];dsimp only;rw[h]
theorem zz:∀qs:List (Int×D),lO (qs.map λ q=>.tup [.int q.1,q.2])=some qs
 |[]=>rfl
 |q::qs=>by rw[List.map_cons];unfold lO;rw[zz qs];rfl
theorem aKI{fi:En->Rs (List D)}{js:List (Option Nat)}{fg:D->En->Rs En}{ft:En->Rs Bool}{fk fv:En->Rs D}{ρ:En}{ds:List D}{qs:List (Int×D)}(h1:fi (shE ρ)= .ok ds)(h2:ds.length<16777216)
  (h3:lcL (stE js (shE ρ)) fg ft (pairE fk fv) ds= .ok (qs.map λ q=>.tup [.int q.1,q.2])):dcI fi js fg ft fk fv ρ= .ok (mR (jh [] qs)):=by
 unfold dcI;rw[h1,cN,if_pos (by rw[szl];exact h2),h3];dsimp only;rw[zz]
theorem aEf{ps:List (Int×D)}{i:Int}{d:D}(h:i∉ps.map (·.1)):zx ps i d=ps++[(i,d)]:=by
 unfold zx;rw[if_neg];rw[List.any_eq_true];rintro⟨p,hp,e⟩;exact h (List.mem_map.mpr ⟨p,hp,of_decide_eq_true e⟩)
theorem xG:∀{qs acc:List (Int×D)},(acc.map (·.1)++qs.map (·.1)).Nodup->jh acc qs=acc++qs
 |[],acc,_=>by simp[jh]
 |q::qs,acc,h=>by
  have hn:q.1∉acc.map (·.1):=λ hm=>by
   rw[List.nodup_append]at h;exact h.2.2 _ hm _ (by simp) rfl
  have e:jh acc (q::qs)=jh (zx acc q.1 q.2) qs:=rfl;rw[e,aEf hn,xG (by simpa using h)];simp
theorem aAQ(x:Int):∀(l:List Int) (k:Nat),((l.zipIdx k).map λ p=>(p.1,D.int (p.2:Nat))).lookup x=(nP x l).map λ j=>D.int ((j+k:Nat))
 |[],k=>rfl
 |a::l,k=>by
  rw[List.zipIdx_cons,List.map_cons,List.lookup_cons];unfold nP;by_cases c:a=x
  ·subst c
   simp
  ·have c1:(x==a)=false:=by simpa using λ z=>c z.symm
   rw[c1,if_neg c,Option.map_map,aAQ x l (k+1)];show Option.map _ (nP x l)=Option.map _ (nP x l);have e:(λ j=>D.int ((j+(k+1):Nat)))=(λ j=>D.int ((j+k:Nat)))∘λ x=>x+1:=by
    funext j;show D.int ((j+(k+1):Nat))=D.int ((j+1+k:Nat));rw[show j+(k+1)=j+1+k by lia]
   rw[e]
theorem yu{x:Int}:∀{l:List Int},x∈l->∃j,nP x l=some j/\l[j]? =some x
 |a::l,h=>by
  unfold nP;by_cases c:a=x
  ·subst c
   exact⟨0,if_pos rfl,rfl⟩
  ·rw[if_neg c]
   obtain⟨j,h1,h2⟩:=yu ((List.mem_cons.mp h).resolve_left λ z=>c z.symm);exact⟨j+1,by rw[h1];rfl,h2⟩
theorem aAc{x:Int}:∀{l:List Int},x∉l->nP x l=none
 |[],_=>rfl
 |a::l,h=>by
  unfold nP;rw[if_neg (λ z=>h (by rw[z];exact List.mem_cons_self)),aAc λ z=>h (List.mem_cons_of_mem _ z)];rfl
def aZ(n:Int)(ws:List Int):List Int:=(upI n).filter λ x=>!decide (x∈ws)
def ixK(ks:List Int)(x:Int):Int:=((nP x ks).getD 0:Nat)
def nT(ks:List Int)(p:Int×Int):Bool:=decide (p.1∈ks)&&decide (p.2∈ks)
def pQ(ks:List Int)(ps:List (Int×Int)):List (Int×Int):=(ps.filter (nT ks)).map λ p=>(ixK ks p.1,ixK ks p.2)
section
variable{n:Int}{ps:List (Int×Int)}{ws ks:List Int}
theorem aF1:(aZ n ws).Pairwise (·< ·):=(aBF n).filter _
theorem aA6(h0:0<=n):((aZ n ws).length:Int)<=n:=by
 have:=List.length_filter_le (λ x=>!decide (x∈ws)) (upI n)
 rw[jU]at this;unfold aZ;lia
theorem aF5{x:Int}(h:x∈ks):∃j:Nat,nP x ks=some j/\ixK ks x=(j:Int)/\ks[j]? =some x:=by
 obtain⟨j,h1,h2⟩:=yu h;exact⟨j,h1,by unfold ixK;rw[h1];rfl,h2⟩
theorem aFM{p:Int×Int}(h:p∈ps.filter (nT ks)):p∈ps/\p.1∈ks/\p.2∈ks:=by
 obtain⟨h1,h2⟩:=List.mem_filter.mp h;unfold nT at h2;rw[Bool.and_eq_true,decide_eq_true_eq,decide_eq_true_eq]at h2;exact⟨h1,h2⟩
theorem aCp{ρ:En}{fi:En->Rs (List D)}{js:List (Option Nat)}(h0:0<=n)(h1:n<=60)(hf:fi (shE ρ)= .ok (bG 0 n))(hs:stE js (shE ρ)=[.no,.sh (tupI ws)]):
  lcD fi js (gnm 0) (tsb (op2 (inR true) (aC 0) (aC 1))) (bL (aC 0)) ρ= .ok (.lst ((aZ n ws).map .int)):=by
 rw[aBX]at hf;exact aFG (i:=0) (j:=0) hf (.inl hs) (by rw[jU];lia)
def woD:En->Rs D:=dcI (dZ aAg (aA (aC 4) aG)) [none,none] (cz 2 (aX (gnm 0) (aX (gnm 1) dF))) jT (bL (aC 1)) (bL (aC 0))
def woL:En->Rs D:=lcD (cX (aC 3)) [none,none,some 5] (cz 2 (aX (gnm 0) (aX (gnm 1) dF))) (wD (tsb (op2 (vq false) (aC 0) (aC 2))) (tsb (op2 (vq false) (aC 1) (aC 2)))) (dM (aA (bL (op2 zA (aC 2) (aC 0))) (aA (bL (op2 zA (aC 2) (aC 1))) aG)))
def woK:En->Rs D:=lcD (dZ fW (aA (aC 2) aG)) [none,some 1] (gnm 0) (tsb (op2 (inR true) (aC 0) (aC 1))) (bL (aC 0))
theorem lU:iI=aW (ji (aO bf (aA (aC 0) aG))) (aW (zR (aC 0) (cz 2 (aX (gnm 2) (aX (gnm 3) dF)))) (aW (ji (aO cF (aA (aC 2) (aA (aC 1) aG)))) (aW (sS 4 woK) (aW (cu 5 woD) (retS (dM (aA (opA j6 (aA (qM 4) aG)) (aA (opA dj (aA woL aG)) aG)))))))):=rfl
theorem aDV(ws:List Int):pln (tupI ws)=true:=by unfold tupI pln;exact aAB ws
theorem aBC(h:Ow n ps)(low:∀p∈ps,p.1<p.2)(hw:je n (tupI ws)=true)(hl:ws.length<=100000):bW [owD n ps,tupI ws]= .ok (owD ((aZ n ws).length:Int) (pQ (aZ n ws) ps)):=by
 have hn0:=h.n0;have hn1:=h.n1;have hkl:=aA6 (ws:=ws) hn0;have hps:=h.len;have st:bA 6 [owD n ps,tupI ws]=[.sh (owD n ps),.sh (tupI ws),.no,.no,.no,.no]:=rfl;have hr:=jK (j:=n) (by lia) (by lia);have hcp:=lN (m:=n) (d:=tupI ws) (aDV ws) (by simp[tupI,nG,hl]);rw[hw,if_pos rfl]at hcp;have c0:ji (aO bf (aA (aC 0) aG)) [.sh (owD n ps),.sh (tupI ws),.no,.no,.no,.no]= .nx [.sh (owD n ps),.sh (tupI ws),.no,.no,.no,.no]:=by simp[lD h low]
 have c1:zR (aC 0) (cz 2 (aX (gnm 2) (aX (gnm 3) dF))) [.sh (owD n ps),.sh (tupI ws),.no,.no,.no,.no]= .nx [.sh (owD n ps),.sh (tupI ws),.sh (.int n),.sh (.tup (ps.map pD)),.no,.no]:=by simp[owD]
 have c2:ji (aO cF (aA (aC 2) (aA (aC 1) aG))) [.sh (owD n ps),.sh (tupI ws),.sh (.int n),.sh (.tup (ps.map pD)),.no,.no]= .nx [.sh (owD n ps),.sh (tupI ws),.sh (.int n),.sh (.tup (ps.map pD)),.no,.no]:=by simp[hcp]
 have c3:woK [.sh (owD n ps),.sh (tupI ws),.sh (.int n),.sh (.tup (ps.map pD)),.no,.no]= .ok (.lst ((aZ n ws).map .int)):=aCp hn0 hn1 (by simp[shE,qN,hr]) rfl;have hnd:(aZ n ws).Nodup:=by
  rw[List.nodup_iff_pairwise_ne];exact aF1.imp λ h=>by lia
 have c4:woD [.sh (owD n ps),.sh (tupI ws),.sh (.int n),.sh (.tup (ps.map pD)),.nw (.lst ((aZ n ws).map .int)),.no]= .ok (mR ((aZ n ws).zipIdx.map λ p=>(p.1,D.int (p.2:Nat)))):=by
  have e:dcI (dZ aAg (aA (aC 4) aG)) [none,none] (cz 2 (aX (gnm 0) (aX (gnm 1) dF))) jT (bL (aC 1)) (bL (aC 0)) [.sh (owD n ps),.sh (tupI ws),.sh (.int n),.sh (.tup (ps.map pD)),.nw (.lst ((aZ n ws).map .int)),.no]= .ok (mR (jh [] ((aZ n ws).zipIdx.map λ p=>(p.1,D.int (p.2:Nat))))):=by
   refine aKI (ds:=(aZ n ws).zipIdx.map λ p=>.tup [.int (p.2:Nat),.int p.1]) ?_ ?_ ?_
   ·have:aCJ ((aZ n ws).map .int)=(aZ n ws).zipIdx.map λ p=>.tup [.int (p.2:Nat),.int p.1]:=by
     unfold aCJ;rw[List.zipIdx_map,List.map_map];rfl
    simp[shE,qN,aAg,this]
   ·rw[List.length_map,List.length_zipIdx];lia
   ·rw[List.map_map]
    refine yj _ λ p hp=>⟨[.sh (.int (p.2:Nat)),.sh (.int p.1)],?_,?_⟩
    ·show cz 2 (aX (gnm 0) (aX (gnm 1) dF)) (.tup [.int (p.2:Nat),.int p.1]) [.no,.no]=_
     simp
    ·simp[pairE]
  unfold woD;rw[e,xG]
  ·rfl
  ·rw[List.map_nil,List.nil_append,List.map_map]
   show((aZ n ws).zipIdx.map Prod.fst).Nodup
   rw[List.zipIdx_map_fst];exact hnd
 have look:∀x,((aZ n ws).zipIdx.map λ p=>(p.1,D.int (p.2:Nat))).lookup x=(nP x (aZ n ws)).map λ j=>D.int (j:Nat):=λ x=>by
  have:=aAQ x (aZ n ws) 0
  simpa using this
 have c5:woL [.sh (owD n ps),.sh (tupI ws),.sh (.int n),.sh (.tup (ps.map pD)),.nw (.lst ((aZ n ws).map .int)),.sh (mR ((aZ n ws).zipIdx.map λ p=>(p.1,D.int (p.2:Nat))))]= .ok (.lst ((pQ (aZ n ws) ps).map pD)):=by
  refine oY (ds:=ps.map pD) (by simp[shE,qN]) (by rw[List.length_map];lia) ?_;unfold pQ;rw[List.map_map];have key:∀p:Int×Int,∃ρ1,cz 2 (aX (gnm 0) (aX (gnm 1) dF)) (pD p) (stE [none,none,some 5] (shE [.sh (owD n ps),.sh (tupI ws),.sh (.int n),.sh (.tup (ps.map pD)),.nw (.lst ((aZ n ws).map .int)),.sh (mR ((aZ n ws).zipIdx.map λ p=>(p.1,D.int (p.2:Nat))))]))= .ok ρ1/\ρ1=[.sh (.int p.1),.sh (.int p.2),.sh (mR ((aZ n ws).zipIdx.map λ p=>(p.1,D.int (p.2:Nat))))]:=λ p=>⟨_,by
   show cz 2 (aX (gnm 0) (aX (gnm 1) dF)) (pD p) [.no,.no,.sh (mR ((aZ n ws).zipIdx.map λ p=>(p.1,D.int (p.2:Nat))))]= .ok [.sh (.int p.1),.sh (.int p.2),.sh (mR ((aZ n ws).zipIdx.map λ p=>(p.1,D.int (p.2:Nat))))];simp[pD],rfl⟩
  have hin:∀x,vq false (.int x) (mR ((aZ n ws).zipIdx.map λ p=>(p.1,D.int (p.2:Nat))))= .ok (.bl (decide (x∈aZ n ws))):=λ x=>by
   rw[aLM,look x];by_cases c:x∈aZ n ws
   ·obtain⟨j,e1,_⟩:=yu c
    rw[e1];simp[c]
   ·rw[aAc c]
    simp[c]
  exact aAY ps λ p hp=>by
   obtain⟨ρ1,e1,rfl⟩:=key p;refine⟨_,e1,?_,λ ht=>?_⟩
   ·simp only[zT,tY,uY,aCT,List.getElem?_cons_zero,List.getElem?_cons_succ,cN,hin,qj,aGJ]
    unfold nT;cases decide (p.1∈aZ n ws)<;>rfl
   ·unfold nT at ht
    rw[Bool.and_eq_true,decide_eq_true_eq,decide_eq_true_eq]at ht;obtain⟨i,a1,a2,_⟩:=aF5 ht.1;obtain⟨j,b1,b2,_⟩:=aF5 ht.2;have d1:=aI4 (d:=.int (i:Nat)) ((look p.1).trans (by rw[a1];rfl));have d2:=aI4 (d:=.int (j:Nat)) ((look p.2).trans (by rw[b1];rfl));simp[d1,d2,pD,a2,b2]
 simp only[bW,lU,bO,st];rw[aY,c0,bR,aY,c1,bR,aY,c2,bR,aY,yG,c3,dW,bR,aY,aG4]
 show(match ((woD [.sh (owD n ps),.sh (tupI ws),.sh (.int n),.sh (.tup (ps.map pD)),.nw (.lst ((aZ n ws).map .int)),.no]).bo λ d=>Ou.nx (List.set [.sh (owD n ps),.sh (tupI ws),.sh (.int n),.sh (.tup (ps.map pD)),.nw (.lst ((aZ n ws).map .int)),.no] 5 (.sh d))).sq _ with| .nx _=>Rs.ok D.non| .rt d=>.ok d| .ex c=>.ex c|_=>.st)=_
 rw[c4,dW,bR]
 show(match retS _ [.sh (owD n ps),.sh (tupI ws),.sh (.int n),.sh (.tup (ps.map pD)),.nw (.lst ((aZ n ws).map .int)),.sh (mR ((aZ n ws).zipIdx.map λ p=>(p.1,D.int (p.2:Nat))))]with| .nx _=>Rs.ok D.non| .rt d=>.ok d| .ex c=>.ex c|_=>.st)=_
 rw[kY,xq,bU,bU,km,km,bU,bU,c5];simp[owD]
def llK:En->Rs D:=lcD (dZ fW (aA (op2 ixD (aC 0) (cD (.int 0))) aG)) [none,some 1] (gnm 0) (tsb (op2 (inR true) (aC 0) (aC 1))) (bL (aC 0))
def llT:En->Rs D:=lcD (cX (op2 ixD (aC 0) (cD (.int 1)))) [none,some 2] (gnm 0) (wD (tsb (op2 (inR false) (op2 ixD (aC 0) (cD (.int 0))) (aC 1))) (tsb (op2 (inR false) (op2 ixD (aC 0) (cD (.int 1))) (aC 1)))) (bL (aC 0))
def llL:En->Rs D:=lcD (cX (aC 3)) [none,none,some 2] (cz 2 (aX (gnm 0) (aX (gnm 1) dF))) jT (dM (aA (opL rA (aC 2) (aC 0)) (aA (opL rA (aC 2) (aC 1)) aG)))
theorem yo:gB=aW (sS 2 llK) (aW (sS 3 llT) (retS (dM (aA (opA j6 (aA (qM 2) aG)) (aA (opA dj (aA llL aG)) aG))))):=rfl
theorem aA3(h:Ow n ps):jE [owD n ps,tupI ws]= .ok (owD ((aZ n ws).length:Int) (pQ (aZ n ws) ps)):=by
 have hn0:=h.n0;have hn1:=h.n1;have hkl:=aA6 (ws:=ws) hn0;have hps:=h.len;have st:bA 4 [owD n ps,tupI ws]=[.sh (owD n ps),.sh (tupI ws),.no,.no]:=rfl;have hr:=jK (j:=n) (by lia) (by lia);have c0:llK [.sh (owD n ps),.sh (tupI ws),.no,.no]= .ok (.lst ((aZ n ws).map .int)):=aCp hn0 hn1 (by simp[shE,qN,owD,hr]) rfl;have c1:llT [.sh (owD n ps),.sh (tupI ws),.nw (.lst ((aZ n ws).map .int)),.no]= .ok (.lst ((ps.filter (nT (aZ n ws))).map pD)):=by
  refine oY (ds:=ps.map pD) (by simp[shE,qN,owD]) (by rw[List.length_map];lia) (m7 ps λ p hp=>⟨[.sh (pD p),.sh (.lst ((aZ n ws).map .int))],rfl,?_,?_⟩)
  ·have i1:=pU false p.1 (aZ n ws)
   have i2:=pU false p.2 (aZ n ws);simp only[zT,tY,uY,aCT,aLN,List.getElem?_cons_zero,List.getElem?_cons_succ,cN,pD,aHX,aLQ,aLP,qj,i1,i2,aGJ];unfold nT;cases decide (p.1∈aZ n ws)<;>rfl
  ·have:yw (pD p)= .ok (pD p):=rfl
   simp[this]
 have c2:llL [.sh (owD n ps),.sh (tupI ws),.nw (.lst ((aZ n ws).map .int)),.nw (.lst ((ps.filter (nT (aZ n ws))).map pD))]= .ok (.lst ((pQ (aZ n ws) ps).map pD)):=by
  refine oY (ds:=(ps.filter (nT (aZ n ws))).map pD) (by simp[shE,qN]) (by rw[List.length_map];have:=List.length_filter_le (nT (aZ n ws)) ps;lia) ?_;unfold pQ;rw[List.map_map];refine yj _ λ p hp=>⟨[.sh (.int p.1),.sh (.int p.2),.sh (.lst ((aZ n ws).map .int))],?_,?_⟩
  ·show cz 2 (aX (gnm 0) (aX (gnm 1) dF)) (pD p) [.no,.no,.sh (.lst ((aZ n ws).map .int))]=_
   simp[pD]
  ·obtain⟨_,h2,h3⟩:=aFM hp
   have ixf:∀(x:Int),x∈aZ n ws->rA ((aZ n ws).map .int) (.int x)= .ok (.int (ixK (aZ n ws) x)):=λ x hx=>by
    obtain⟨j,a1,a2,_⟩:=aF5 hx;unfold rA;dsimp only;rw[fj];dsimp only;rw[a1,a2]
   have o1:opL rA (aC 2) (aC 0) [.sh (.int p.1),.sh (.int p.2),.sh (.lst ((aZ n ws).map .int))]= .ok (.int (ixK (aZ n ws) p.1)):=by
    show okD (rA ((aZ n ws).map .int) (.int p.1))=_;rw[ixf _ h2];rfl
   have o2:opL rA (aC 2) (aC 1) [.sh (.int p.1),.sh (.int p.2),.sh (.lst ((aZ n ws).map .int))]= .ok (.int (ixK (aZ n ws) p.2)):=by
    show okD (rA ((aZ n ws).map .int) (.int p.2))=_;rw[ixf _ h3];rfl
   rw[xq,bU,o1,bU,o2];rfl
 simp only[jE,yo,bO,st];rw[aY,yG,c0,dW,bR,aY,yG]
 show(match ((llT [.sh (owD n ps),.sh (tupI ws),.nw (.lst ((aZ n ws).map .int)),.no]).bo λ d=>Ou.nx [.sh (owD n ps),.sh (tupI ws),.nw (.lst ((aZ n ws).map .int)),.nw d]).sq _ with| .nx _=>Rs.ok D.non| .rt d=>.ok d| .ex c=>.ex c|_=>.st)=_
 rw[c1,dW,bR,kY,xq,bU,bU,km,km,bU,bU,c2];simp[owD]
end
theorem aKh{ws:List Int}:nJ ltI ws=true↔ws.Pairwise (·< ·):=by
 constructor
 ·intro h
  have h':=jd.mp h;clear h;induction ws with
  |nil=>exact .nil
  |cons x ws ih=>
   have hp:=ih λ i a b e1 e2=>h' (i+1) a b e1 e2
   refine List.pairwise_cons.mpr ⟨λ y hy=>?_,hp⟩;cases ws with
   |nil=>cases hy
   |cons z zs=>
    have h1:x<z:=of_decide_eq_true (h' 0 x z rfl rfl);rcases List.mem_cons.mp hy with rfl|hy
    ·exact h1
    ·have:=(List.pairwise_cons.mp hp).1 y hy
     lia
 ·intro h
  rw[jd];intro i p q e1 e2;obtain⟨h1,rfl⟩:=List.getElem?_eq_some_iff.mp e1;obtain⟨h2,rfl⟩:=List.getElem?_eq_some_iff.mp e2;exact decide_eq_true (List.pairwise_iff_getElem.mp h i (i+1) h1 h2 (Nat.lt_succ_self i))
theorem ints_of:∀ws:List Int,(ws.map D.int).map intOf=ws
 |[]=>rfl
 |w::ws=>by rw[List.map_cons,List.map_cons,ints_of ws];rfl
theorem aJG{n:Int}{ws:List Int}(hr:ws.Pairwise (·< ·))(hin:∀x∈ws,0<=x/\x<n):je n (tupI ws)=true:=by
 unfold tupI je;dsimp only;rw[ints_of,aKh.mpr hr,Bool.and_true,List.all_eq_true];intro d hd;obtain⟨x,hx,rfl⟩:=List.mem_map.mp hd
 have:=hin x hx
 simp[bZ,this]
theorem aJZ{t u:En->Rs Bool}{ρ:En}(h1:∃b,t ρ= .ok b)(h2:∃b,u ρ= .ok b):∃b,orT t u ρ= .ok b:=by
 obtain⟨b1,e1⟩:=h1;obtain⟨b2,e2⟩:=h2;rw[aBg,e1,e2];cases b1
 ·exact⟨b2,rfl⟩
 ·exact⟨true,rfl⟩
theorem aHt{t u:En->Rs Bool}{ρ:En}(h1:∃b,t ρ= .ok b)(h2:∃b,u ρ= .ok b):∃b,wD t u ρ= .ok b:=by
 obtain⟨b1,e1⟩:=h1;obtain⟨b2,e2⟩:=h2;rw[zT,e1,e2];cases b1
 ·exact⟨false,rfl⟩
 ·exact⟨b2,rfl⟩
def smB:En->Ou:=ifS (orT (tsb (op2 (eqR false) (aC 3) (cD (.int 0)))) (wD (tsb (op2 gtD (aC 3) (cD (.int 1)))) (tsb (op2 (eqR false) (aO az (aA (aC 0) (aA (op2 fX (op2 fX (aC 2) (cD (.int 1))) (aC 5)) (aA (cD (.int 3)) aG)))) (cD (.int 0)))))) (lR 4 (bL (aC 5))) Ou.nx
theorem aA2{c a n:Int}(h0:0<=n)(h1:n<=60)(ha:0<=a)(ha2:a<=100000):∃ws:List Int,jD [.int c,.int n,.int a]= .ok (tupI ws)/\ws.Pairwise (·< ·)/\(∀x∈ws,0<=x/\x<n)/\ws.length<=60:=by
 obtain⟨k,ek,_⟩:=mz (c:=c) (k:=a) (b:=6) ha (by lia) (by decide) (by decide);have hr:=jK (j:=n) (by lia) (by lia);obtain⟨ρ',e,ws,s5,rfl,w1,w2,w3⟩:=mH (a:=gnm 5) (u:=smB) (ds:=bG 0 n)
  (λ i ρ=>∃(ws:List Int) (s5:Slot),ρ=[.sh (.int c),.sh (.int n),.sh (.int a),.sh (.int k),.ow (.lst (ws.map .int)),s5]/\ws.Pairwise (·< ·)/\(∀x∈ws,0<=x/\x<(i:Int))/\ws.length<=i)
  (by
   rintro i d ρ hd ⟨ws,s5,rfl,w1,w2,w3⟩;obtain⟨rfl,hlt⟩:=jc hd;obtain⟨r,er,_⟩:=mz (c:=c) (k:=a+1+(0+(i:Int))) (b:=3) (by lia) (by lia) (by decide) (by decide);have hz:ws.length<16777216:=by lia
   have yes:∃ws':List Int,lR 4 (bL (aC 5)) [.sh (.int c),.sh (.int n),.sh (.int a),.sh (.int k),.ow (.lst (ws.map .int)),.sh (.int (0+(i:Int)))]= .nx [.sh (.int c),.sh (.int n),.sh (.int a),.sh (.int k),.ow (.lst (ws'.map .int)),.sh (.int (0+(i:Int)))]/\ws'.Pairwise (·< ·)/\(∀x∈ws',0<=x/\x<((i+1:Nat):Int))/\ws'.length<=i+1:=by
    refine⟨ws++[0+(i:Int)],by simp[lR,hz],?_,λ x hx=>?_,by simp;lia⟩
    ·rw[List.pairwise_append]
     exact⟨w1,by simp,λ x hx y hy=>by rw[List.mem_singleton.mp hy];have:=w2 x hx;lia⟩
    ·rcases List.mem_append.mp hx with z|z
     ·have:=w2 x z;lia
     ·rw[List.mem_singleton.mp z];lia
   have no:∀x∈ws,0<=x/\x<((i+1:Nat):Int):=λ x hx=>by have:=w2 x hx;lia
   show∃ρ2,smB [.sh (.int c),.sh (.int n),.sh (.int a),.sh (.int k),.ow (.lst (ws.map .int)),.sh (.int (0+(i:Int)))]= .nx ρ2/\_
   unfold smB;rw[aCG];obtain⟨b,eb⟩:∃b,orT (tsb (op2 (eqR false) (aC 3) (cD (.int 0)))) (wD (tsb (op2 gtD (aC 3) (cD (.int 1)))) (tsb (op2 (eqR false) (aO az (aA (aC 0) (aA (op2 fX (op2 fX (aC 2) (cD (.int 1))) (aC 5)) (aA (cD (.int 3)) aG)))) (cD (.int 0))))) [.sh (.int c),.sh (.int n),.sh (.int a),.sh (.int k),.ow (.lst (ws.map .int)),.sh (.int (0+(i:Int)))]= .ok b:=by
    have g:∀ρ:En,ρ=[.sh (.int c),.sh (.int n),.sh (.int a),.sh (.int k),.ow (.lst (ws.map .int)),.sh (.int (0+(i:Int)))]->tsb (op2 (eqR false) (aO az (aA (aC 0) (aA (op2 fX (op2 fX (aC 2) (cD (.int 1))) (aC 5)) (aA (cD (.int 3)) aG)))) (cD (.int 0))) ρ= .ok ((r:Int)==0):=λ ρ e=>by
     subst e;rw[tY,uY,jr]
     have:aA (aC 0) (aA (op2 fX (op2 fX (aC 2) (cD (.int 1))) (aC 5)) (aA (cD (.int 3)) aG)) [.sh (.int c),.sh (.int n),.sh (.int a),.sh (.int k),.ow (.lst (ws.map .int)),.sh (.int (0+(i:Int)))]= .ok [.int c,.int (a+1+(0+(i:Int))),.int 3]:=rfl
     rw[this,cN,er];rfl
    exact aJZ ⟨((k:Int)==0),by simp⟩ (aHt ⟨decide ((k:Int)>1),by simp⟩ ⟨_,g _ rfl⟩)
   rw[eb,dW];cases b with
   |true=>
    obtain⟨ws',e,q1,q2,q3⟩:=yes;rw[if_pos rfl,e];exact⟨_,rfl,ws',_,rfl,q1,q2,q3⟩
   |false=>
    rw[if_neg (by simp)];exact⟨_,rfl,ws,_,rfl,w1,no,by lia⟩)
  (ρ:=[.sh (.int c),.sh (.int n),.sh (.int a),.sh (.int k),.ow (.lst []),.no]) ⟨[],.no,rfl,.nil,λ x hx=>(nomatch hx),by simp⟩
 have hln:(((bG 0 n).length:Nat):Int)=n:=by rw[gZ];lia
 rw[hln]at w2;rw[gZ]at w3;refine⟨ws,?_,w1,w2,by lia⟩;have st:bA 6 [.int c,.int n,.int a]=[.sh (.int c),.sh (.int n),.sh (.int a),.no,.no,.no]:=rfl;have df:gA=aW (cu 3 (aO az (aA (aC 0) (aA (aC 2) (aA (cD (.int 6)) aG))))) (aW (jV 4 (ig aG)) (aW (dw (dZ fW (aA (aC 1) aG)) (gnm 5) smB) (retS (opA dj (aA (qL 4) aG))))):=rfl;simp only[jD,df,bO,st];simp[ek,hr,e,tupI]
theorem qx{c n:Int}:∃d,cI [.int c,.int n]= .ok d/\pln d=true/\nG d=true/\je n d=false:=by
 obtain⟨r,er,hr⟩:=mz (c:=c) (k:=6000) (b:=14) (by decide) (by decide) (by decide) (by decide);obtain⟨d,ed,hd,_⟩:=aGK (l:=[.tup [.int n],.tup [.int (-1)],.tup [.int 0,.int 0],.tup [.int 1,.int 0],.tup [.bl true],.tup [.non],.lst [],.lst [.int 0],.non,.int 0,.str "0",.tup [.tup []],.tup [.int 0,.int n],.dct [] []]) (i:=(r:Int)) (by lia) (by simpa using hr);refine⟨d,?_,?_⟩
 ·have st:bA 3 [.int c,.int n]=[.sh (.int c),.sh (.int n),.no]:=rfl
  simp only[cI,cH,bO,st];simp[er,ed]
 ·simp only[List.mem_cons,List.not_mem_nil,or_false]at hd
  rcases hd with rfl|rfl|rfl|rfl|rfl|rfl|rfl|rfl|rfl|rfl|rfl|rfl|rfl|rfl
  ·exact⟨rfl,by simp[nG],by simp[je,bZ]⟩
  ·exact⟨rfl,by simp[nG],by simp[je,bZ]⟩
  ·exact⟨rfl,by decide,by simp[je,nJ,ltI,intOf]⟩
  ·exact⟨rfl,by decide,by simp[je,nJ,ltI,intOf]⟩
  ·exact⟨rfl,by simp[nG],by simp[je,bZ]⟩
  ·exact⟨rfl,by simp[nG],by simp[je,bZ]⟩
  ·exact⟨rfl,by decide,rfl⟩
  ·exact⟨rfl,by decide,rfl⟩
  ·exact⟨rfl,by decide,rfl⟩
  ·exact⟨rfl,by decide,rfl⟩
  ·exact⟨rfl,by decide,rfl⟩
  ·exact⟨rfl,by simp[nG],by simp[je,bZ]⟩
  ·exact⟨rfl,by simp[nG],by simp[je,bZ]⟩
  ·exact⟨rfl,by decide,rfl⟩
def k3P:En->Ou:=aW (jV 6 (aO gY (aA (aC 3) aG))) (aW (ifS (orT (ie (tst (op1 (fZ "list") (di 6)))) (orT (tsb (op2 (eqR true) (di 6) (aC 4))) (ie (tst (opA (rD λ bs=>bs.all id) (aA (lcD (cX (aC 6)) [none] (gnm 0) jT (op1 (fZ "tuple") (aC 0))) aG)))))) (retS (cD (.bl false))) Ou.nx) (lR 6 (dM aG)))
def k3W:En->Ou:=aW (cu 8 (aO jD (aA (aC 2) (aA (op2 ixD (aC 3) (cD (.int 0))) (aA (aC 7) aG))))) (aW (cu 9 (aO bW (aA (aC 3) (aA (aC 8) aG)))) (ifS (orT (ie (tst (op1 (fZ "tuple") (aC 9)))) (tsb (op2 (eqR true) (aC 9) (aO jE (aA (aC 3) (aA (aC 8) aG)))))) (retS (cD (.bl false))) Ou.nx))
def k3E:En->Ou:=aW (ifS (tsb (op2 (eqR true) (qb wdN "told" (aO bW (aA (aC 3) (aA (aC 10) aG)))) (cD (.str "place")))) (retS (cD (.bl false))) Ou.nx)
   (aW (ifS (tsb (op2 (eqR true) (qb wdN "told" (aO gY (aA (dM (aA (cD (.int 1)) (aA (cD .non) aG))) aG))) (cD (.str "web")))) (retS (cD (.bl false))) Ou.nx)
   (ifS (tsb (op2 (eqR true) (qb wdN "told" (aO bW (aA (dM (aA (cD (.int 1)) (aA (ig (aA (dM (aA (cD (.int 0)) (aA (cD (.int 1)) aG))) aG)) aG))) (aA (aC 10) aG)))) (cD (.str "web")))) (retS (cD (.bl false))) Ou.nx))
def k3K:En->Ou:=aW (cu 2 (aO cR (aA (aC 0) (aA (aC 1) aG)))) (aW (cu 3 (aO gO (aA (aC 2) (aA (cD (.int 14)) aG)))) (aW (cu 4 (aO fM (aA (aC 3) aG))) (aW (dw (dZ fW (aA (cD (.int 2)) aG)) (gnm 5) k3P) (aW (dw (cX (ig (aA (cD (.int 5000)) (aA (cD (.int 5200)) (aA (cD (.int 5400)) aG))))) (gnm 7) k3W) (aW (cu 10 (aO cI (aA (aC 2) (aA (op2 ixD (aC 3) (cD (.int 0))) aG)))) k3E)))))
def k3R:En->Rs (List D):=dZ fW (aA (opA (mmD λ i j=>if j>i then j else i) (aA (cD (.int 1)) (aA (opA (mmD λ i j=>if j<i then j else i) (aA (opA j6 (aA (aC 0) aG)) (aA (cD (.int 6)) aG))) aG))) aG)
theorem aHT:xW=aW (dw k3R (gnm 1) k3K) (retS (cD (.bl true))):=rfl
theorem aB4{ρ:En}{fe:En->Rs D}{c w:Str}(h:fe (ρ.map shS)= .ex c)(hw:wdN c=some w):qb wdN "told" fe ρ= .ok (.str w):=by
 unfold qb;rw[h];dsimp only;rw[hw]
theorem aBB{n:Int}{ps:List (Int×Int)}{d:D}(h:Ow n ps)(low:∀p∈ps,p.1<p.2)(hp:pln d=true)(hs:nG d=true)(hb:je n d=false):bW [owD n ps,d]= .ex "NoPlace":=by
 have st:bA 6 [owD n ps,d]=[.sh (owD n ps),.sh d,.no,.no,.no,.no]:=rfl;have hc:=lN (m:=n) hp hs;rw[hb,if_neg (by simp)]at hc;have c0:ji (aO bf (aA (aC 0) aG)) [.sh (owD n ps),.sh d,.no,.no,.no,.no]= .nx [.sh (owD n ps),.sh d,.no,.no,.no,.no]:=by simp[lD h low]
 have c1:zR (aC 0) (cz 2 (aX (gnm 2) (aX (gnm 3) dF))) [.sh (owD n ps),.sh d,.no,.no,.no,.no]= .nx [.sh (owD n ps),.sh d,.sh (.int n),.sh (.tup (ps.map pD)),.no,.no]:=by simp[owD]
 have c2:ji (aO cF (aA (aC 2) (aA (aC 1) aG))) [.sh (owD n ps),.sh d,.sh (.int n),.sh (.tup (ps.map pD)),.no,.no]= .ex "NoPlace":=by simp[hc]
 simp only[bW,lU,bO,st];rw[aY,c0,bR,aY,c1,bR,aY,c2];rfl
theorem El.ow{n:Int}{ps:List (Int×Int)}:El 3 (owD n ps):=.tup λ d hd=>by
 simp only[List.mem_cons,List.not_mem_nil,or_false]at hd;rcases hd with rfl|rfl
 ·exact .int
 ·refine .tup λ d hd=>?_
  obtain⟨p,_,rfl⟩:=List.mem_map.mp hd;exact .tup λ d hd=>by
   simp only[List.mem_cons,List.not_mem_nil,or_false]at hd;rcases hd with rfl|rfl<;>exact .int
abbrev k3(ns:List Int)(k c n:Int)(ps:List (Int×Int))(s5 s6 s7 s8 s9 s10:Slot):En:=[.sh (.scr ns),.sh (.int k),.sh (.int c),.sh (owD n ps),.sh (.lst ((gq n (dbl ps)).map tupI)),s5,s6,s7,s8,s9,s10]
section
variable{ns:List Int}{k c n:Int}{ps:List (Int×Int)}{s5 s6 s7 s8 s9 s10:Slot}
theorem aDZ(h0:0<=n)(h1:n<=60):(gq n (dbl ps)).length<=60:=by
 unfold gq;rw[List.length_map]
 have:=List.length_filter_le (bu (dbl ps)) (upI n)
 rw[jU]at this;lia
theorem aJq(h:Ow n ps)(low:∀p∈ps,p.1<p.2):∃s6',k3P (k3 ns k c n ps s5 s6 s7 s8 s9 s10)= .nx (k3 ns k c n ps s5 s6' s7 s8 s9 s10):=by
 have e:=aEz h low;have hl:=aDZ (ps:=ps) h.n0 h.n1;generalize hP:gq n (dbl ps)=P at e hl;have e1:jV 6 (aO gY (aA (aC 3) aG)) (k3 ns k c n ps s5 s6 s7 s8 s9 s10)= .nx (k3 ns k c n ps s5 (.ow (.lst (P.map tupI))) s7 s8 s9 s10):=by simp[e]
 have eT:∀d∈P.map tupI,El 1 d:=λ d hd=>by
  obtain⟨r,_,rfl⟩:=List.mem_map.mp hd;exact .tup El.ints
 have q:eqR true (.lst (P.map tupI)) (.lst (P.map tupI))= .ok (.bl false):=aAe true (by have:=vQ (k:=1) λ d hd=>(eT d hd).e;unfold fU;lia) (by unfold aN;exact ql λ d hd=>(eT d hd).n);have il:fZ "list" (.lst (P.map tupI))= .ok (.bl true):=by rw[tL (by simp) rfl];rfl
 have ea:lcD (cX (aC 6)) [none] (gnm 0) jT (op1 (fZ "tuple") (aC 0)) (k3 ns k c n ps s5 (.ow (.lst (P.map tupI))) s7 s8 s9 s10)= .ok (.lst (P.map λ _=>.bl true)):=by
  refine oY (ds:=P.map tupI) (by simp[shE,qN]) (by rw[List.length_map];lia) (yj P λ r hr=>⟨[.sh (tupI r)],rfl,?_⟩)
  have:fZ "tuple" (tupI r)= .ok (.bl true):=nY
  simp[this]
 have eb:=aKP ea;have et:(P.all λ _=>true)=true:=by simp
 rw[et]at eb;have e2:ifS (orT (ie (tst (op1 (fZ "list") (di 6)))) (orT (tsb (op2 (eqR true) (di 6) (aC 4))) (ie (tst (opA (rD λ bs=>bs.all id) (aA (lcD (cX (aC 6)) [none] (gnm 0) jT (op1 (fZ "tuple") (aC 0))) aG)))))) (retS (cD (.bl false))) Ou.nx (k3 ns k c n ps s5 (.ow (.lst (P.map tupI))) s7 s8 s9 s10)= .nx (k3 ns k c n ps s5 (.ow (.lst (P.map tupI))) s7 s8 s9 s10):=by
  rw[aCG,aBg,aBg,aCi,aCi,aED,aED,eb];simp[il,hP,q]
 refine⟨.ow (.lst (P.map tupI++[.tup []])),?_⟩;have hz:P.length<16777216:=by lia
 rw[k3P,aY,e1,bR,aY,e2,bR];simp[lR,hz]
theorem aJp{a:Int}(h:Ow n ps)(low:∀p∈ps,p.1<p.2)(ha:0<=a)(ha2:a<=100000):∃s8' s9',k3W (k3 ns k c n ps s5 s6 (.sh (.int a)) s8 s9 s10)= .nx (k3 ns k c n ps s5 s6 (.sh (.int a)) s8' s9' s10):=by
 obtain⟨ws,ew,w1,w2,w3⟩:=aA2 (c:=c) (a:=a) h.n0 h.n1 ha ha2;have e1:=aBC h low (aJG w1 w2) (by lia);have e2:=aA3 (ws:=ws) h;have q:=aAe true (d:=owD ((aZ n ws).length:Int) (pQ (aZ n ws) ps)) (Nat.le_trans El.ow.e (by decide)) El.ow.n;have it:fZ "tuple" (owD ((aZ n ws).length:Int) (pQ (aZ n ws) ps))= .ok (.bl true):=nY;have hx:ixD (owD n ps) (.int 0)= .ok (.int n):=by simp[owD]
 refine⟨.sh (tupI ws),.sh (owD ((aZ n ws).length:Int) (pQ (aZ n ws) ps)),?_⟩;simp[k3W,hx,ew,e1,e2,it,q]
theorem aJs{d:D}(h:Ow n ps)(low:∀p∈ps,p.1<p.2)(hp:pln d=true)(hs:nG d=true)(hb:je n d=false):k3E (k3 ns k c n ps s5 s6 s7 s8 s9 (.sh d))= .nx (k3 ns k c n ps s5 s6 s7 s8 s9 (.sh d)):=by
 have r1:qb wdN "told" (aO bW (aA (aC 3) (aA (aC 10) aG))) (k3 ns k c n ps s5 s6 s7 s8 s9 (.sh d))= .ok (.str "place"):=aB4 (c:="NoPlace") (by rw[jr];exact aBB h low hp hs hb) rfl;have a2:gY [.tup [.int 1,.non]]= .ex "NoWeb":=rfl;have r2:qb wdN "told" (aO gY (aA (dM (aA (cD (.int 1)) (aA (cD .non) aG))) aG)) (k3 ns k c n ps s5 s6 s7 s8 s9 (.sh d))= .ok (.str "web"):=aB4 (c:="NoWeb") (by simp[a2]) rfl;have a3:bf [.tup [.int 1,.lst [.tup [.int 0,.int 1]]]]= .ex "NoWeb":=rfl;have a4:bW [.tup [.int 1,.lst [.tup [.int 0,.int 1]]],d]= .ex "NoWeb":=by
  have st:bA 6 [.tup [.int 1,.lst [.tup [.int 0,.int 1]]],d]=[.sh (.tup [.int 1,.lst [.tup [.int 0,.int 1]]]),.sh d,.no,.no,.no,.no]:=rfl;simp only[bW,lU,bO,st];rw[aY,aFx,jr];simp[a3]
 have r3:qb wdN "told" (aO bW (aA (dM (aA (cD (.int 1)) (aA (ig (aA (dM (aA (cD (.int 0)) (aA (cD (.int 1)) aG))) aG)) aG))) (aA (aC 10) aG))) (k3 ns k c n ps s5 s6 s7 s8 s9 (.sh d))= .ok (.str "web"):=aB4 (c:="NoWeb") (by simp[shS,a4]) rfl;simp[k3E,r1,r2,r3,aHj]
theorem aJr{s2 s3 s4:Slot}(hk:0<=k):∃s2' s3' s4' s5' s6' s7' s8' s9' s10',k3K [.sh (.scr ns),.sh (.int k),s2,s3,s4,s5,s6,s7,s8,s9,s10]= .nx [.sh (.scr ns),.sh (.int k),s2',s3',s4',s5',s6',s7',s8',s9',s10']:=by
 obtain⟨c,ec⟩:=aHp (ns:=ns) hk;obtain⟨n,ps,ew,h,low,hn⟩:=aBu (c:=c) (most:=14) (by decide);have ew':gO [.int c,.int 14]= .ok (owD n ps):=ew;have ep:=ym h;obtain⟨d,ed,d1,d2,d3⟩:=qx (c:=c) (n:=n);obtain⟨ρ',e1,s5',s6',rfl⟩:=tQ (a:=gnm 5) (u:=k3P) (I:=λ ρ=>∃s5 s6,ρ=k3 ns k c n ps s5 s6 s7 s8 s9 s10) (bG 0 2) (k3 ns k c n ps s5 s6 s7 s8 s9 s10) ⟨_,_,rfl⟩ (by
  rintro d hd ρ ⟨s5,s6,rfl⟩;obtain⟨s6',e⟩:=aJq (ns:=ns) (k:=k) (c:=c) (s5:=.sh d) (s6:=s6) (s7:=s7) (s8:=s8) (s9:=s9) (s10:=s10) h low;exact⟨_,e,_,_,rfl⟩)
 obtain⟨ρ',e2,s7',s8',s9',rfl⟩:=tQ (a:=gnm 7) (u:=k3W) (I:=λ ρ=>∃s7 s8 s9,ρ=k3 ns k c n ps s5' s6' s7 s8 s9 s10) [.int 5000,.int 5200,.int 5400] (k3 ns k c n ps s5' s6' s7 s8 s9 s10) ⟨_,_,_,rfl⟩ (by
  rintro d hd ρ ⟨s7,s8,s9,rfl⟩;obtain⟨a,rfl,a0,a1⟩:∃a:Int,d= .int a/\0<=a/\a<=100000:=by
   simp only[List.mem_cons,List.not_mem_nil,or_false]at hd;rcases hd with rfl|rfl|rfl<;>exact⟨_,rfl,by decide,by decide⟩
  obtain⟨s8',s9',e⟩:=aJp (ns:=ns) (k:=k) (c:=c) (s5:=s5') (s6:=s6') (s8:=s8) (s9:=s9) (s10:=s10) h low a0 a1;exact⟨_,e,_,_,_,rfl⟩)
 have c2:cu 2 (aO cR (aA (aC 0) (aA (aC 1) aG))) [.sh (.scr ns),.sh (.int k),s2,s3,s4,s5,s6,s7,s8,s9,s10]= .nx [.sh (.scr ns),.sh (.int k),.sh (.int c),s3,s4,s5,s6,s7,s8,s9,s10]:=by simp[ec]
 have c3:cu 3 (aO gO (aA (aC 2) (aA (cD (.int 14)) aG))) [.sh (.scr ns),.sh (.int k),.sh (.int c),s3,s4,s5,s6,s7,s8,s9,s10]= .nx [.sh (.scr ns),.sh (.int k),.sh (.int c),.sh (owD n ps),s4,s5,s6,s7,s8,s9,s10]:=by simp[ew']
 have c4:cu 4 (aO fM (aA (aC 3) aG)) [.sh (.scr ns),.sh (.int k),.sh (.int c),.sh (owD n ps),s4,s5,s6,s7,s8,s9,s10]= .nx (k3 ns k c n ps s5 s6 s7 s8 s9 s10):=by simp[ep]
 have c5:dZ fW (aA (cD (.int 2)) aG) (k3 ns k c n ps s5 s6 s7 s8 s9 s10)= .ok (bG 0 2):=rfl;have c6:cX (ig (aA (cD (.int 5000)) (aA (cD (.int 5200)) (aA (cD (.int 5400)) aG)))) (k3 ns k c n ps s5' s6' s7 s8 s9 s10)= .ok [.int 5000,.int 5200,.int 5400]:=by simp
 have hx:ixD (owD n ps) (.int 0)= .ok (.int n):=by simp[owD]
 have c7:cu 10 (aO cI (aA (aC 2) (aA (op2 ixD (aC 3) (cD (.int 0))) aG))) (k3 ns k c n ps s5' s6' s7' s8' s9' s10)= .nx (k3 ns k c n ps s5' s6' s7' s8' s9' (.sh d)):=by simp[hx,ed]
 refine⟨.sh (.int c),.sh (owD n ps),.sh (.lst ((gq n (dbl ps)).map tupI)),s5',s6',s7',s8',s9',.sh d,?_⟩;rw[k3K,aY,c2,bR,aY,c3,bR,aY,c4,bR,aY,iC,c5,dW,e1,bR,aY,iC,c6,dW,e2,bR,aY,c7,bR,aJs h low d1 d2 d3]
theorem aFT(ns:List Int)(hn:ns.length<=63):aGP [.scr ns]= .ok (.bl true):=by
 have st:bA 11 [.scr ns]=[.sh (.scr ns),.no,.no,.no,.no,.no,.no,.no,.no,.no,.no]:=rfl;obtain⟨m,hm,hr⟩:∃m:Int,(0<=m/\m<=6)/\k3R [.sh (.scr ns),.no,.no,.no,.no,.no,.no,.no,.no,.no,.no]= .ok (bG 0 m):=by
  refine⟨if (if (6:Int)<(ns.length:Int)then 6 else(ns.length:Int))>1 then(if (6:Int)<(ns.length:Int)then 6 else(ns.length:Int))else 1,by split<;>split<;>lia,?_⟩;have e:=jK (j:=if (if (6:Int)<(ns.length:Int)then 6 else(ns.length:Int))>1 then(if (6:Int)<(ns.length:Int)then 6 else(ns.length:Int))else 1) (by split<;>split<;>lia) (by split<;>split<;>lia);simp only[gt_iff_lt]at e;simp[k3R,e]
 obtain⟨ρ',e,s1,s2,s3,s4,s5,s6,s7,s8,s9,s10,rfl⟩:=tQ (a:=gnm 1) (u:=k3K) (I:=λ ρ=>∃s1 s2 s3 s4 s5 s6 s7 s8 s9 s10,ρ=[.sh (.scr ns),s1,s2,s3,s4,s5,s6,s7,s8,s9,s10]) (bG 0 m) [.sh (.scr ns),.no,.no,.no,.no,.no,.no,.no,.no,.no,.no] ⟨_,_,_,_,_,_,_,_,_,_,rfl⟩ (by
  rintro d hd ρ ⟨s1,s2,s3,s4,s5,s6,s7,s8,s9,s10,rfl⟩;obtain⟨k,rfl,k0,k1⟩:=aAN.mp hd;obtain⟨s2',s3',s4',s5',s6',s7',s8',s9',s10',e⟩:=aJr (ns:=ns) (k:=k) (s2:=s2) (s3:=s3) (s4:=s4) (s5:=s5) (s6:=s6) (s7:=s7) (s8:=s8) (s9:=s9) (s10:=s10) k0;exact⟨_,e,_,_,_,_,_,_,_,_,_,_,rfl⟩)
 simp only[aGP,aHT,bO,st];rw[aY,iC,hr,dW,e,bR];rfl
end
local macro_rules|`(tactic|walk_at "sc")=>`(tactic|exact⟨rfl,rfl,rfl,by decide+kernel,rfl,by decide+kernel,by decide+kernel⟩)
def top(i:Nat):Stmt:=PySem.Challenge.pw_fewways_k03_parts_and_what_is_left.main.body.getD i (.Pass ⟨0,0,0,0⟩)
abbrev oN:Stmt:=top 16
abbrev qZ:Stmt:=top 17
abbrev oO:Stmt:=top 18
abbrev qY:Stmt:=top 19
abbrev lu:Stmt:=top 20
abbrev eU:Stmt:=top 21
abbrev oR:Stmt:=top 22
abbrev kW:Stmt:=top 23
abbrev uO:Stmt:=top 24
abbrev lw:Stmt:=top 25
abbrev iW:Stmt:=top 26
abbrev oU:Stmt:=top 27
abbrev lZ:Stmt:=top 28
abbrev jX:Stmt:=top 29
abbrev yM:Stmt:=top 30
abbrev qW:Stmt:=top 31
abbrev jZ:Stmt:=top 33
abbrev oM:Stmt:=top 34
abbrev qX:Stmt:=top 35
abbrev lq:Stmt:=top 36
abbrev lr:Stmt:=top 37
abbrev jY:Stmt:=top 38
abbrev oJ:Stmt:=top 39
abbrev oK:Stmt:=top 40
abbrev gn:Stmt:=top 41
abbrev nU:Stmt:=top 42
theorem zg:ak ["thing"] ["thing"] (aF oN):=by walk_at "sc"
theorem aBW:ak ["thing"] ["thing"] (aF qZ):=by walk_at "sc"
theorem zj:ak ["many","thing"] ["many","thing"] (aF oO):=by walk_at "sc"
theorem aBV:ak ["many","thing"] ["many","thing"] (aF qY):=by walk_at "sc"
theorem yK:ak ["things","at"] ["things"] (aF lu):=by walk_at "sc"
theorem nH:ak ["many","thing","pair"] ["many","thing"] (aF eU):=by walk_at "sc"
theorem zm:ak ["many","thing"] ["many","thing"] (aF oR):=by walk_at "sc"
theorem v8:ak ["many","thing","place"] ["many","thing"] (aF kW):=by walk_at "sc"
theorem aDQ:ak ["thing"] ["thing"] (aF uO):=by walk_at "sc"
theorem yL:ak ["thing"] ["thing"] (aF lw):=by walk_at "sc"
theorem sU:ak ["many","thing"] ["many","thing"] (aF iW):=by walk_at "sc"
theorem zp:ak ["web","many","ties","near","low","high"] ["web"] (aF oU):=by walk_at "sc"
theorem yH:ak ["near","start","part","at","place","other"] ["near","start"] (aF lZ):=by walk_at "sc"
theorem uL:ak ["near","places","found","seen","place","part","other"] ["near","places"] (aF jX):=by walk_at "sc"
theorem aE0:ak ["web"] ["web"] (aF yM):=by walk_at "sc"
theorem aBT:ak ["web","places","many","ties","kept","anew"] ["web","places"] (aF qW):=by walk_at "sc"
theorem uN:ak ["_law_script","_law_k"] ["_law_script","_law_k"] (aF jZ):=by walk_at "sc"
theorem zf:ak ["_law_cell","_law_k","_law_bound","_law_left_here","_law_j","_law_stir"] ["_law_cell","_law_k","_law_bound"] (aF oM):=by walk_at "sc"
theorem aBU:ak ["_law_cell","_law_most","_law_many","_law_thick","_law_ties","_law_one","_law_other"] ["_law_cell","_law_most"] (aF qX):=by walk_at "sc"
theorem yI:ak ["_law_web_here","_law_least","_law_turn","_law_one","_law_other"] ["_law_web_here"] (aF lq):=by walk_at "sc"
theorem yJ:ak ["_law_error","_law_kinds","_law_words"] ["_law_error"] (aF lr):=by walk_at "sc"
theorem uM:ak ["_law_call","_law_word","_law_error"] ["_law_call"] (aF jY):=by walk_at "sc"
theorem zb:ak ["_law_cell","_law_many","_law_at","_law_kind","_law_found","_law_place"] ["_law_cell","_law_many","_law_at"] (aF oJ):=by walk_at "sc"
theorem zc:ak ["_law_web_here","_law_places","_law_stays","_law_ties"] ["_law_web_here","_law_places"] (aF oK):=by walk_at "sc"
theorem qU:ak ["_law_cell","_law_many","_law_some_here"] ["_law_cell","_law_many"] (aF gn):=by walk_at "sc"
theorem aIu:ak ["_law_script","_law_k","_law_cell","_law_web_here","_law_due","_law_turn","_law_found","_law_at","_law_places","_law_left_here","_law_bad"] ["_law_script"] (aF nU):=by walk_at "sc"
set_option genInjectivity false in
set_option genSizeOf false in
structure Adr where
 vC:Addr
 gC:FuncData
 xN:Addr
 iM:FuncData
 vD:Addr
 gD:FuncData
 xM:Addr
 iK:FuncData
 rm:Addr
 dR:FuncData
 iu:Addr
 bF:FuncData
 vG:Addr
 gF:FuncData
 pW:Addr
 cM:FuncData
 aAd:Addr
 jm:FuncData
 rn:Addr
 fJ:FuncData
 mJ:Addr
 cV:FuncData
 vH:Addr
 gG:FuncData
 rW:Addr
 fG:FuncData
 ni:Addr
 dC:FuncData
 aCz:Addr
 nC:FuncData
 xJ:Addr
 iI:FuncData
 nq:Addr
 cQ:FuncData
 vB:Addr
 dO:FuncData
 xK:Addr
 iJ:FuncData
 rY:Addr
 fH:FuncData
 rZ:Addr
 sG:FuncData
 nj:Addr
 oE:FuncData
 uz:Addr
 gA:FuncData
 vA:Addr
 gB:FuncData
 lL:Addr
 cH:FuncData
 aDA:Addr
 xW:FuncData
 nR:Value
 gM:Addr
 lE:Addr
 gJ:Addr
 lF:Addr
 dU:Addr
 gH:Addr
 eZ:Addr
 jA:Addr
 eY:Addr
 gK:Addr
 iz:Addr
 jB:Addr
 lG:Addr
def wdA(t:Adr):Addr->Option Str:=λ C=>(([t.lE,t.gJ,t.lF,t.dU,t.gH,t.eZ,t.jA,t.eY,t.gK,t.iz,t.jB,t.lG]:List Addr).zip (["web","place","way","parting","many","forest","plan","one way","order","text","deed","row"]:List Str)).lookup C
structure Txt(K:PySem.W.Frag)(mg:Str->Option Value)(t:Adr):Prop where
 o6:Dnr K mg "is_whole" oN ["thing"] t.vC t.gC
 xR:Dnr K mg "is_many" qZ ["thing"] t.xN t.iM
 lC:Dnr K mg "is_place" oO ["many","thing"] t.vD t.gD
 xQ:Dnr K mg "is_pair" qY ["many","thing"] t.xM t.iK
 mL:Dnr K mg "is_rising" lu ["things"] t.rm t.dR
 iy:Dnr K mg "are_rising_pairs" eU ["many","thing"] t.iu t.bF
 vN:Dnr K mg "are_ties" oR ["many","thing"] t.vG t.gF
 pX:Dnr K mg "are_places" kW ["many","thing"] t.pW t.cM
 aAh:Dnr K mg "is_web" uO ["thing"] t.aAd t.jm
 mO:Dnr K mg "check_web" lw ["thing"] t.rn t.fJ
 mQ:Dnr K mg "check_places" iW ["many","thing"] t.mJ t.cV
 vO:Dnr K mg "all_tied" oU ["web"] t.vH t.gG
 rz:Dnr K mg "part_with" lZ ["near","start"] t.rW t.fG
 nu:Dnr K mg "parts_among" jX ["near","places"] t.ni t.dC
 yz:Dnr K mg "parts" yM ["web"] t.aCz t.nC
 my:Dnr K mg "without" qW ["web","places"] t.xJ t.iI
 oA:Dnr K mg "_law_cell_at" jZ ["_law_script","_law_k"] t.nq t.cQ
 eX:Dnr K mg "_law_draw" oM ["_law_cell","_law_k","_law_bound"] t.vB t.dO
 xP:Dnr K mg "_law_web" qX ["_law_cell","_law_most"] t.xK t.iJ
 sE:Dnr K mg "_law_parts" lq ["_law_web_here"] t.rY t.fH
 jO:Dnr K mg "_law_class" lr ["_law_error"] t.rZ t.sG
 bM:Dnr K mg "_law_refused" jY ["_law_call"] t.nj t.oE
 vL:Dnr K mg "_law_some" oJ ["_law_cell","_law_many","_law_at"] t.uz t.gA
 vM:Dnr K mg "_law_left" oK ["_law_web_here","_law_places"] t.vA t.gB
 lM:Dnr K mg "_law_no_places" gn ["_law_cell","_law_many"] t.lL t.cH
 aI3:Dnr K mg "law" nU ["_law_script"] t.aDA t.xW
 gU:mg "MOST_PLACES"=some t.nR
 vf:RelV (.int 60) t.nR
 uf:mg "FewError"=some (.ref t.gM)
 l_FewError:aq mg "FewError"=t.gM
 iQ:gk K t.gM
 aCn:mg "NoWeb"=some (.ref t.lE)
 aCo:aq mg "NoWeb"=t.lE
 o9:gk K t.lE
 w5:mg "NoPlace"=some (.ref t.gJ)
 w6:aq mg "NoPlace"=t.gJ
 j7:gk K t.gJ
 aHK:mg "NoWay"=some (.ref t.lF)
 aHU:aq mg "NoWay"=t.lF
 su:gk K t.lF
 aAO:mg "NoParting"=some (.ref t.dU)
 aA4:aq mg "NoParting"=t.dU
 jG:gk K t.dU
 aD6:mg "TooMany"=some (.ref t.gH)
 aDc:aq mg "TooMany"=t.gH
 mV:gk K t.gH
 aBn:mg "NoForest"=some (.ref t.eZ)
 aBx:aq mg "NoForest"=t.eZ
 jz:gk K t.eZ
 aFO:mg "NoPlan"=some (.ref t.jA)
 aFX:aq mg "NoPlan"=t.jA
 ou:gk K t.jA
 aBm:mg "NoOneWay"=some (.ref t.eY)
 aBw:aq mg "NoOneWay"=t.eY
 jy:gk K t.eY
 aD7:mg "NoOrder"=some (.ref t.gK)
 aDd:aq mg "NoOrder"=t.gK
 mW:gk K t.gK
 aFN:mg "NoText"=some (.ref t.iz)
 aFW:aq mg "NoText"=t.iz
 oh:gk K t.iz
 aFP:mg "NoDeed"=some (.ref t.jB)
 aFY:aq mg "NoDeed"=t.jB
 pA:gk K t.jB
 aHL:mg "NoRow"=some (.ref t.lG)
 aHV:aq mg "NoRow"=t.lG
 sy:gk K t.lG
 ye:mg "ValueError"=none
 aIX:mg "all"=none
 aJg:mg "bool"=none
 aAK:mg "enumerate"=none
 aLA:mg "int"=none
 aR:mg "isinstance"=none
 rO:mg "len"=none
 aBk:mg "list"=none
 aKz:mg "max"=none
 aIW:mg "min"=none
 dI:mg "range"=none
 aIV:mg "set"=none
 aAJ:mg "sorted"=none
 eQ:mg "tuple"=none
 cb:aCN K t.gM [t.lE,t.gJ,t.lF,t.dU,t.gH,t.eZ,t.jA,t.eY,t.gK,t.iz,t.jB,t.lG]=true
open PySem.Spec PyProof.Rows
section
variable{P:Program}{w:World}{K:PySem.W.Frag}{mg:Str->Option Value}{base:Heap}{t:Adr}
theorem rN(T:Txt K mg t):cY P w K mg base (CX1 P w) 1 t.vC t.gC ["thing"] (spF K (aq mg) 1 jF):=
 bQ (k:=0) (f:=gC) T.o6 zg λ n _ _ _ _ _ _ _=>
  (aL (bB (oH (kO (aB 0) T.aR T.aLA) (qQ (aIr (kO (aB 0) T.aR T.aJg))))))
theorem pN(T:Txt K mg t):cY P w K mg base (CX1 P w) 1 t.rm t.dR ["things"] (spF K (aq mg) 1 cZ):=
 bQ (k:=0) (f:=dR) T.mL yK λ n _ _ _ _ _ _ _=>
  (aJ (dm (aC2 (aD aK (aD (lY T.rO (aD (aB 0) aH)) aH)) T.dI) (bN (ks:=[1]))
   (aL (eG (gm (aCX (aj (aB 0) (aIp (aB 1) aK)) (aj (aB 0) (aB 1))))
    (aL (bB iU))
    bY)))
  (aL (bB iU)))
theorem aAI(T:Txt K mg t):cY P w K mg base (CX1 P w) 1 t.vH t.gG ["web"] (spF K (aq mg) 1 gQ):=
 bQ (k:=0) (f:=gG) T.vO zp λ n _ _ _ _ _ _ _=>
  (aJ (aEL (aB 0) (lX (n:=2) (bj (bN (ks:=[1,2])) (bj (bN (ks:=[1,2])) jJ))))
  (aJ (aKb (N:=["place"]) (js:=[none]) (ks:=[0]) (gR (aD (aB 1) aH) T.dI) bx)
  (aJ (dm (fP (aB 2)) (lX (n:=2) (bj (bN (ks:=[4,5])) (bj (bN (ks:=[4,5])) jJ)))
   (aJ (uD 3 (aB 4) (bz (aB 5)))
   (aL (uD 3 (aB 5) (bz (aB 4))))))
  (aL (bB (tE 3))))))
theorem yW(T:Txt K mg t):cY P w K mg base (CX1 P w) 1 t.rW t.fG ["near","start"] (spF K (aq mg) 2 fL):=
 bQ (k:=0) (f:=fG) T.rz yH λ n _ _ _ _ _ _ _=>
  (aJ (kJ (i:=2) (uA (yF (aD (bz (aB 1)) aH))))
  (aJ (cT (i:=3) (kE aK))
  (aJ (aEK (aCX (aB 3) (lY T.rO (aD (jW 2) aH)))
   (aJ (pC (i:=4) (kE (bz (aj (jW 2) (aB 3)))))
   (aJ (dm (fP (aj (aB 0) (tG 4))) (bN (ks:=[5]))
    (aL (eG (aBN (aB 5) (jW 2))
     (aL (j8 2 (bz (aB 5))))
     bY)))
   (aL (aIk (i:=3) aK (λ _=>aJy))))))
  (aL (bB (jb T.eQ (aD (aDO T.aAJ (aD (jW 2) aH)) aH)))))))
theorem u5(T:Txt K mg t):cY P w K mg base (CX1 P w) 1 t.nq t.cQ ["_law_script","_law_k"] (spF K (aq mg) 2 cR):=
 bQ (k:=0) (f:=cQ) T.oA uN λ n _ _ _ _ _ _ _=>
  (aJ (eG (aCX (aB 1) (lY T.rO (aD (aB 0) aH)))
   (aL (bB (bz (aj (aB 0) (aB 1)))))
   bY)
  (aL (bB aK)))
theorem fC(T:Txt K mg t):cY P w K mg base (CX1 P w) 1 t.vB t.dO ["_law_cell","_law_k","_law_bound"] (spF K (aq mg) 3 az):=
 bQ (k:=0) (f:=dO) T.eX zf λ n _ _ _ _ _ _ _=>
  (aJ (eG (aKa (aB 0) (aIq aK aK))
   (aJ (cT (i:=3) (kE (aB 0)))
   (aJ (dm (gR (aD (aB 1) aH) T.dI) (bN (ks:=[4]))
    (aJ (eG (aCY (aB 3) aK)
     (aL (bB aK))
     bY)
    (aL (cT (i:=3) (kE (aC4 (aB 3) (aB 2)))))))
   (aL (bB (qT (aB 3) (aB 2))))))
   bY)
  (aJ (cT (i:=5) (kE (qT (qR (iV (iV (qT (aB 0) aK) (qR aK (aB 1))) aK) aK) aK)))
  (aJ (cT (i:=5) (kE (qT (iV (iV (qR (aB 5) (aB 5)) (qR aK (aB 1))) aK) aK)))
  (aL (bB (qT (aC4 (qT (qR (aB 5) aK) aK) aK) (aB 2)))))))
theorem yX(T:Txt K mg t):cY P w K mg base (CX1 P w) 1 t.rY t.fH ["_law_web_here"] (spF K (aq mg) 1 fM):=
 bQ (k:=0) (f:=fH) T.sE yI λ n _ _ _ _ _ _ _=>
  (aJ (kJ (i:=1) (uA (aIo (uJ T.aBk T.dI (aj (aB 0) aK)))))
  (aJ (dm (gR (aD (aj (aB 0) aK) aH) T.dI) (bN (ks:=[2]))
   (aL (dm (fP (aj (aB 0) aK)) (lX (n:=2) (bj (bN (ks:=[3,4])) (bj (bN (ks:=[3,4])) jJ)))
    (aJ (aCZ 1 (aB 3) (aC3 T.aIW (aD (aj (jW 1) (aB 3)) (aD (aj (jW 1) (aB 4)) aH))))
    (aL (aCZ 1 (aB 4) (bz (aj (jW 1) (aB 3)))))))))
  (aL (bB (uK (N:=["_law_low","_law_web_here","_law_least"]) (js:=[none,some 0,some 1]) (ks:=[0]) (fP (v7 T.aAJ T.aIV (aD (aB 1) aH))) bx qO (jb T.eQ (aD (uK (N:=["_law_place","_law_least","_law_low"]) (js:=[none,some 2,some 0]) (ks:=[0]) (gR (aD (aj (aB 1) aK) aH) T.dI) bx (uG (aCY (aj (aB 1) (aB 0)) (aB 2))) (bz (aB 0))) aH)))))))
theorem yZ(T:Txt K mg t):FnH P w K mg base 1 t.rZ t.sG ["_law_error"] (spW (wdA t)):=
 aGD (c1:=.ref t.gM) (c2:=.ty "ValueError") (k1:=[.ref t.lE,.ref t.gJ,.ref t.lF]) (k2:=[.ref t.dU,.ref t.gH,.ref t.eZ]) (k3:=[.ref t.jA,.ref t.eY,.ref t.gK]) (k4:=[.ref t.iz,.ref t.jB,.ref t.lG]) (l1:=["web","place","way","parting","many","forest","plan","one way"]) (l2:=["order","text","deed","row"]) T.jO.F yJ rfl rfl rfl rfl (λ cdv A outer s H=>⟨(fQ rfl rfl rfl T.aR (dH (v:=.ref t.gM) rfl T.uf rfl)),(fQ rfl rfl rfl T.aR (aCe (v:=.ty "ValueError") (u:=.type "ValueError") rfl T.ye rfl rfl)),(aa (fQ rfl rfl rfl T.aR (dH (v:=.ref t.lE) rfl T.aCn rfl)) (aa (fQ rfl rfl rfl T.aR (dH (v:=.ref t.gJ) rfl T.w5 rfl)) (aa (fQ rfl rfl rfl T.aR (dH (v:=.ref t.lF) rfl T.aHK rfl)) cP))),(aa (fQ rfl rfl rfl T.aR (dH (v:=.ref t.dU) rfl T.aAO rfl)) (aa (fQ rfl rfl rfl T.aR (dH (v:=.ref t.gH) rfl T.aD6 rfl)) (aa (fQ rfl rfl rfl T.aR (dH (v:=.ref t.eZ) rfl T.aBn rfl)) cP))),(aa (fQ rfl rfl rfl T.aR (dH (v:=.ref t.jA) rfl T.aFO rfl)) (aa (fQ rfl rfl rfl T.aR (dH (v:=.ref t.eY) rfl T.aBm rfl)) (aa (fQ rfl rfl rfl T.aR (dH (v:=.ref t.gK) rfl T.aD7 rfl)) cP))),(aa (fQ rfl rfl rfl T.aR (dH (v:=.ref t.iz) rfl T.aFN rfl)) (aa (fQ rfl rfl rfl T.aR (dH (v:=.ref t.jB) rfl T.aFP rfl)) (aa (fQ rfl rfl rfl T.aR (dH (v:=.ref t.lG) rfl T.aHL rfl)) cP))),(aa dq (aa dq (aa dq (aa dq (aa dq (aa dq (aa dq (aa dq cP)))))))),(aa dq (aa dq (aa dq (aa dq cP))))⟩) rfl rfl (by decide) λ C w h=>(aIF T.cb h).1
theorem aAG(T:Txt K mg t):cY P w K mg base (CX1 P w) 1 t.vA t.gB ["_law_web_here","_law_places"] (spF K (aq mg) 2 jE):=
 bQ (k:=0) (f:=gB) T.vM zc λ n _ _ _ _ _ _ _=>
  (aJ (pC (i:=2) (kE (uK (N:=["_law_place","_law_places"]) (js:=[none,some 1]) (ks:=[0]) (gR (aD (aj (aB 0) aK) aH) T.dI) bx (uG (aBN (aB 0) (aB 1))) (bz (aB 0)))))
  (aJ (pC (i:=3) (aIH (N:=["_law_tie","_law_stays"]) (js:=[none,some 2]) (ks:=[0]) (fP (aj (aB 0) aK)) bx (uG (SW.st (aBL (aII (aj (aB 0) aK) (aB 1)) (xu (aII (aj (aB 0) aK) (aB 1)))))) (bz (aB 0))))
  (aL (bB (cg (aD (lY T.rO (aD (tG 2) aH)) (aD (jb T.eQ (aD (uK (N:=["_law_one","_law_other","_law_stays"]) (js:=[none,none,some 2]) (ks:=[0,1]) (fP (aB 3)) (lX (n:=2) (bj bx (bj bx jJ))) qO (cg (aD (z9 (aB 2) (aB 0)) (aD (z9 (aB 2) (aB 1)) aH)))) aH)) aH)))))))
theorem aBj(T:Txt K mg t):cY P w K mg base (CX1 P w) 2 t.xN t.iM ["thing"] (spF K (aq mg) 1 nD):=
 bQ (k:=1) (f:=iM) T.xR aBW λ n _ _ _ _ _ _ _=>
  (aL (bB (oH (bC (rN T) T.o6 (aD (aB 0) aH)) (qQ (aGa aK (aB 0) (aGb T.gU T.vf (λ _ _=>.int _)))))))
theorem mC(T:Txt K mg t):cY P w K mg base (CX1 P w) 2 t.vD t.gD ["many","thing"] (spF K (aq mg) 2 cC):=
 bQ (k:=1) (f:=gD) T.lC zj λ n _ _ _ _ _ _ _=>
  (aL (bB (oH (bC (rN T) T.o6 (aD (aB 1) aH)) (qQ (aG9 aK (aB 1) (aB 0))))))
theorem uZ(T:Txt K mg t):cY P w K mg base (CX1 P w) 2 t.ni t.dC ["near","places"] (spF K (aq mg) 2 dD):=
 bQ (k:=1) (f:=dC) T.nu uL λ n _ _ _ _ _ _ _=>
  (aJ (kJ (i:=2) (uA (yF aH)))
  (aJ (kJ (i:=3) (uA (aIo (aG7 T.aIV))))
  (aJ (dm (fP (aB 1)) (bN (ks:=[4]))
   (aL (eG (aGZ (aB 4) (jW 3))
    (aJ (cT (i:=5) (kE (bC (yW T) T.rz (aD (aB 0) (aD (aB 4) aH)))))
    (aJ (j8 2 (bz (aB 5)))
    (aL (dm (fP (aB 5)) (bN (ks:=[6]))
     (aL (aIl 3 (bz (aB 6))))))))
    bY)))
  (aL (bB (tE 2))))))
theorem aBh(T:Txt K mg t):cY P w K mg base (CX1 P w) 2 t.xK t.iJ ["_law_cell","_law_most"] (spF K (aq mg) 2 gO):=
 bQ (k:=1) (f:=iJ) T.xP aBU λ n _ _ _ _ _ _ _=>
  (aJ (cT (i:=2) (kE (bC (fC T) T.eX (aD (aB 0) (aD aK (aD (iV (aB 1) aK) aH))))))
  (aJ (cT (i:=3) (kE (iV aK (bC (fC T) T.eX (aD (aB 0) (aD aK (aD aK aH)))))))
  (aJ (kJ (i:=4) (uA (yF aH)))
  (aJ (dm (gR (aD (aB 2) aH) T.dI) (bN (ks:=[5]))
   (aL (dm (aC2 (aD (iV (aB 5) aK) (aD (aB 2) aH)) T.dI) (bN (ks:=[6]))
    (aL (eG (aCX (bC (fC T) T.eX (aD (aB 0) (aD (iV (iV aK (qR aK (aB 5))) (aB 6)) (aD aK aH)))) (aB 3))
     (aL (j8 4 (cg (aD (bz (aB 5)) (aD (bz (aB 6)) aH)))))
     bY)))))
  (aL (bB (cg (aD (bz (aB 2)) (aD (jb T.eQ (aD (tE 4) aH)) aH)))))))))
theorem aAF(T:Txt K mg t):cY P w K mg base (CX1 P w) 2 t.uz t.gA ["_law_cell","_law_many","_law_at"] (spF K (aq mg) 3 jD):=
 bQ (k:=1) (f:=gA) T.vL zb λ n _ _ _ _ _ _ _=>
  (aJ (cT (i:=3) (kE (bC (fC T) T.eX (aD (aB 0) (aD (aB 2) (aD aK aH))))))
  (aJ (kJ (i:=4) (uA (yF aH)))
  (aJ (dm (gR (aD (aB 1) aH) T.dI) (bN (ks:=[5]))
   (aL (eG (SW.st (wK (aCY (aB 3) aK) (t8 (SW.st (aBL (aK9 (aB 3) aK) (xu (aCY (bC (fC T) T.eX (aD (aB 0) (aD (iV (iV (aB 2) aK) (aB 5)) (aD aK aH)))) aK)))))))
    (aL (j8 4 (bz (aB 5))))
    bY)))
  (aL (bB (jb T.eQ (aD (tE 4) aH)))))))
theorem qi(T:Txt K mg t):cY P w K mg base (CX1 P w) 2 t.lL t.cH ["_law_cell","_law_many"] (spF K (aq mg) 2 cI):=
 bQ (k:=1) (f:=cH) T.lM qU λ n _ _ _ _ _ _ _=>
  (aJ (pC (i:=2) (kE (uI (aD (cg (aD (bz (aB 1)) aH)) (aD (cg (aD (aIs aK) aH)) (aD (cg (aD aK (aD aK aH))) (aD (cg (aD aK (aD aK aH))) (aD (cg (aD iU aH)) (aD (cg (aD aBS aH)) (aD (uI aH) (aD (uI (aD aK aH)) (aD aBS (aD aK (aD qP (aD (cg (aD (cg aH) aH)) (aD (cg (aD aK (aD (bz (aB 1)) aH))) (aD aGc aH)))))))))))))))))
  (aL (bB (aj (tG 2) (bC (fC T) T.eX (aD (aB 0) (aD aK (aD aK aH))))))))
theorem aBi(T:Txt K mg t):cY P w K mg base (CX1 P w) 3 t.xM t.iK ["many","thing"] (spF K (aq mg) 2 jw):=
 bQ (k:=2) (f:=iK) T.xQ aBV λ n _ _ _ _ _ _ _=>
  (aJ (eG (SW.st (wK (gm (iR (kO (aB 1) T.aR T.eQ))) (t8 (uC (lY T.rO (aD (aB 1) aH)) aK))))
   (aL (bB iU))
   bY)
  (aL (bB (oH (bC (mC T) T.lC (aD (aB 0) (aD (aj (aB 1) aK) aH))) (oH (bC (mC T) T.lC (aD (aB 0) (aD (aj (aB 1) aK) aH))) (qQ (aKe (aj (aB 1) aK) (aj (aB 1) aK))))))))
theorem vh(T:Txt K mg t):cY P w K mg base (CX1 P w) 3 t.pW t.cM ["many","thing"] (spF K (aq mg) 2 dh):=
 bQ (k:=2) (f:=cM) T.pX v8 λ n _ _ _ _ _ _ _=>
  (aJ (eG (gm (iR (kO (aB 1) T.aR T.eQ)))
   (aL (bB iU))
   bY)
  (aJ (dm (fP (aB 1)) (bN (ks:=[2]))
   (aL (eG (gm (iR (bC (mC T) T.lC (aD (aB 0) (aD (aB 2) aH)))))
    (aL (bB iU))
    bY)))
  (aL (bB (bC (pN T) T.mL (aD (aB 1) aH))))))
theorem nO(T:Txt K mg t):cY P w K mg base (CX1 P w) 4 t.iu t.bF ["many","thing"] (spF K (aq mg) 2 bI):=
 bQ (k:=3) (f:=bF) T.iy nH λ n _ _ _ _ _ _ _=>
  (aJ (eG (gm (iR (kO (aB 1) T.aR T.eQ)))
   (aL (bB iU))
   bY)
  (aJ (dm (fP (aB 1)) (bN (ks:=[2]))
   (aL (eG (gm (iR (bC (aBi T) T.xQ (aD (aB 0) (aD (aB 2) aH)))))
    (aL (bB iU))
    bY)))
  (aL (bB (bC (pN T) T.mL (aD (aB 1) aH))))))
theorem sX(T:Txt K mg t):cY P w K mg base (CX1 P w) 4 t.mJ t.cV ["many","thing"] (spF K (aq mg) 2 cF):=
 bQ (k:=3) (f:=cV) T.mQ sU λ n _ _ _ _ _ _ _=>
  (aL (eG (gm (iR (bC (vh T) T.pX (aD (aB 0) (aD (aB 1) aH)))))
   (aL (z7 rfl T.w5 T.w6 T.j7 (aD qP aH)))
   bY))
theorem aAH(T:Txt K mg t):cY P w K mg base (CX1 P w) 5 t.vG t.gF ["many","thing"] (spF K (aq mg) 2 lH):=
 bQ (k:=4) (f:=gF) T.vN zm λ n _ _ _ _ _ _ _=>
  (aL (bB (oH (bC (nO T) T.iy (aD (aB 0) (aD (aB 1) aH))) (qQ (aEZ T.aIX (aD (uK (N:=["low","high"]) (js:=[none,none]) (ks:=[0,1]) (fP (aB 1)) (lX (n:=2) (bj bx (bj bx jJ))) qO (aKf (aB 0) (aB 1))) aH))))))
theorem aD3(T:Txt K mg t):cY P w K mg base (CX1 P w) 6 t.aAd t.jm ["thing"] (spF K (aq mg) 1 qK):=
 bQ (k:=5) (f:=jm) T.aAh aDQ λ n _ _ _ _ _ _ _=>
  (aJ (eG (SW.st (wK (gm (iR (kO (aB 0) T.aR T.eQ))) (t8 (uC (lY T.rO (aD (aB 0) aH)) aK))))
   (aL (bB iU))
   bY)
  (aL (bB (oH (bC (aBj T) T.xR (aD (aj (aB 0) aK) aH)) (qQ (bC (aAH T) T.vN (aD (aj (aB 0) aK) (aD (aj (aB 0) aK) aH))))))))
theorem pO(T:Txt K mg t):cY P w K mg base (CX1 P w) 7 t.rn t.fJ ["thing"] (spF K (aq mg) 1 bf):=
 bQ (k:=6) (f:=fJ) T.mO yL λ n _ _ _ _ _ _ _=>
  (aL (eG (gm (iR (bC (aD3 T) T.aAh (aD (aB 0) aH))))
   (aL (z7 rfl T.aCn T.aCo T.o9 (aD qP aH)))
   bY))
theorem aAE(T:Txt K mg t):cY P w K mg base (CX1 P w) 8 t.aCz t.nC ["web"] (spF K (aq mg) 1 gY):=
 bQ (k:=7) (f:=nC) T.yz aE0 λ n _ _ _ _ _ _ _=>
  (aJ (xx (bC (pO T) T.mO (aD (aB 0) aH)))
  (aL (bB (bC (uZ T) T.nu (aD (bC (aAI T) T.vO (aD (aB 0) aH)) (aD (uJ T.aBk T.dI (aj (aB 0) aK)) aH))))))
theorem oW(T:Txt K mg t):cY P w K mg base (CX1 P w) 8 t.xJ t.iI ["web","places"] (spF K (aq mg) 2 bW):=
 bQ (k:=7) (f:=iI) T.my aBT λ n _ _ _ _ _ _ _=>
  (aJ (xx (bC (pO T) T.mO (aD (aB 0) aH)))
  (aJ (aEL (aB 0) (lX (n:=2) (bj (bN (ks:=[2,3])) (bj (bN (ks:=[2,3])) jJ))))
  (aJ (xx (bC (sX T) T.mQ (aD (aB 2) (aD (aB 1) aH))))
  (aJ (pC (i:=4) (aIH (N:=["place","places"]) (js:=[none,some 1]) (ks:=[0]) (gR (aD (aB 2) aH) T.dI) bx (uG (aBN (aB 0) (aB 1))) (bz (aB 0))))
  (aJ (cT (i:=5) (kE (aKg (N:=["at","place"]) (js:=[none,none]) (ks:=[0,1]) (aET (aD (aB 4) aH) T.aAK) (lX (n:=2) (bj bx (bj bx jJ))) qO (bz (aB 1)) (bz (aB 0)))))
  (aL (bB (cg (aD (lY T.rO (aD (tG 4) aH)) (aD (jb T.eQ (aD (uK (N:=["low","high","anew"]) (js:=[none,none,some 5]) (ks:=[0,1]) (fP (aB 3)) (lX (n:=2) (bj bx (bj bx jJ))) (uG (SW.st (aBL (aEI (aB 0) (aB 2)) (xu (aEI (aB 1) (aB 2)))))) (cg (aD (bz (aEW (aB 2) (aB 0))) (aD (bz (aEW (aB 2) (aB 1))) aH)))) aH)) aH))))))))))
theorem iZ(T:Txt K mg t):cY P w K mg base (CX1 P w) 10 t.nj t.oE ["_law_call"] (spR P w K mg base 9 "told" (wdA t)):=
 aB1 T.bM.F uM rfl rfl rfl rfl rfl rfl T.uf T.iQ (yZ T) T.jO.m T.jO.F.kp T.jO.b (by decide) λ C w h=>(aIF T.cb h).2
theorem aDz(T:Txt K mg t):∀c w,wdN c=some w->wdA t (aq mg c)=some w:=aKX (ns:=["NoWeb","NoPlace","NoWay","NoParting","TooMany","NoForest","NoPlan","NoOneWay","NoOrder","NoText","NoDeed","NoRow"]) T.cb (by simp only[List.map,T.aCo,T.w6,T.aHU,T.aA4,T.aDc,T.aBx,T.aFX,T.aBw,T.aDd,T.aFW,T.aFY,T.aHV])
theorem aLO(T:Txt K mg t){c Pt:Addr}{s:Shared}{H:Hp}(hr:dg 10 (callerA.deeper (envOfC "law" (aF nU) s.heap.objs.size t.aDA (.ref c))))(Lx:sJ (cxW P w K mg base ["_law_script","_law_k","_law_cell","_law_web_here","_law_due","_law_turn","_law_found","_law_at","_law_places","_law_left_here","_law_bad"] "law" (aF nU) t.aDA (.ref c) callerA s H Pt) Pt)(n:List.Nodup (["_law_script","_law_k","_law_cell","_law_web_here","_law_due","_law_turn","_law_found","_law_at","_law_places","_law_left_here","_law_bad"]:List Str)):
  SSs (ctW P w K mg base ["_law_script","_law_k","_law_cell","_law_web_here","_law_due","_law_turn","_law_found","_law_at","_law_places","_law_left_here","_law_bad"] "law" (aF nU) t.aDA (.ref c) callerA s H Pt 10 hr) (cj nU) xW:=
  (aJ (dm (gR (aD (aG8 T.aKz (aD aK (aD (aC3 T.aIW (aD (lY T.rO (aD (aB 0) aH)) (aD aK aH))) aH))) aH) T.dI) (bN (ks:=[1]))
   (aJ (cT (i:=2) (kE (bC (u5 T) T.oA (aD (aB 0) (aD (aB 1) aH)))))
   (aJ (cT (i:=3) (kE (bC (aBh T) T.xP (aD (aB 2) (aD aK aH)))))
   (aJ (cT (i:=4) (kE (bC (yX T) T.sE (aD (aB 3) aH))))
   (aJ (dm (gR (aD aK aH) T.dI) (bN (ks:=[5]))
    (aJ (kJ (i:=6) (uA (aIo (bC (aAE T) T.yz (aD (aB 3) aH)))))
    (aJ (eG (SW.st (wK (gm (iR (kO (jW 6) T.aR T.aBk))) (wK (uC (jW 6) (aB 4)) (t8 (gm (iR (aEZ T.aIX (aD (uK (N:=["_law_part"]) (js:=[none]) (ks:=[0]) (fP (aB 6)) bx qO (kO (aB 0) T.aR T.eQ)) aH))))))))
     (aL (bB iU))
     bY)
    (aL (j8 6 (cg aH))))))
   (aJ (dm (fP (uI (aD aK (aD aK (aD aK aH))))) (bN (ks:=[7]))
    (aJ (cT (i:=8) (kE (bC (aAF T) T.vL (aD (aB 2) (aD (aj (aB 3) aK) (aD (aB 7) aH))))))
    (aJ (cT (i:=9) (kE (bC (oW T) T.my (aD (aB 3) (aD (aB 8) aH)))))
    (aL (eG (SW.st (wK (gm (iR (kO (aB 9) T.aR T.eQ))) (t8 (uC (aB 9) (bC (aAG T) T.vM (aD (aB 3) (aD (aB 8) aH)))))))
     (aL (bB iU))
     bY)))))
   (aJ (cT (i:=10) (kE (bC (qi T) T.lM (aD (aB 2) (aD (aj (aB 3) aK) aH)))))
   (aJ (eG (uC (aBR (k:=10) (k0:=9) (kb:=8) (wn:=wdN) (wd:=wdA t) (λ _=>iZ T) (Nat.le_of_ble_eq_true rfl) T.bM.m T.bM.F.kp T.bM.b (λ _=>⟨⟨_,Lx⟩,rfl,rfl,rfl⟩) ⟨rfl,rfl,rfl,by decide+kernel,by decide+kernel⟩ rfl (aDz T) (by decide) (λ _ _ _ _ _ _ _ _ _ _=>(bC (oW T) T.my (aD (aB 3) (aD (aB 10) aH)))) (hfree:=λ _=>uq (sc:=aF nU) (by decide+kernel))) qP)
    (aL (bB iU))
    bY)
   (aJ (eG (uC (aBR (k:=10) (k0:=9) (kb:=8) (wn:=wdN) (wd:=wdA t) (λ _=>iZ T) (Nat.le_of_ble_eq_true rfl) T.bM.m T.bM.F.kp T.bM.b (λ _=>⟨⟨_,Lx⟩,rfl,rfl,rfl⟩) ⟨rfl,rfl,rfl,by decide+kernel,by decide+kernel⟩ rfl (aDz T) (by decide) (λ _ _ _ _ _ _ _ _ _ _=>(bC (aAE T) T.yz (aD (cg (aD aK (aD aBS aH))) aH))) (hfree:=λ _=>uq (sc:=aF nU) (by decide+kernel))) qP)
    (aL (bB iU))
    bY)
   (aL (eG (uC (aBR (k:=10) (k0:=9) (kb:=8) (wn:=wdN) (wd:=wdA t) (λ _=>iZ T) (Nat.le_of_ble_eq_true rfl) T.bM.m T.bM.F.kp T.bM.b (λ _=>⟨⟨_,Lx⟩,rfl,rfl,rfl⟩) ⟨rfl,rfl,rfl,by decide+kernel,by decide+kernel⟩ rfl (aDz T) (by decide) (λ _ _ _ _ _ _ _ _ _ _=>(bC (oW T) T.my (aD (cg (aD aK (aD (uI (aD (cg (aD aK (aD aK aH))) aH)) aH))) (aD (aB 10) aH)))) (hfree:=λ _=>uq (sc:=aF nU) (by decide+kernel))) qP)
    (aL (bB iU))
    bY)))))))))))
  (aL (bB iU)))
end
theorem aIb{K:PySem.W.Frag}{h:Heap}{mg:Str->Option Value}{tk_MOST_PLACES:Tok}{q_FewError:Addr}{q_NoWeb:Addr}{q_NoPlace:Addr}{q_NoWay:Addr}{q_NoParting:Addr}{q_TooMany:Addr}{q_NoForest:Addr}{q_NoPlan:Addr}{q_NoOneWay:Addr}{q_NoOrder:Addr}{q_NoText:Addr}{q_NoDeed:Addr}{q_NoRow:Addr}(X:K.In h)(G:h.Ns mainGlobals mg)
  (h0:∃f d,Enr K "is_whole" oN f d)
  (h1:∃f d,Enr K "is_many" qZ f d)
  (h2:∃f d,Enr K "is_place" oO f d)
  (h3:∃f d,Enr K "is_pair" qY f d)
  (h4:∃f d,Enr K "is_rising" lu f d)
  (h5:∃f d,Enr K "are_rising_pairs" eU f d)
  (h6:∃f d,Enr K "are_ties" oR f d)
  (h7:∃f d,Enr K "are_places" kW f d)
  (h8:∃f d,Enr K "is_web" uO f d)
  (h9:∃f d,Enr K "check_web" lw f d)
  (h10:∃f d,Enr K "check_places" iW f d)
  (h11:∃f d,Enr K "all_tied" oU f d)
  (h12:∃f d,Enr K "part_with" lZ f d)
  (h13:∃f d,Enr K "parts_among" jX f d)
  (h14:∃f d,Enr K "parts" yM f d)
  (h15:∃f d,Enr K "without" qW f d)
  (h16:∃f d,Enr K "_law_cell_at" jZ f d)
  (h17:∃f d,Enr K "_law_draw" oM f d)
  (h18:∃f d,Enr K "_law_web" qX f d)
  (h19:∃f d,Enr K "_law_parts" lq f d)
  (h20:∃f d,Enr K "_law_class" lr f d)
  (h21:∃f d,Enr K "_law_refused" jY f d)
  (h22:∃f d,Enr K "_law_some" oJ f d)
  (h23:∃f d,Enr K "_law_left" oK f d)
  (h24:∃f d,Enr K "_law_no_places" gn f d)
  (h25:∃f d,Enr K "law" nU f d)
  (gU:PySem.W.nsIn K mainGlobals "MOST_PLACES"=some (some (.int 60 tk_MOST_PLACES)))
  (y_FewError:PySem.W.nsIn K mainGlobals "FewError"=some (some (.ref q_FewError)))
  (iQ:PySem.W.excIn K q_FewError [.type "ValueError",.type "Exception",.type "BaseException",.type "object"] "ValueError.__new__"=true)
  (y_NoWeb:PySem.W.nsIn K mainGlobals "NoWeb"=some (some (.ref q_NoWeb)))
  (o9:PySem.W.excIn K q_NoWeb [.type "ValueError",.type "Exception",.type "BaseException",.type "object"] "ValueError.__new__"=true)
  (y_NoPlace:PySem.W.nsIn K mainGlobals "NoPlace"=some (some (.ref q_NoPlace)))
  (j7:PySem.W.excIn K q_NoPlace [.type "ValueError",.type "Exception",.type "BaseException",.type "object"] "ValueError.__new__"=true)
  (y_NoWay:PySem.W.nsIn K mainGlobals "NoWay"=some (some (.ref q_NoWay)))
  (su:PySem.W.excIn K q_NoWay [.type "ValueError",.type "Exception",.type "BaseException",.type "object"] "ValueError.__new__"=true)
  (y_NoParting:PySem.W.nsIn K mainGlobals "NoParting"=some (some (.ref q_NoParting)))
  (jG:PySem.W.excIn K q_NoParting [.type "ValueError",.type "Exception",.type "BaseException",.type "object"] "ValueError.__new__"=true)
  (y_TooMany:PySem.W.nsIn K mainGlobals "TooMany"=some (some (.ref q_TooMany)))
  (mV:PySem.W.excIn K q_TooMany [.type "ValueError",.type "Exception",.type "BaseException",.type "object"] "ValueError.__new__"=true)
  (y_NoForest:PySem.W.nsIn K mainGlobals "NoForest"=some (some (.ref q_NoForest)))
  (jz:PySem.W.excIn K q_NoForest [.type "ValueError",.type "Exception",.type "BaseException",.type "object"] "ValueError.__new__"=true)
  (y_NoPlan:PySem.W.nsIn K mainGlobals "NoPlan"=some (some (.ref q_NoPlan)))
  (ou:PySem.W.excIn K q_NoPlan [.type "ValueError",.type "Exception",.type "BaseException",.type "object"] "ValueError.__new__"=true)
  (y_NoOneWay:PySem.W.nsIn K mainGlobals "NoOneWay"=some (some (.ref q_NoOneWay)))
  (jy:PySem.W.excIn K q_NoOneWay [.type "ValueError",.type "Exception",.type "BaseException",.type "object"] "ValueError.__new__"=true)
  (y_NoOrder:PySem.W.nsIn K mainGlobals "NoOrder"=some (some (.ref q_NoOrder)))
  (mW:PySem.W.excIn K q_NoOrder [.type "ValueError",.type "Exception",.type "BaseException",.type "object"] "ValueError.__new__"=true)
  (y_NoText:PySem.W.nsIn K mainGlobals "NoText"=some (some (.ref q_NoText)))
  (oh:PySem.W.excIn K q_NoText [.type "ValueError",.type "Exception",.type "BaseException",.type "object"] "ValueError.__new__"=true)
  (y_NoDeed:PySem.W.nsIn K mainGlobals "NoDeed"=some (some (.ref q_NoDeed)))
  (pA:PySem.W.excIn K q_NoDeed [.type "ValueError",.type "Exception",.type "BaseException",.type "object"] "ValueError.__new__"=true)
  (y_NoRow:PySem.W.nsIn K mainGlobals "NoRow"=some (some (.ref q_NoRow)))
  (sy:PySem.W.excIn K q_NoRow [.type "ValueError",.type "Exception",.type "BaseException",.type "object"] "ValueError.__new__"=true)
  (cb:L2.aCN K q_FewError [q_NoWeb,q_NoPlace,q_NoWay,q_NoParting,q_TooMany,q_NoForest,q_NoPlan,q_NoOneWay,q_NoOrder,q_NoText,q_NoDeed,q_NoRow]=true)
  (z_ValueError:PySem.W.nsIn K mainGlobals "ValueError"=some none)
  (z_all:PySem.W.nsIn K mainGlobals "all"=some none)
  (z_bool:PySem.W.nsIn K mainGlobals "bool"=some none)
  (z_enumerate:PySem.W.nsIn K mainGlobals "enumerate"=some none)
  (z_int:PySem.W.nsIn K mainGlobals "int"=some none)
  (z_isinstance:PySem.W.nsIn K mainGlobals "isinstance"=some none)
  (z_len:PySem.W.nsIn K mainGlobals "len"=some none)
  (z_list:PySem.W.nsIn K mainGlobals "list"=some none)
  (z_max:PySem.W.nsIn K mainGlobals "max"=some none)
  (z_min:PySem.W.nsIn K mainGlobals "min"=some none)
  (z_range:PySem.W.nsIn K mainGlobals "range"=some none)
  (z_set:PySem.W.nsIn K mainGlobals "set"=some none)
  (z_sorted:PySem.W.nsIn K mainGlobals "sorted"=some none)
  (z_tuple:PySem.W.nsIn K mainGlobals "tuple"=some none):
  ∃t,Txt K mg t:=by
 obtain⟨f0,d0,F0,a0⟩:=h0;have B0:=F0.binds (ps:=["thing"]) λ _ _ _ _ _ _ us hl=>by obtain⟨_,rfl⟩:=um hl;rfl
 obtain⟨f1,d1,F1,a1⟩:=h1;have B1:=F1.binds (ps:=["thing"]) λ _ _ _ _ _ _ us hl=>by obtain⟨_,rfl⟩:=um hl;rfl
 obtain⟨f2,d2,F2,a2⟩:=h2;have B2:=F2.binds (ps:=["many","thing"]) λ _ _ _ _ _ _ us hl=>by obtain⟨_,_,rfl⟩:=qu hl;rfl
 obtain⟨f3,d3,F3,a3⟩:=h3;have B3:=F3.binds (ps:=["many","thing"]) λ _ _ _ _ _ _ us hl=>by obtain⟨_,_,rfl⟩:=qu hl;rfl
 obtain⟨f4,d4,F4,a4⟩:=h4;have B4:=F4.binds (ps:=["things"]) λ _ _ _ _ _ _ us hl=>by obtain⟨_,rfl⟩:=um hl;rfl
 obtain⟨f5,d5,F5,a5⟩:=h5;have B5:=F5.binds (ps:=["many","thing"]) λ _ _ _ _ _ _ us hl=>by obtain⟨_,_,rfl⟩:=qu hl;rfl
 obtain⟨f6,d6,F6,a6⟩:=h6;have B6:=F6.binds (ps:=["many","thing"]) λ _ _ _ _ _ _ us hl=>by obtain⟨_,_,rfl⟩:=qu hl;rfl
 obtain⟨f7,d7,F7,a7⟩:=h7;have B7:=F7.binds (ps:=["many","thing"]) λ _ _ _ _ _ _ us hl=>by obtain⟨_,_,rfl⟩:=qu hl;rfl
 obtain⟨f8,d8,F8,a8⟩:=h8;have B8:=F8.binds (ps:=["thing"]) λ _ _ _ _ _ _ us hl=>by obtain⟨_,rfl⟩:=um hl;rfl
 obtain⟨f9,d9,F9,a9⟩:=h9;have B9:=F9.binds (ps:=["thing"]) λ _ _ _ _ _ _ us hl=>by obtain⟨_,rfl⟩:=um hl;rfl
 obtain⟨f10,d10,F10,a10⟩:=h10;have B10:=F10.binds (ps:=["many","thing"]) λ _ _ _ _ _ _ us hl=>by obtain⟨_,_,rfl⟩:=qu hl;rfl
 obtain⟨f11,d11,F11,a11⟩:=h11;have B11:=F11.binds (ps:=["web"]) λ _ _ _ _ _ _ us hl=>by obtain⟨_,rfl⟩:=um hl;rfl
 obtain⟨f12,d12,F12,a12⟩:=h12;have B12:=F12.binds (ps:=["near","start"]) λ _ _ _ _ _ _ us hl=>by obtain⟨_,_,rfl⟩:=qu hl;rfl
 obtain⟨f13,d13,F13,a13⟩:=h13;have B13:=F13.binds (ps:=["near","places"]) λ _ _ _ _ _ _ us hl=>by obtain⟨_,_,rfl⟩:=qu hl;rfl
 obtain⟨f14,d14,F14,a14⟩:=h14;have B14:=F14.binds (ps:=["web"]) λ _ _ _ _ _ _ us hl=>by obtain⟨_,rfl⟩:=um hl;rfl
 obtain⟨f15,d15,F15,a15⟩:=h15;have B15:=F15.binds (ps:=["web","places"]) λ _ _ _ _ _ _ us hl=>by obtain⟨_,_,rfl⟩:=qu hl;rfl
 obtain⟨f16,d16,F16,a16⟩:=h16;have B16:=F16.binds (ps:=["_law_script","_law_k"]) λ _ _ _ _ _ _ us hl=>by obtain⟨_,_,rfl⟩:=qu hl;rfl
 obtain⟨f17,d17,F17,a17⟩:=h17;have B17:=F17.binds (ps:=["_law_cell","_law_k","_law_bound"]) λ _ _ _ _ _ _ us hl=>by obtain⟨_,_,_,rfl⟩:=aLC hl;rfl
 obtain⟨f18,d18,F18,a18⟩:=h18;have B18:=F18.binds (ps:=["_law_cell","_law_most"]) λ _ _ _ _ _ _ us hl=>by obtain⟨_,_,rfl⟩:=qu hl;rfl
 obtain⟨f19,d19,F19,a19⟩:=h19;have B19:=F19.binds (ps:=["_law_web_here"]) λ _ _ _ _ _ _ us hl=>by obtain⟨_,rfl⟩:=um hl;rfl
 obtain⟨f20,d20,F20,a20⟩:=h20;have B20:=F20.binds (ps:=["_law_error"]) λ _ _ _ _ _ _ us hl=>by obtain⟨_,rfl⟩:=um hl;rfl
 obtain⟨f21,d21,F21,a21⟩:=h21;have B21:=F21.binds (ps:=["_law_call"]) λ _ _ _ _ _ _ us hl=>by obtain⟨_,rfl⟩:=um hl;rfl
 obtain⟨f22,d22,F22,a22⟩:=h22;have B22:=F22.binds (ps:=["_law_cell","_law_many","_law_at"]) λ _ _ _ _ _ _ us hl=>by obtain⟨_,_,_,rfl⟩:=aLC hl;rfl
 obtain⟨f23,d23,F23,a23⟩:=h23;have B23:=F23.binds (ps:=["_law_web_here","_law_places"]) λ _ _ _ _ _ _ us hl=>by obtain⟨_,_,rfl⟩:=qu hl;rfl
 obtain⟨f24,d24,F24,a24⟩:=h24;have B24:=F24.binds (ps:=["_law_cell","_law_many"]) λ _ _ _ _ _ _ us hl=>by obtain⟨_,_,rfl⟩:=qu hl;rfl
 obtain⟨f25,d25,F25,a25⟩:=h25;have B25:=F25.binds (ps:=["_law_script"]) λ _ _ _ _ _ _ us hl=>by obtain⟨_,rfl⟩:=um hl;rfl
 exact⟨⟨f0,_,f1,_,f2,_,f3,_,f4,_,f5,_,f6,_,f7,_,f8,_,f9,_,f10,_,f11,_,f12,_,f13,_,f14,_,f15,_,f16,_,f17,_,f18,_,f19,_,f20,_,f21,_,f22,_,f23,_,f24,_,f25,_,_,q_FewError,q_NoWeb,q_NoPlace,q_NoWay,q_NoParting,q_TooMany,q_NoForest,q_NoPlan,q_NoOneWay,q_NoOrder,q_NoText,q_NoDeed,q_NoRow⟩,⟨⟨F0,PySem.W.mg_of X G a0,B0⟩,⟨F1,PySem.W.mg_of X G a1,B1⟩,⟨F2,PySem.W.mg_of X G a2,B2⟩,⟨F3,PySem.W.mg_of X G a3,B3⟩,⟨F4,PySem.W.mg_of X G a4,B4⟩,⟨F5,PySem.W.mg_of X G a5,B5⟩,⟨F6,PySem.W.mg_of X G a6,B6⟩,⟨F7,PySem.W.mg_of X G a7,B7⟩,⟨F8,PySem.W.mg_of X G a8,B8⟩,⟨F9,PySem.W.mg_of X G a9,B9⟩,⟨F10,PySem.W.mg_of X G a10,B10⟩,⟨F11,PySem.W.mg_of X G a11,B11⟩,⟨F12,PySem.W.mg_of X G a12,B12⟩,⟨F13,PySem.W.mg_of X G a13,B13⟩,⟨F14,PySem.W.mg_of X G a14,B14⟩,⟨F15,PySem.W.mg_of X G a15,B15⟩,⟨F16,PySem.W.mg_of X G a16,B16⟩,⟨F17,PySem.W.mg_of X G a17,B17⟩,⟨F18,PySem.W.mg_of X G a18,B18⟩,⟨F19,PySem.W.mg_of X G a19,B19⟩,⟨F20,PySem.W.mg_of X G a20,B20⟩,⟨F21,PySem.W.mg_of X G a21,B21⟩,⟨F22,PySem.W.mg_of X G a22,B22⟩,⟨F23,PySem.W.mg_of X G a23,B23⟩,⟨F24,PySem.W.mg_of X G a24,B24⟩,⟨F25,PySem.W.mg_of X G a25,B25⟩,PySem.W.mg_of X G gU,⟨_,rfl⟩,PySem.W.mg_of X G y_FewError,(by unfold aq;rw[PySem.W.mg_of X G y_FewError]),iQ,PySem.W.mg_of X G y_NoWeb,(by unfold aq;rw[PySem.W.mg_of X G y_NoWeb]),o9,PySem.W.mg_of X G y_NoPlace,(by unfold aq;rw[PySem.W.mg_of X G y_NoPlace]),j7,PySem.W.mg_of X G y_NoWay,(by unfold aq;rw[PySem.W.mg_of X G y_NoWay]),su,PySem.W.mg_of X G y_NoParting,(by unfold aq;rw[PySem.W.mg_of X G y_NoParting]),jG,PySem.W.mg_of X G y_TooMany,(by unfold aq;rw[PySem.W.mg_of X G y_TooMany]),mV,PySem.W.mg_of X G y_NoForest,(by unfold aq;rw[PySem.W.mg_of X G y_NoForest]),jz,PySem.W.mg_of X G y_NoPlan,(by unfold aq;rw[PySem.W.mg_of X G y_NoPlan]),ou,PySem.W.mg_of X G y_NoOneWay,(by unfold aq;rw[PySem.W.mg_of X G y_NoOneWay]),jy,PySem.W.mg_of X G y_NoOrder,(by unfold aq;rw[PySem.W.mg_of X G y_NoOrder]),mW,PySem.W.mg_of X G y_NoText,(by unfold aq;rw[PySem.W.mg_of X G y_NoText]),oh,PySem.W.mg_of X G y_NoDeed,(by unfold aq;rw[PySem.W.mg_of X G y_NoDeed]),pA,PySem.W.mg_of X G y_NoRow,(by unfold aq;rw[PySem.W.mg_of X G y_NoRow]),sy,PySem.W.mg_none_of X G z_ValueError,PySem.W.mg_none_of X G z_all,PySem.W.mg_none_of X G z_bool,PySem.W.mg_none_of X G z_enumerate,PySem.W.mg_none_of X G z_int,PySem.W.mg_none_of X G z_isinstance,PySem.W.mg_none_of X G z_len,PySem.W.mg_none_of X G z_list,PySem.W.mg_none_of X G z_max,PySem.W.mg_none_of X G z_min,PySem.W.mg_none_of X G z_range,PySem.W.mg_none_of X G z_set,PySem.W.mg_none_of X G z_sorted,PySem.W.mg_none_of X G z_tuple,cb⟩⟩
theorem aKO{l:PySem.W.OpenLaw}{w:World}{K:PySem.W.Frag}{h:Heap}{mg:Str->Option Value}{fa Pt:Addr}(X:K.In h)(G:h.Ns mainGlobals mg)(hfa:mg "law"=some (.ref fa))(hB:yp K "law" Pt=true)(ht:∃t,Txt K mg t):L2.aDG l.prog w K mg fa Pt 10 63:=by
 obtain⟨t,T⟩:=ht;have e:=hfa.symm.trans T.aI3.m;cases e;exact aHS (f:=xW) (F:=aGP) X G hB T.aI3 aIu (λ _ _ _ _ _ _ _ _=>.of_eq rfl) (λ base c s H hr Lx nd=>aLO T hr Lx nd) rfl aFT
theorem walk{l:PySem.W.OpenLaw}{q:Program}{loose:List Str}{XP:(Str->Option Value)->Heap->Prop}{YP:World->Heap->Prop}{d:DefRec}{K:Params->PySem.W.Frag}{Pt:Addr}(hn:l.most=some 63)(hdf:d.params.defaults=[])
  (hY:∀(w:World) (h:Heap),YP w h->(K w.params).In h/\h.get? Pt=some (PySem.W.tabObj #[]))
  (F:∀(w:World) (mg:Str->Option Value) (fa:Addr) (h:Heap),(K w.params).In h->h.Ns mainGlobals mg->mg d.name=some (.ref fa)->L2.aDG l.prog w (K w.params) mg fa Pt 10 63):
  PySem.W.WalkO q loose XP YP l.row.toRowW d [] (λ f vs=>PySem.call f vs):=
 L2.aEB hn (by decide) hdf ⟨rfl,by decide,by decide⟩ hY F
end VL.My
open PySem PySem.W PyProof.Rows
set_option maxRecDepth 100000 in
set_option maxHeartbeats 0 in
theorem PySem.Challenge.cw_fewways_k03_parts_and_what_is_left_holds : PySem.Challenge.rw_fewways_k03_parts_and_what_is_left.Holds := by
 w_on; o_law; k_head; (case hw=>w_witness2)
 k_fill
 refine VL.My.walk (l:=PySem.Challenge.rw_fewways_k03_parts_and_what_is_left) rfl rfl (fun w h Y=>⟨PySem.W.km_in_of Y,PySem.W.km_tabs_of Y _ List.mem_cons_self⟩) ?F
 case F =>
  intro w mg fa h KX G hmg
  refine VL.My.aKO KX G hmg ?B ?T
  (case B=>kernel_rfl)
  case T =>
   refine' VL.My.aIb KX G (VL.enr ?a0 ?l0 ?c0 ?k0) (VL.enr ?a1 ?l1 ?c1 ?k1) (VL.enr ?a2 ?l2 ?c2 ?k2) (VL.enr ?a3 ?l3 ?c3 ?k3) (VL.enr ?a4 ?l4 ?c4 ?k4) (VL.enr ?a5 ?l5 ?c5 ?k5) (VL.enr ?a6 ?l6 ?c6 ?k6) (VL.enr ?a7 ?l7 ?c7 ?k7) (VL.enr ?a8 ?l8 ?c8 ?k8) (VL.enr ?a9 ?l9 ?c9 ?k9) (VL.enr ?a10 ?l10 ?c10 ?k10) (VL.enr ?a11 ?l11 ?c11 ?k11) (VL.enr ?a12 ?l12 ?c12 ?k12) (VL.enr ?a13 ?l13 ?c13 ?k13) (VL.enr ?a14 ?l14 ?c14 ?k14) (VL.enr ?a15 ?l15 ?c15 ?k15) (VL.enr ?a16 ?l16 ?c16 ?k16) (VL.enr ?a17 ?l17 ?c17 ?k17) (VL.enr ?a18 ?l18 ?c18 ?k18) (VL.enr ?a19 ?l19 ?c19 ?k19) (VL.enr ?a20 ?l20 ?c20 ?k20) (VL.enr ?a21 ?l21 ?c21 ?k21) (VL.enr ?a22 ?l22 ?c22 ?k22) (VL.enr ?a23 ?l23 ?c23 ?k23) (VL.enr ?a24 ?l24 ?c24 ?k24) (VL.enr ?a25 ?l25 ?c25 ?k25) ?gU ?y_FewError ?iQ ?y_NoWeb ?o9 ?y_NoPlace ?j7 ?y_NoWay ?su ?y_NoParting ?jG ?y_TooMany ?mV ?y_NoForest ?jz ?y_NoPlan ?ou ?y_NoOneWay ?jy ?y_NoOrder ?mW ?y_NoText ?oh ?y_NoDeed ?pA ?y_NoRow ?sy ?cb ?z_ValueError ?z_all ?z_bool ?z_enumerate ?z_int ?z_isinstance ?z_len ?z_list ?z_max ?z_min ?z_range ?z_set ?z_sorted ?z_tuple
   (case y_FewError=>k_is); (case iQ=>k_exc)
   (case y_NoWeb=>k_is); (case o9=>k_exc)
   (case y_NoPlace=>k_is); (case j7=>k_exc)
   (case y_NoWay=>k_is); (case su=>k_exc)
   (case y_NoParting=>k_is); (case jG=>k_exc)
   (case y_TooMany=>k_is); (case mV=>k_exc)
   (case y_NoForest=>k_is); (case jz=>k_exc)
   (case y_NoPlan=>k_is); (case ou=>k_exc)
   (case y_NoOneWay=>k_is); (case jy=>k_exc)
   (case y_NoOrder=>k_is); (case mW=>k_exc)
   (case y_NoText=>k_is); (case oh=>k_exc)
   (case y_NoDeed=>k_is); (case pA=>k_exc)
   (case y_NoRow=>k_is); (case sy=>k_exc)
   (case cb=>kernel_rfl)
   any_goals k_is
