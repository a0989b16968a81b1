import PyProof.Rows.All
import Wide.All
import OpenK.AllK
import Wide.FinOn
import Lean
import PyProof.EqAt
import PyProof.EqKinds
import PyProof.TupleCall
import KE.KIntText
import KE.KSortKey
import KE.KSortTup
import PyProof.NeKinds
import KE.KItemsList
import PySem.Challenge.RW_roadshare_k84_a_desk_told
set_option Elab.async false
namespace PySem.W.Fast
def tw9655473814443706595:=()
def tw9448704415963274245:=()
def tw6190848815287644545:=()
def tw16490184160993164292:=()
def tw17061253969472829822:=()
def tw14690192066139913949:=()
def tw7464974841589514129:=()
def tw9281796171803384275:=()
def tw711325324908434979:=()
def tw16168398272405015471:=()
def tw12999713347404759158:=()
def tw5193234591468446214:=()
def tw6160447047090163070:=()
def tw3930636241405491446:=()
def tw8903258831151074820:=()
def tw14856044917903958515:=()
def tw6055713925907292856:=()
def tw2957813685684040166:=()
def tw3713993533896729637:=()
def tw15828234678809733138:=()
def tw15532903785919740390:=()
def tw15919703649937551018:=()
def tw2179848015843251784:=()
def tw8474364327609298208:=()
def tw2845733111961047069:=()
def tw6743577791006688469:=()
def tw15888244188602435094:=()
def tw9498315434455298259:=()
def tw4976437669336281472:=()
def tw15602584470700805033:=()
def tw3154228319620481176:=()
def tw1643852297953278022:=()
def tw8072610678820256617:=()
def tw11490732243043014389:=()
def tw5195739762614483469:=()
def tw18063534215034390340:=()
def tw2486321535384452268:=()
def tw11580531195347873392:=()
def tw10514383108109177264:=()
def tw13696633396047905985:=()
def tw5312936479383193328:=()
def tw17822292588751676355:=()
def tw2696749370626562254:=()
def tw11312541253688444334:=()
def tw3773629639052976474:=()
def tw4537109422285451145:=()
def tw7511832125496584798:=()
def tw1520539214458452446:=()
def tw9464327299648392600:=()
def tw736950529957463026:=()
def tw361949250840672456:=()
def tw18239089121201630839:=()
def tw14098663579489057815:=()
def tw8909460397616735346:=()
def tw13521281722304618564:=()
def tw8718263120486234568:=()
def tw6346575244172075322:=()
def tw10752716097174148536:=()
def tw17642199565764325127:=()
def tw10049335617796991638:=()
def tw18279056214052615695:=()
def tw15960267164636118307:=()
def tw16938595425315778570:=()
def tw5426026378634521872:=()
def tw17378965601541255313:=()
def tw3197425021825268592:=()
def tw7282758162789583312:=()
def tw2714207338460089979:=()
def tw13857673227460522351:=()
def tw14390046076867987122:=()
def tw7934335889841587253:=()
def tw12461029799761337601:=()
def tw6504473872918501402:=()
def tw4274654090320789247:=()
def tw11427961345073806293:=()
def tw12194041035026564083:=()
def tw474973252550617745:=()
def tw15546002490314237712:=()
def tw80644715800096796:=()
def tw10047617327283121169:=()
def tw14025376744175411161:=()
def tw6098175475661361694:=()
def tw8567704208888000169:=()
def tw6824686106164279556:=()
def tw17954800065183307129:=()
def tw7592708997308099682:=()
def tw9169690260559566917:=()
def tw12023493795634163217:=()
def tw14882576524090062963:=()
def tw177979066899267634:=()
def tw13689755633011893385:=()
def tw9397095047424330776:=()
def tw5585732208096902465:=()
def tw1021945561968501769:=()
def tw7279618595088977030:=()
def tw3511754174054620155:=()
def tw5953320151572180448:=()
def tw7663092194108083089:=()
def tw7178587170489750489:=()
def tw8396058017089782065:=()
def tw13902451835055632090:=()
def tw13485350314802455444:=()
def tw14710731260662458606:=()
def tw8417405690812974083:=()
def tw15067110013021762180:=()
def tw14399266822067669918:=()
def tw2858498070589572279:=()
def tw7062051125260290888:=()
def tw15313006110617225893:=()
def tw4891428705241284144:=()
def tw8444565009123716010:=()
def tw14953548497595285704:=()
def tw17541946611668763208:=()
def tw5493185612277528801:=()
def tw15412986805124843464:=()
def tw15337826977630212064:=()
def tw14057678969307583024:=()
def tw16398937817506175362:=()
def tw2675006470463154967:=()
def tw17709783118472611952:=()
def tw5108734988535320914:=()
def tw7498216940175057979:=()
def tw7725046006576427895:=()
def tw12633126697814987488:=()
def tw8547114670254400260:=()
def tw3141137576800463607:=()
def tw11597947600412396253:=()
def tw8699341351406313891:=()
def tw10102509003974892558:=()
def tw12695876332793191733:=()
def tw4613579444823888533:=()
def tw2485633638802904192:=()
def tw16732087195337154202:=()
def tw16320265423416586259:=()
def tw4676396518883623030:=()
def tw2609223713277284319:=()
def tw7650748911911225014:=()
def tw6635150306050040997:=()
def tw14369744621594961255:=()
def tw922953803026592568:=()
def tw13693442238975208097:=()
def tw13884959609248828232:=()
def tw5918118916268345977:=()
def tw17286602487704413596:=()
def tw14025733938932044921:=()
def tw1389970254763079014:=()
def tw6834382641294761247:=()
def tw11662900351168207079:=()
def tw6354053364266391404:=()
def tw5659668939561166269:=()
def tw6546743501087669992:=()
def tw14439355458791531886:=()
def tw8156419462394046148:=()
def tw18247803341706271928:=()
def tw13843551742761370963:=()
def tw10449910599302821083:=()
def tw17784666454647155035:=()
def tw13022238205952779017:=()
def tw3852329193177297170:=()
def tw7026047613221499827:=()
def tw2304837236229811735:=()
def tw11056047016820488603:=()
def tw4729685983397944533:=()
def tw2077912130661847055:=()
def tw11160455482496022732:=()
def tw13411754101882767602:=()
def tw17787952494964854669:=()
def tw10357008320929727311:=()
def tw6031801450146287866:=()
def tw10826976551423410608:=()
def tw1941103032914693588:=()
def tw13408740678850415897:=()
def tw12611975163809540425:=()
def tw9165047217126326819:=()
def tw4863911830393491451:=()
def tw7259846436080362805:=()
def tw4389993493384935795:=()
def tw15228126681977486724:=()
def tw13486398827274218256:=()
def tw7001048417959742662:=()
def tw5654059463891835324:=()
def tw12812995679842154341:=()
def tw5775898649660052252:=()
def tw5282027999419127851:=()
def tw1710513063436005931:=()
def tw13225202170405610455:=()
def tw10932283684524895494:=()
def tw753463178128040643:=()
def tw3579359067705501340:=()
def tw16325308442201981676:=()
def tw13590788248464250977:=()
def tw3144162450769354496:=()
def tw10596515520315166458:=()
def tw2066226922745453933:=()
def tw10984891077447211207:=()
def tw13998455296571123129:=()
def tw9006775487362171119:=()
def tw12114691274504366848:=()
def tw16545897233959880905:=()
def tw3386926535807726952:=()
def tw15514896711095909692:=()
def tw10396254062022888469:=()
def tw8211101294483718767:=()
def tw16963333171643833370:=()
def tw16553393404863850456:=()
def tw13565802192066389934:=()
def tw7489158094992975010:=()
def tw4348958378397948465:=()
def tw6037778304643609798:=()
def tw8351821100474874864:=()
def tw12477856830030804590:=()
def tw3229220320067700561:=()
def tw12012026752617121888:=()
def tw5577734804221773782:=()
def tw15213897128810377932:=()
def tw10337431850466772511:=()
def tw13086876839057335635:=()
def tw4952363172359732233:=()
def tw10994085340795772970:=()
def tw17908839154250806213:=()
def tw15721369554863130644:=()
def tw9965165795609654928:=()
def tw13212513662577776804:=()
def tw3365188889801432182:=()
def tw14751369575055239397:=()
def tw18428994380634746085:=()
def tw15782099336185912942:=()
def tw16305967733861339408:=()
def tw12801190161435555160:=()
def tw18422687452262481113:=()
def tw9055211871541037698:=()
def tw11140169579011236361:=()
def tw1367541859854802538:=()
def tw5674974045986701028:=()
def tw8472694679457897791:=()
def tw17856691915091731478:=()
def tw2672362028929667955:=()
def tw11640198281527707584:=()
def tw5462025453708902449:=()
def tw13905272714319416546:=()
def tw14132504668909204442:=()
def tw11991306383110078134:=()
def tw11811721365447938480:=()
def tw5408925570594718735:=()
def tw5445111213856572432:=()
def tw2353680151731599512:=()
def tw16192349475698247939:=()
def tw11079622595915387475:=()
def tw17045246825734972828:=()
def tw6845370571535507791:=()
def tw2925907484628366880:=()
def tw3325340747743023129:=()
def tw8768534821219616963:=()
def tw1564453191027462536:=()
def tw5383119540138916965:=()
def tw16504875373705963091:=()
def tw10868982867929097415:=()
def tw4232288119798416434:=()
def tw1386289655360176166:=()
def tw14131151866564645792:=()
def tw9235788736955363964:=()
def tw13052279366545876063:=()
def tw4949792021300851184:=()
def tw3824316289796644221:=()
def tw17952553574109916973:=()
def tw6891805706865824770:=()
def tw9116046144002878577:=()
def tw2265096003439684057:=()
def tw4411989760057234304:=()
def tw17183822437976824421:=()
def tw11937492714866973342:=()
def tw14427657853441263206:=()
def tw15470339474662922136:=()
def tw17920534890678271740:=()
def tw11919188816199583443:=()
def tw15244162834279491250:=()
def tw6740740407294420725:=()
def tw13723876428548946625:=()
def tw7661211317515934119:=()
def tw2677596125560721447:=()
def tw12983909042770362057:=()
def tw15321945448159253742:=()
def tw17194002363028632067:=()
def tw3709509247054803735:=()
def tw2253054176754485155:=()
def tw7819477904109955857:=()
def tw17686376454640144211:=()
def tw6836234708862226705:=()
def tw13507189342247150872:=()
def tw8527995205636930910:=()
def tw1308782374402281848:=()
def tw1997446262710135093:=()
def tw3393420631504432742:=()
def tw4414285513125745470:=()
def tw6555410181297610874:=()
def tw3443611244825728987:=()
def tw16959408684850981806:=()
def tw1240973048268468188:=()
def tw13500249203813125253:=()
def tw592557916877377396:=()
def tw8324067946879457408:=()
def tw6978806429131016496:=()
def tw8656651955853252017:=()
def tw683579217155670341:=()
def tw17263399483798351696:=()
def tw4328556785918306030:=()
def tw11133607111744373160:=()
def tw3924158350060191731:=()
def tw18279643604137976465:=()
def tw3199347736107058298:=()
def tw320607819985134736:=()
def tw17355813114412271829:=()
def tw11687019231360702849:=()
def tw15517525607652135478:=()
def tw17096496154153097290:=()
def tw11392750376271290497:=()
def tw5729931505422666346:=()
def tw12420723910607611669:=()
def tw14602135448921082318:=()
def tw14321590607286955281:=()
def tw14582408445896548870:=()
def tw4436712364952755970:=()
def tw9847262674940404542:=()
def tw6817859392010206308:=()
def tw7287696248348756947:=()
def tw5170712623952647692:=()
def tw10886940054504479983:=()
def tw17019273623915972009:=()
def tw15951134161536851049:=()
def tw9223002718872235396:=()
def tw18115160504172478878:=()
def tw11650348625600487143:=()
def tw4517276846724168324:=()
def tw3025949312941892408:=()
end PySem.W.Fast
set_option maxRecDepth 100000 in
set_option maxHeartbeats 0 in
open_top My.hd for PySem.Challenge.rw_roadshare_k84_a_desk_told
open PySem.W (instObj methodObj hideAll hideAll_get of_hideAll lookIn plainGet hasDictIn handedIn plainGet_of isFn plainOver takerIn makesIn emptyDict keepIn kitOne kia_one kitx_list kitx_dict callWith_K methodCall_KW cellsFrom_some fnOf codeIn excIn exmOne kdl_call kdl_dict KeqHits codeHdIn codeHd_of_K nsIn mg_of mg_none_of km_in_of)
abbrev Ya:=@PySem.wpAny_bind
abbrev Yb:=@List.getElem?_eq_getElem
abbrev Yc:=@PySem.wpAny_pure
abbrev Yd:=@Nat.le_refl
abbrev Ye:=@PySem.Heap.lt_size
abbrev Yf:=@List.getElem?_eq_some_iff
abbrev Yg:=@List.length_map
abbrev Yh:=@List.getElem?_map
abbrev Yi:=@PySem.Heap.get?_push_of_some
abbrev Yj:=@Nat.le_trans
abbrev Yk:=@PySem.wpAny_mono
abbrev Yl:=@Nat.lt_of_lt_of_le
abbrev Ym:=@List.mem_cons
abbrev Yn:=@Nat.ne_of_lt
abbrev Yo:=@List.mem_map
abbrev Yp:=@decide_eq_false
abbrev Yq:=@List.map_cons
abbrev Yr:=@Bool.false_ne_true
abbrev Ys:=@Int.emod_nonneg
abbrev Yt:=@decide_eq_true
abbrev Yu:=@Int.emod_lt_of_pos
abbrev Yv:=@PySem.Heap.get?_push_size
abbrev Yw:=@List.mem_append_right
abbrev Yx:=@List.mem_of_getElem?
abbrev Yy:=@List.getElem_mem
abbrev Yz:=@List.mem_append
abbrev YA:=@List.size_toArray
abbrev YB:=@Option.some.inj
abbrev YC:=@Nat.zero_le
abbrev YD:=@List.getElem?_append_left
abbrev YE:=@Nat.lt_irrefl
abbrev YF:=@Nat.le_of_lt
abbrev YG:=@PySem.wpAny_truthy_bool
abbrev YH:=@List.length_cons
abbrev YI:=@List.mem_range
abbrev YJ:=@PySem.wpAny_holding
abbrev YK:=@List.getElem?_append_right
abbrev YL:=@List.length_append
abbrev YM:=@PySem.PassesOwn.never
abbrev YN:=@PySem.mem_of_lookup
abbrev YO:=@Array.length_toList
abbrev YQ:=@List.map_map
abbrev YR:=@PySem.codeAny_mono
abbrev YS:=@Option.map_eq_some_iff
abbrev YT:=@List.getElem?_of_mem
abbrev YU:=@List.length_take
abbrev YV:=@List.getElem?_set_self
abbrev YW:=@List.getElem?_eq_none
abbrev YX:=@PySem.Calls.callWith_builtin
abbrev YY:=@List.getElem?_set_ne
abbrev YZ:=@Nat.lt_of_le_of_lt
abbrev Y0:=@List.mem_singleton
abbrev Y1:=@PySem.wpAny_passesOwn
abbrev Y2:=@PySem.sizeLine_eq
abbrev Y3:=@beq_iff_eq
abbrev Y4:=@List.mem_cons_of_mem
abbrev Y5:=@beq_eq_false_iff_ne
abbrev Y6:=@PySem.Calls.evalArgs_plain
abbrev Y7:=@List.ext_getElem?
abbrev Y8:=@PySem.Calls.spliced_cons
abbrev Y9:=@PySem.wpAny_newObj_type
abbrev Va:=@PySem.wpAny_execs_nil
abbrev Vb:=@PySem.wpAny_Call_Name_kw
abbrev Vc:=@Bool.and_eq_true
abbrev Vd:=@PySem.Calls.spliced_nil
abbrev Ve:=@Bool.eq_iff_iff
abbrev Vf:=@PySem.wpAny_call_entry
abbrev Vg:=@PySem.W.KasT.kasWp_bind
abbrev Vh:=@Nat.le_of_eq
abbrev Vi:=@Int.gcd_pos_of_ne_zero_right
abbrev Vj:=@PyProof.Rows.callWith_type1
abbrev Vk:=@Classical.byContradiction
abbrev Vl:=@List.Nodup.idxOf_getElem
abbrev Vm:=@PySem.Heap.get?_update_other
abbrev Vn:=@Rat.num_divInt_den
abbrev Vo:=@PySem.wpAny_tupleItemsOf
abbrev Vp:=@Nat.le_add_right
abbrev Vq:=@List.nodup_cons
abbrev Vr:=@List.mem_filter
abbrev Vs:=@List.append_nil
abbrev Vt:=@List.map_congr_left
abbrev Vu:=@List.getElem?_range
abbrev PySem.VSP:=PySem.Value->PySem.Shared->Prop
set_option Elab.async false
set_option linter.all false
set_option maxRecDepth 100000
namespace L2
open PySem PySem.Spec PyProof.Rows
abbrev Z7:=Sum Int Str
def ZhQ:Z7->Value->Bool
 | .inl k,v=>Value.isInt k v
 | .inr x,v=>Value.isStrOf x v
def JG(w:World):Z7->Int
 | .inl k=>hashInt k
 | .inr x=>hashStr w x
def ZaD:∀ {k:Z7}{v:Value},ZhQ k v=true->(∃ i t,k=Sum.inl i/\v=Value.int i t)\/(∃ x t,k=Sum.inr x/\v=Value.str x t)
 | .inl i,v,h=>by
  obtain⟨t,e⟩:=Value.isInt_shape (k:=i) (v:=v) h
  exact .inl ⟨i,t,rfl,e⟩
 | .inr x,v,h=>by
  obtain⟨t,e⟩:=Value.isStrOf_shape (x:=x) (v:=v) h
  exact .inr ⟨x,t,rfl,e⟩
theorem Zlq(i:Int)(t:Tok):ZhQ (.inl i) (.int i t)=true:=by simp [ZhQ,Value.isInt]
theorem ZY(x:Str)(t:Tok):ZhQ (.inr x) (.str x t)=true:=by simp [ZhQ,Value.isStrOf]
def Zs8(a b:Int):decide ((Sum.inl a:Z7)=Sum.inl b)=(a == b):=by
 by_cases e:a=b
 ·subst e; simp
 ·have h:¬ (Sum.inl a:Z7)=Sum.inl b:=λq=>e (Sum.inl.inj q)
  rw [Yp h]
  exact (Y5.mpr e).symm
def ZsX(a b:Str):decide ((Sum.inr a:Z7)=Sum.inr b)=decide (a=b):=by
 by_cases e:a=b
 ·subst e; simp
 ·have h:¬ (Sum.inr a:Z7)=Sum.inr b:=λq=>e (Sum.inr.inj q)
  rw [Yp h,Yp e]
def Zsh(a:Int)(b:Str):decide ((Sum.inl a:Z7)=Sum.inr b)=false:=Yp (λq=>nomatch q)
def ZrB(a:Str)(b:Int):decide ((Sum.inr a:Z7)=Sum.inl b)=false:=Yp (λq=>nomatch q)
def ZU(prog:Program)(w:World):PySem.KeyKind prog w Z7 where
 is:=ZhQ
 hash:=JG w
 inj:=λv a b ha hb=>by
  rcases ZaD ha with ⟨i,t,rfl,rfl⟩ | ⟨x,t,rfl,rfl⟩
  ·rcases ZaD hb with ⟨j,u,rfl,e⟩ | ⟨y,u,rfl,e⟩
   ·injection e with e1 _; rw [e1]
   ·exact nomatch e
  ·rcases ZaD hb with ⟨j,u,rfl,e⟩ | ⟨y,u,rfl,e⟩
   ·exact nomatch e
   ·injection e with e1 _; rw [e1]
 byValue:=λk v h=>by
  rcases ZaD h with ⟨i,t,rfl,rfl⟩ | ⟨x,t,rfl,rfl⟩ <;> rfl
 pyHash:=λhv h=>by
  rcases ZaD hv with ⟨i,t,rfl,rfl⟩ | ⟨x,t,rfl,rfl⟩
  ·exact wpAny_pyHash_int h
  ·exact wpAny_pyHash_str h
 eqBool:=λhu hv h=>by
  rcases ZaD hu with ⟨i,t,rfl,rfl⟩ | ⟨x,t,rfl,rfl⟩
  ·rcases ZaD hv with ⟨j,u,rfl,rfl⟩ | ⟨y,u,rfl,rfl⟩
   ·rw [Zs8] at h; exact wpAny_eqBool_int h
   ·rw [Zsh] at h; exact SeqAt.EqAt.int_str i t y u _ _ _ _ h
  ·rcases ZaD hv with ⟨j,u,rfl,rfl⟩ | ⟨y,u,rfl,rfl⟩
   ·rw [ZrB] at h; exact SeqAt.EqAt.str_int x t j u _ _ _ _ h
   ·rw [ZsX] at h; exact wpAny_eqBool_str h
 «strs»:=λk x t v h=>by
  rcases ZaD h with ⟨i,u,rfl,e⟩ | ⟨y,u,rfl,e⟩
  ·exact nomatch e
  ·injection e with e1 _
   subst e1
   cases v <;> rfl
def ZiZ(prog:Program)(w:World)(i:Int)(t:Tok):(ZU prog w).is (.inl i) (.int i t)=true:=Zlq i t
def Zic(prog:Program)(w:World)(x:Str)(t:Tok):(ZU prog w).is (.inr x) (.str x t)=true:=ZY x t
inductive V where
 | non | bl (b:Bool) | int (i:Int) | str (x:Str) | byt (b:Array UInt8) | flt (b:UInt64) | ref (a:Addr) | ty (n:String)
 deriving DecidableEq
def ZH:V->Value->Prop
 | .non,u=>u=Value.none
 | .bl b,u=>u=Value.bool b
 | .int i,u=>∃ t,u=Value.int i t
 | .str x,u=>∃ t,u=Value.str x t
 | .byt b,u=>∃ t,u=Value.bytes b t
 | .flt b,u=>∃ t,u=Value.float b t
 | .ref a,u=>u=Value.ref a
 | .ty n,u=>u=Value.type n
abbrev ZB:List V->List Value->Prop:=Paired ZH
variable {us:List Value}
theorem ZB.length{xs:List V}(r:ZB xs us):xs.length=us.length:=Paired.length r
theorem ZB.get:∀ {xs:List V}{us:List Value}{i:Nat}{x:V},ZB xs us->xs[i]?=some x->∃ u,us[i]?=some u/\ZH x u
 | _,_,_,_,.nil,e=>by simp at e
 | _,_,0,_,.cons r _,e=>by simp at e; subst e; exact⟨_,rfl,r⟩
 | _,_,i + 1,x,.cons _ t,e=>by
  obtain⟨u,h1,h2⟩:=ZB.get (i:=i) (x:=x) t (by simpa using e)
  exact⟨u,by simpa using h1,h2⟩
variable {u:Value}
theorem ZB.set{x:V}(r:ZH x u):∀ {xs:List V}{us:List Value}(i:Nat),ZB xs us->ZB (xs.set i x) (us.set i u)
 | _,_,_,.nil=>.nil
 | _,_,0,.cons _ t=>.cons r t
 | _,_,i + 1,.cons q t=>.cons q (ZB.set r i t)
theorem ZB.append:∀ {xs ys:List V}{us ws:List Value},ZB xs us->ZB ys ws->ZB (xs ++ ys) (us ++ ws)
 | _,_,_,_,.nil,s=>s
 | _,_,_,_,.cons r t,s=>.cons r (ZB.append t s)
theorem ZB.take:∀ {xs:List V}{us:List Value}(n:Nat),ZB xs us->ZB (xs.take n) (us.take n)
 | _,_,0,_=>.nil
 | _,_,_ + 1,.nil=>.nil
 | _,_,n + 1,.cons r t=>.cons r (ZB.take n t)
def ZB.drop:∀ {xs:List V}{us:List Value}(n:Nat),ZB xs us->ZB (xs.drop n) (us.drop n)
 | _,_,0,r=>r
 | _,_,_ + 1,.nil=>.nil
 | _,_,n + 1,.cons _ t=>ZB.drop n t
def ZB.none_of:∀ {xs:List V}{us:List Value}{i:Nat},ZB xs us->xs[i]?=none->us[i]?=none:=λ{xs us i} r e=>by
 have h1:=r.length
 have h2:xs.length<=i:=List.getElem?_eq_none_iff.mp e
 exact List.getElem?_eq_none_iff.mpr (by omega)
def J1:Option V->Option Value->Prop
 | some v,some u=>ZH v u
 | none,none=>True
 | _,_=>False
def KV{κ:Type}:List (κ × V)->List (κ × Value)->Prop:=Paired λ(p:κ × V) (q:κ × Value)=>p.1=q.1/\ZH p.2 q.2
def kV:Z7->V
 | .inl i=>.int i
 | .inr x=>.str x
inductive HO where
 | lst (xs:List V)
 | tup (xs:List V)
 | dK (kvs:List (Z7 × V)) | dT (kvs:List (List Z7 × V))
 | set (S:Int->Bool) (n:Nat)
 | ins (C dx:Addr) (fs:List (Str × V))
 | own (x:Addr)
 | xd (fs:List (Str × V))
 | met (f x:Addr)
 | rng (lo hi:Int)
 | frz (o:Obj) (u:HO)
 | tbl (ps:Array Value)
 | ext (φ:Heap->Prop)
abbrev Hp:=Addr->Option HO
def upd(H:Hp)(a:Addr)(o:HO):Hp:=λb=>if b=a then some o else H b
variable {H:Hp}
theorem Zl{a:Addr}{o:HO}:upd H a o a=some o:=by unfold upd; rw [if_pos rfl]
theorem Zj{a b:Addr}{o:HO}(h:b ≠ a):upd H a o b=H b:=by unfold upd; rw [if_neg h]
def JD{a b:Addr}{o u:HO}(h:H a=some o)(h':H b=some u)(d:o ≠ u):a ≠ b:=by
 intro e; subst e; rw [h] at h'; exact d (YB h')
theorem Ze{a b:Addr}{o:HO}(h:H a=some o)(h':H b=none):a ≠ b:=by
 intro e; subst e; rw [h] at h'; cases h'
section
variable (P:Program)(w:World)
def Ja(H:Hp)(h:Heap)(a:Addr):HO->Prop
 | .lst xs=>xs.length<=sizeLine/\∃ (its:List Value) (n:Nat),ZB xs its/\h.get? a=some { cls:=.type "list",data:=.seq its.toArray n }
 | .tup xs=>xs.length<=sizeLine/\∃ its:List Value,ZB xs its/\IsTup h a its.toArray
 | .dK kvs=>kvs.length<=sizeLine/\(a == sysModules)=false/\∃ vs,KV kvs vs/\h.DictOf (ZU P w) a vs
 | .dT kvs=>kvs.length<=sizeLine/\(a == sysModules)=false/\∃ xs:List (List Z7 × Addr × Value),
   Paired (λ(p:List Z7 × V) (q:List Z7 × Addr × Value)=>p.1=q.1/\H q.2.1=some (.tup (p.1.map kV))/\ZH p.2 q.2.2) kvs xs /\
   ∃ o es ep,h.get? a=some o/\o.ExactDict/\o.data=.dict es ep/\es.toList=xs.map (entryOfKey (tupleKind (ZU P w)))/\(xs.map (·.1)).Nodup
 | .set S n=>h.SetOf (intKind P w) a S n
 | .ins C dx fs=>H dx=some (.own a)/\fs.length<=1000/\dx ≠ a/\h.get? a=some (instObj C dx) /\
   ∃ mA,h.Ns1 dx mA/\(∀ f,J1 (fs.lookup f) (mA f))/\PySem.Within mA (fs.map (·.1))
 | .own _=>∃ o,h.get? a=some o
 | .xd fs=>∃ mA,h.Ns1 a mA/\∀ f,J1 (fs.lookup f) (mA f)
 | .rng lo hi=>∃ t u v,h.get? a=some { cls:=.type "range",data:=.fields #[.int lo t,.int hi u,.int 1 v] }
 | .frz o u=>h.get? a=some o/\Ja H h a u
 | .tbl ps=>∃ qs:Array Value,h.get? a=some { cls:=.none,data:=.fields qs }/\TriplesOk qs.toList/\∀ (pos:Pos) (v:Value),codeAmong pos qs.toList=some v ->
   ∃ (c:Addr) (o:Obj) (vs:Array Value) (q:Str) (t t':Tok),v=.ref c/\H c=some (.frz o (.own a))/\o.data=.fields vs/\vs[1]?=some (.str q t)/\ps[0]?=some (.str q t')
 | .met f x=>h.get? a=some (methodObj (.ref f) (.ref x))
 | .ext φ=>φ h/\(∃ o,h.get? a=some o)/\∀ h1 h2:Heap,φ h1->(∀ o,h1.get? a=some o->h2.get? a=some o)->φ h2
def HOk(H:Hp)(h:Heap):Prop:=∀ a o,H a=some o->Ja P w H h a o
end
section
variable {P:Program}{w:World}{H H':Hp}{h h':Heap}{a:Addr}{o:HO}
theorem Ja.lt(x:Ja P w H h a o):a < h.objs.size:=by
 cases o with
 | lst xs=>obtain⟨_,_,_,_,e⟩:=x; exact Ye e
 | tup xs=>obtain⟨_,_,_,p⟩:=x; exact p.lt
 | dK kvs=>obtain⟨_,_,_,_,o,_,_,e,_⟩:=x; exact Ye e
 | dT kvs=>obtain⟨_,_,_,_,o,_,_,e,_⟩:=x; exact Ye e
 | set S n=>obtain⟨o,_,_,_,e,_⟩:=x; exact Ye e
 | ins C dx fs=>obtain⟨_,_,_,e,_⟩:=x; exact Ye e
 | own y=>obtain⟨_,e⟩:=x; exact Ye e
 | xd fs=>obtain⟨_,⟨_,_,_,e,_⟩,_⟩:=x; exact Ye e
 | rng lo hi=>obtain⟨_,_,_,e⟩:=x; exact Ye e
 | frz ob u=>obtain⟨e,_⟩:=x; exact Ye e
 | tbl ps=>obtain⟨_,e,_⟩:=x; exact Ye e
 | met f y=>exact Ye (show h.get? a=some _ from x)
 | ext φ=>obtain⟨_,⟨_,e⟩,_⟩:=x; exact Ye e
def Paired.mapP{α β:Type}{F G:α->β->Prop}:∀ {l₁:List α}{l₂:List β},Paired F l₁ l₂->(∀ a b,F a b->G a b)->Paired G l₁ l₂
 | _,_,.nil,_=>.nil
 | _,_,.cons r t,f=>.cons (f _ _ r) (Paired.mapP t f)
def Ja.stay(x:Ja P w H h a o)(k:∀ b u,(b=a\/H b=some (.own a))->h.get? b=some u->h'.get? b=some u)
  (ho:∀ b,H b=some (.own a)->H' b=some (.own a)) (ht:∀ b xs,H b=some (.tup xs)->H' b=some (.tup xs))
  (hf:∀ b o,H b=some (.frz o (.own a))->H' b=some (.frz o (.own a)):=by exact λ_ _ q=>q):Ja P w H' h' a o:=by
 induction o with
 | lst xs=>obtain⟨z,its,n,r,e⟩:=x; exact⟨z,its,n,r,k _ _ (.inl rfl) e⟩
 | tup xs=>obtain⟨z,its,r,ob,e,c⟩:=x; exact⟨z,its,r,ob,k _ _ (.inl rfl) e,c⟩
 | dK kvs=>obtain⟨z,y,vs,r,ob,es,ep,e,c⟩:=x; exact⟨z,y,vs,r,ob,es,ep,k _ _ (.inl rfl) e,c⟩
 | dT kvs =>
  obtain⟨z,y,xs,r,ob,es,ep,e,c⟩:=x
  exact⟨z,y,xs,Paired.mapP r λp q z=>⟨z.1,ht _ _ z.2.1,z.2.2⟩,ob,es,ep,k _ _ (.inl rfl) e,c⟩
 | set S n=>obtain⟨ob,es,ep,t,e,c⟩:=x; exact⟨ob,es,ep,t,k _ _ (.inl rfl) e,c⟩
 | ins C dx fs =>
  obtain⟨d,z,ne,e,mA,⟨od,es,ep,e2,c⟩,r⟩:=x
  exact⟨ho _ d,z,ne,k _ _ (.inl rfl) e,mA,⟨od,es,ep,k _ _ (.inr d) e2,c⟩,r⟩
 | own y=>obtain⟨ob,e⟩:=x; exact⟨ob,k _ _ (.inl rfl) e⟩
 | xd fs=>obtain⟨mA,⟨od,es,ep,e,c⟩,r⟩:=x; exact⟨mA,⟨od,es,ep,k _ _ (.inl rfl) e,c⟩,r⟩
 | rng lo hi=>obtain⟨t,u,v,e⟩:=x; exact⟨t,u,v,k _ _ (.inl rfl) e⟩
 | frz ob u ih=>obtain⟨e,q⟩:=x; exact⟨k _ _ (.inl rfl) e,ih q⟩
 | tbl ps =>
  obtain⟨qs,e,t,f⟩:=x
  exact⟨qs,k _ _ (.inl rfl) e,t,λpos v z=>by
   obtain⟨c,o,vs,q,t,t',e1,e2,r⟩:=f pos v z
   exact⟨c,o,vs,q,t,t',e1,hf _ _ e2,r⟩⟩
 | met f y =>
  have e:h.get? a=some (methodObj (.ref f) (.ref y)):=x
  show h'.get? a=some (methodObj (.ref f) (.ref y))
  exact k a _ (.inl rfl) e
 | ext φ=>obtain⟨p,⟨o,e⟩,st⟩:=x; exact⟨st _ _ p λo q=>k _ _ (.inl rfl) q,⟨o,k _ _ (.inl rfl) e⟩,st⟩
theorem HOk.lt(x:HOk P w H h)(e:H a=some o):a < h.objs.size:=(x a o e).lt
theorem HOk.fresh(x:HOk P w H h)(e:h.objs.size<=a):H a=none:=by
 cases q:H a with
 | none=>rfl
 | some u=>exact absurd (Yl (x.lt q) e) (YE _)
theorem HOk.kept(x:HOk P w H h)(k:∀ b u,h.get? b=some u->h'.get? b=some u):HOk P w H h':=λa o e =>
 (x a o e).stay (λb u _ q=>k b u q) (λ_ q=>q) λ_ _ q=>q
theorem HOk.laid(x:HOk P w H h)(k:∀ b u,h.get? b=some u->h'.get? b=some u)(hp:h.objs.size<=a)(new:Ja P w (upd H a o) h' a o):HOk P w (upd H a o) h':=λb u e=>by
 have hn:=x.fresh hp
 by_cases hb:b=a
 ·subst hb; rw [Zl] at e; cases e; exact new
 ·rw [Zj hb] at e
  exact (x b u e).stay (λc v _ q=>k c v q) (λc q=>by rw [Zj (Ze q hn)]; exact q) (λc xs q=>by rw [Zj (Ze q hn)]; exact q) λc o q=>by rw [Zj (Ze q hn)]; exact q
end
def Rd(H:Hp)(a:Addr)(u:HO):Prop:=H a=some u\/∃ o,H a=some (.frz o u)
theorem Rd.of{a:Addr}{u:HO}(h:H a=some u):Rd H a u:=.inl h
variable {P:Program}{w:World}
theorem Rd.ok{h:Heap}{a:Addr}{u:HO}(r:Rd H a u)(x:HOk P w H h):Ja P w H h a u:=by
 rcases r with r | ⟨o,r⟩
 ·exact x a u r
 ·obtain⟨_,q⟩:=x a _ r
  exact q
def Mut:Option HO->Prop
 | some (.lst _)=>True
 | some (.dK _)=>True
 | some (.dT _)=>True
 | some (.set _ _)=>True
 | some (.ins _ _ _)=>True
 | some (.ext _)=>True
 | _=>False
section
variable {P:Program}{w:World}{H:Hp}{h h':Heap}{x e:Addr}{o':HO}
def HOk.write(ok:HOk P w H h)(mu:Mut (H x))(he:e=x\/H e=some (.own x))(k:∀ b u,b ≠ e->h.get? b=some u->h'.get? b=some u)(heo:∃ u,h'.get? e=some u)
  (new:Ja P w (upd H x o') h' x o'):HOk P w (upd H x o') h':=λb u q=>by
 have nown:∀ c y,H c=some (.own y)->c ≠ x:=λc y r z=>by subst z; rw [r] at mu; exact mu
 have ntup:∀ c xs,H c=some (.tup xs)->c ≠ x:=λc xs r z=>by subst z; rw [r] at mu; exact mu
 by_cases hb:b=x
 ·subst hb; rw [Zl] at q; cases q; exact new
 ·rw [Zj hb] at q
  by_cases hbe:b=e
  ·have q':H b=some (.own x):=by
    rcases he with z | z
    ·exact absurd (hbe.trans z) hb
    ·rw [hbe]; exact z
   rw [q] at q'; cases q'
   obtain⟨v,hv⟩:=heo
   exact⟨v,by rw [hbe]; exact hv⟩
  ·refine (ok b u q).stay (λc v hc r=>k c v ?_ r) (λc r=>by rw [Zj (nown c b r)]; exact r) (λc xs r=>by rw [Zj (ntup c xs r)]; exact r) λc o r=>by rw [Zj λz=>by subst z; rw [r] at mu; exact mu]; exact r
   rcases hc with rfl | hc
   ·exact hbe
   ·rintro rfl
    rcases he with z | z
    ·exact nown c b hc z
    ·rw [hc] at z; cases z; exact hb rfl
end
structure Un(fs ex:List Addr)(H H':Hp)(h h':Heap):Prop where
 keep:∀ b o,h.get? b=some o->H b=none->b ∉ fs->b ∉ ex->h'.get? b=some o
 slot:∀ b o,h.get? b=some o->H b=none->b∈fs->b ∉ ex->∃ sl,h'.get? b=some { o with slots:=sl }
 free:∀ b o,h.get? b=some o->H b=none->b ∉ ex->H' b=none
 there:∀ b o,h.get? b=some o->b ∉ ex->∃ o',h'.get? b=some o'
 tups:∀ b xs,H b=some (.tup xs)->H' b=some (.tup xs)
 frzs:∀ b o u,H b=some (.frz o u)->H' b=some (.frz o u)
 tbls:∀ b ps,H b=some (.tbl ps)->∃ more,H' b=some (.tbl (ps ++ more))
section
variable {fs fs' ex ex':List Addr}{H H1 H2:Hp}{h h1 h2 h':Heap}{a x e:Addr}{o:HO}
theorem Un.any(u:Un fs ex H H1 h h1){b:Addr}{ob:Obj}(q:h.get? b=some ob)(n:H b=none)(hx:b ∉ ex):∃ sl,h1.get? b=some { ob with slots:=sl }:=by
 by_cases hb:b∈fs
 ·exact u.slot b ob q n hb hx
 ·exact⟨ob.slots,u.keep b ob q n hb hx⟩
theorem Un.trans(a:Un fs ex H H1 h h1)(b:Un fs ex H1 H2 h1 h2):Un fs ex H H2 h h2 where
 keep:=λc ob q n hc hx=>b.keep c ob (a.keep c ob q n hc hx) (a.free c ob q n hx) hc hx
 slot:=λc ob q n hc hx=>by
  obtain⟨sl,e1⟩:=a.slot c ob q n hc hx
  obtain⟨sl',e2⟩:=b.slot c _ e1 (a.free c ob q n hx) hc hx
  exact⟨sl',e2⟩
 free:=λc ob q n hx=>by
  obtain⟨o',e1⟩:=a.there c ob q hx
  exact b.free c o' e1 (a.free c ob q n hx) hx
 there:=λc ob q hx=>by
  obtain⟨o',e1⟩:=a.there c ob q hx
  exact b.there c o' e1 hx
 tups:=λc xs q=>b.tups c xs (a.tups c xs q)
 frzs:=λc ob xs q=>b.frzs c ob xs (a.frzs c ob xs q)
 tbls:=λc ps q=>by
  obtain⟨m1,e1⟩:=a.tbls c ps q
  obtain⟨m2,e2⟩:=b.tbls c _ e1
  exact⟨m1 ++ m2,by rw [e2,Array.append_assoc]⟩
theorem Un.kept(k:∀ b u,h.get? b=some u->h'.get? b=some u):Un fs ex H H h h' :=
 ⟨λb ob q _ _ _=>k b ob q,λb ob q _ _ _=>⟨ob.slots,k b ob q⟩,λ_ _ _ n _=>n,λb ob q _=>⟨ob,k b ob q⟩,λ_ _ q=>q,λ_ _ _ q=>q,λ_ ps q=>⟨#[],by rw [q]; simp⟩⟩
def Un.refl:Un fs ex H H h h:=Un.kept λ_ _ q=>q
theorem Un.laid(k:∀ b u,h.get? b=some u->h'.get? b=some u)(hp:h.objs.size<=a)(hn:H a=none):Un fs ex H (upd H a o) h h' where
 keep:=λb u q _ _ _=>k b u q
 slot:=λb u q _ _ _=>⟨u.slots,k b u q⟩
 free:=λb u q n _=>by rw [Zj (Yn (Yl (Ye q) hp))]; exact n
 there:=λb u q _=>⟨u,k b u q⟩
 tups:=λb xs q=>by rw [Zj (Ze q hn)]; exact q
 frzs:=λb u xs q=>by rw [Zj (Ze q hn)]; exact q
 tbls:=λb ps q=>⟨#[],by rw [Zj (Ze q hn),q]; simp⟩
def Un.write(mu:Mut (H x))(he:e=x\/H e=some (.own x))(k:∀ b u,b ≠ e->h.get? b=some u->h'.get? b=some u)(heo:∃ u,h'.get? e=some u):Un fs ex H (upd H x o) h h':=by
 have hx:∀ b,H b=none->b ≠ x:=λb n z=>by subst z; rw [n] at mu; exact mu
 have hb:∀ b,H b=none->b ≠ e:=λb n z=>by
  subst z
  rcases he with r | r
  ·exact hx b n r
  ·rw [n] at r; cases r
 have hm:∀ b u,H b=some u->¬ Mut (some u)->b ≠ x:=λb u q nm z=>by subst z; rw [q] at mu; exact nm mu
 refine⟨λb u q n _ _=>k b u (hb b n) q,λb u q n _ _=>⟨u.slots,k b u (hb b n) q⟩,λb u q n _=>by rw [Zj (hx b n)]; exact n,λb u q _=>?_,
  λb xs q=>by rw [Zj (hm b _ q λz=>z)]; exact q,λb u xs q=>by rw [Zj (hm b _ q λz=>z)]; exact q,λb ps q=>⟨#[],by rw [Zj (hm b _ q λz=>z),q]; simp⟩⟩
 by_cases hbe:b=e
 ·subst hbe; exact heo
 ·exact⟨u,k b u hbe q⟩
theorem Un.mono(u:Un fs ex H H1 h h1)(hs:∀ b∈fs,b∈fs')(hx:∀ b∈ex,b∈ex'):Un fs' ex' H H1 h h1 :=
 ⟨λb ob q n hb he=>u.keep b ob q n (λz=>hb (hs b z)) λz=>he (hx b z),λ_ _ q n _ he=>u.any q n λz=>he (hx _ z),λb ob q n he=>u.free b ob q n λz=>he (hx b z),λb ob q he=>u.there b ob q λz=>he (hx b z),u.tups,u.frzs,u.tbls⟩
end
def trk(h:Heap)(H:Hp):List Addr:=(List.range h.objs.size).filter λa=>(H a).isSome
def Zm1(h:Heap)(H:Hp):Heap:=hideAll h (trk h H)
theorem ZkS(h:Heap)(H:Hp):(Zm1 h H).objs.size=h.objs.size:=PySem.W.hideAll_size _ _
def ZoV{h:Heap}{b:Addr}{o:Obj}(e:h.get? b=some o)(n:H b=none):(Zm1 h H).get? b=some o :=
 hideAll_get _ e λhm=>by
  have q:(H b).isSome=true:=(Vr.mp hm).2
  rw [n] at q; simp at q
theorem ZqR{h:Heap}{b:Addr}{o:Obj}(e:(Zm1 h H).get? b=some o):h.get? b=some o/\H b=none:=by
 have e':h.get? b=some o:=of_hideAll (trk h H) e
 refine⟨e',?_⟩
 cases q:H b with
 | none=>rfl
 | some x =>
  have hm:b∈trk h H:=List.mem_filter.mpr ⟨List.mem_range.mpr (Heap.lt_size e'),by simp [q]⟩
  have z:(Zm1 h H).get? b=none:=PySem.W.hideAll_none (trk h H) hm
  rw [z] at e; cases e
def Zrb(g h:Heap)(L:Addr):List (Addr × Obj):=(List.range h.objs.size).filterMap λa=>if a=L\/(g.get? a).isSome=true then none else (h.get? a).map λo=>(a,o)
def Jf(g h:Heap)(L d:Addr):List (Addr × Obj):=(Zrb g h L).filter λp=>decide (p.1 ≠ d)
structure Mod(K:PySem.W.Frag)(mg:Str->Option Value)(base:Heap):Prop where
 kin:K.In base
 glob:base.Ns mainGlobals mg
 blt:∃ mb,base.Ns builtinsNs mb/\∀ x:Str,x ≠ "__name__"->mb x=bootBuiltins x
 nolimit:base.NoLimit
structure Cx where
 prog:Program
 w:World
 K:PySem.W.Frag
 mg:Str->Option Value
 base:Heap
 A:Around
 N:List Str
 s₀:Shared
 H₀:Hp
 env:Env
 outer:List Env
 stack:List Env
 ex:List Addr
 fn:Str->Bool
 calm:Bool
 pn:List (Addr × Obj)
 xe:VSP
def frs(l:List Env):List Addr:=l.filterMap (·.frame)
abbrev Cx.fs(X:Cx):List Addr:=frs X.outer
def Vis(sc:Scope)(x:Str):Prop:=sc.names.lookup x=some .local\/sc.names.lookup x=some .cell\/sc.names.lookup x=some .free
def Loc(sc:Scope)(x:Str):Prop:=sc.names.lookup x=some .local\/sc.names.lookup x=some .cell
def Zvd(env:Env)(h:Heap)(m:Str->Option Value)(x:Str)(u:Value):Prop :=
 (env.kindOf x=some .local/\m x=some u)\/((env.kindOf x=some .cell\/env.kindOf x=some .free)/\∃ c,env.cells.lookup x=some c/\h.IsCell c (some u))
structure Cx.Ok(X:Cx):Prop where
 mod:Mod X.K X.mg X.base
 kind:X.env.scope.kind=.function
 glob:X.env.globals=mainGlobals
 blt:X.env.builtins=builtinsNs
 above:X.s₀.heap.objs.size<=X.env.locals
 inj:∀ x y c,X.env.cells.lookup x=some c->X.env.cells.lookup y=some c->x=y
 has:∀ x,(X.env.kindOf x=some .cell\/X.env.kindOf x=some .free)->∃ c,X.env.cells.lookup x=some c
 cab:∀ x c,X.fn x=true->X.env.cells.lookup x=some c->X.s₀.heap.objs.size<=c
 hd:X.calm=true->X.A.handled=none
 frames:X.A.frames=some X.stack
 stk:X.stack=X.outer\/(X.stack=X.env :: X.outer/\X.env.frame=some X.env.locals)
 exf:∀ b∈X.ex,b ≠ X.env.locals/\∀ x c,X.env.cells.lookup x=some c->c ≠ b
 bs:∀ b o,X.base.get? b=some o->X.s₀.heap.get? b=some o/\X.H₀ b=none
 bsz:X.base.objs.size<=X.s₀.heap.objs.size
 noex:∀ b o,X.base.get? b=some o->b ∉ X.ex
 exfs:∀ b∈X.ex,b ∉ X.fs
 funs:X.s₀.heap.FunFrames X.base X.outer
 frf:∀ b∈X.fs,X.H₀ b=none
structure Inv(X:Cx)(pins:List (Addr × Obj))(σ:List (Option V))(H:Hp)(s:Shared):Prop where
 ok:X.Ok
 os:s.os=X.s₀.os
 bare:AllBare s.gens
 base:Un X.fs X.ex X.H₀ H X.s₀.heap s.heap
 loc:∃ m,s.heap.Ns X.env.locals m/\∀ (i:Nat) (x:Str) (v:V),X.N[i]?=some x->σ[i]?=some (some v)->Vis X.env.scope x->∃ u,ZH v u/\Zvd X.env s.heap m x u
 cell:∀ x c,X.env.cells.lookup x=some c->∃ v,s.heap.IsCell c v
 free:H X.env.locals=none
 freeC:∀ x c,X.env.cells.lookup x=some c->H c=none
 pin:∀ p∈X.pn ++ pins,s.heap.get? p.1=some p.2/\H p.1=none/\p.1 ≠ X.env.locals/\p.1 ∉ X.fs/\∀ v,p.2.data ≠ .cell v
 hok:HOk X.prog X.w H s.heap
 len:σ.length=X.N.length
section
variable {X:Cx}{pins:List (Addr × Obj)}{σ:List (Option V)}{H H':Hp}{s:Shared}{h':Heap}
def Cx.Ok.nofr(ok:X.Ok){b:Addr}{o:Obj}(e:X.base.get? b=some o):b ∉ X.fs:=λhb=>by
 have:=(ok.funs.mem hb).1
 rw [e] at this; cases this
theorem Inv.bs(I:Inv X pins σ H s):∀ b o,X.base.get? b=some o->s.heap.get? b=some o/\H b=none:=λb o e =>
 ⟨I.base.keep b o (I.ok.bs b o e).1 (I.ok.bs b o e).2 (I.ok.nofr e) (I.ok.noex b o e),I.base.free b o (I.ok.bs b o e).1 (I.ok.bs b o e).2 (I.ok.noex b o e)⟩
def Inv.bk(I:Inv X pins σ H s):∀ b o,X.base.get? b=some o->s.heap.get? b=some o:=λb o e=>(I.bs b o e).1
theorem Inv.mod(I:Inv X pins σ H s):Mod X.K X.mg X.base:=I.ok.mod
theorem Inv.kIn(I:Inv X pins σ H s):X.K.In s.heap:=I.ok.mod.kin.keeps I.bk
def Inv.nolimit(I:Inv X pins σ H s):s.heap.NoLimit:=I.ok.mod.nolimit.keeps I.bk
def Inv.fr(I:Inv X pins σ H s):∃ m,Fr X.base X.env.locals s.heap m :=
 let ⟨m,hn,_⟩:=I.loc
 ⟨m,hn,I.bk,Yj I.ok.bsz I.ok.above⟩
theorem Inv.lt(I:Inv X pins σ H s):X.env.locals < s.heap.objs.size:=let ⟨_,hn,_⟩:=I.loc; hn.lt
def Inv.sz(I:Inv X pins σ H s):X.s₀.heap.objs.size<=s.heap.objs.size:=Yj I.ok.above (YF I.lt)
def Inv.nofs(I:Inv X pins σ H s){a:Addr}(h:s.heap.objs.size<=a):a ∉ X.fs:=λhb=>by
 obtain⟨_,o,ho,_⟩:=I.ok.funs.mem hb
 exact absurd (Yl (Ye ho) (Yj I.sz h)) (YE _)
theorem Inv.cne(I:Inv X pins σ H s):∀ x c,X.env.cells.lookup x=some c->c ≠ X.env.locals:=λx c e z=>by
 obtain⟨v,o,ho,hd⟩:=I.cell x c e
 obtain⟨m,⟨o',es,ep,ho',hd',_⟩,_⟩:=I.loc
 rw [z,ho'] at ho; cases ho; rw [hd'] at hd; cases hd
theorem Inv.funs(I:Inv X pins σ H s):s.heap.FunFrames X.base X.outer:=by
 have all:∀ (l:List Env),(∀ b∈frs l,b∈X.fs)->X.s₀.heap.FunFrames X.base l->s.heap.FunFrames X.base l:=by
  intro l
  induction l with
  | nil=>intro _ _; trivial
  | cons env r ih =>
   intro hs hl
   obtain⟨hk,⟨L,o,hf,hn,ho,hd⟩,hr⟩:=hl
   have hL:L∈X.fs:=hs L (by unfold frs; rw [List.filterMap_cons,hf]; exact List.mem_cons_self)
   obtain⟨sl,e⟩:=I.base.slot L o ho (I.ok.frf L hL) hL λz=>I.ok.exfs L z hL
   exact⟨hk,⟨L,_,hf,hn,e,hd⟩,ih (λb hb=>hs b (by unfold frs; rw [List.filterMap_cons,hf]; exact List.mem_cons_of_mem _ hb)) hr⟩
 exact all X.outer (λ_ hb=>hb) I.ok.funs
def Inv.stack(I:Inv X pins σ H s):s.heap.FunFrames X.base X.stack:=by
 rcases I.ok.stk with e | ⟨e,hf⟩
 ·rw [e]; exact I.funs
 ·rw [e]
  obtain⟨m,hn,_⟩:=I.loc
  refine .cons (by rw [I.ok.kind]; decide) hf hn ?_ I.funs
  exact Heap.get?_none_of_le (Yj I.ok.bsz I.ok.above)
def Inv.stkSub(I:Inv X pins σ H s):∀ b∈frs X.stack,b∈X.env.locals :: X.fs:=λb hb=>by
 rcases I.ok.stk with e | ⟨e,hf⟩
 ·rw [e] at hb; exact Y4 _ hb
 ·rw [e] at hb
  unfold frs at hb
  rw [List.filterMap_cons,hf] at hb
  exact hb
def Inv.stkFree(I:Inv X pins σ H s):∀ b∈frs X.stack,H b=none:=λb hb=>by
 rcases Ym.mp (I.stkSub b hb) with e | hb
 ·rw [e]; exact I.free
 ·obtain⟨_,o,ho,_⟩:=I.ok.funs.mem hb
  exact I.base.free b o ho (I.ok.frf b hb) λz=>I.ok.exfs b z hb
theorem Inv.step{g':Array GenState}{t':Nat}{d':Drawn}{ch:List Addr}(I:Inv X pins σ H s)
  (hch:∀ b∈ch,(b∈X.ex\/X.s₀.heap.objs.size<=b)/\b ≠ X.env.locals/\(∀ x c,X.env.cells.lookup x=some c->c ≠ b)/\∀ p∈X.pn ++ pins,p.1 ≠ b)
  (keep:∀ b o,b ≠ X.env.locals->b ∉ X.fs->b ∉ ch->s.heap.get? b=some o->H b=none->h'.get? b=some o)
  (slot:∀ b o,b ≠ X.env.locals->b∈X.fs->b ∉ ch->s.heap.get? b=some o->H b=none->∃ sl,h'.get? b=some { o with slots:=sl }) (free:∀ b o,b ∉ ch->s.heap.get? b=some o->H b=none->H' b=none)
  (there:∀ b o,b ∉ ch->s.heap.get? b=some o->∃ o',h'.get? b=some o')
  (tups:∀ b xs,H b=some (.tup xs)->H' b=some (.tup xs)) (frzs:∀ b o u,H b=some (.frz o u)->H' b=some (.frz o u)) (tbls:∀ b ps,H b=some (.tbl ps)->∃ more,H' b=some (.tbl (ps ++ more)))
  (ns:∀ m,s.heap.Ns X.env.locals m->h'.Ns X.env.locals m) (hok:HOk X.prog X.w H' h') (hg:AllBare g') :
  Inv X pins σ H' { s with heap:=h',gens:=g',drawn:=d',toks:=t' }:=by
 have neL:∀ b o,X.s₀.heap.get? b=some o->b ≠ X.env.locals:=λb o e=>Yn (Yl (Ye e) I.ok.above)
 have neC:∀ b o,X.s₀.heap.get? b=some o->b ∉ X.ex->b ∉ ch:=λb o e hx hb=>by
  rcases (hch b hb).1 with z | z
  ·exact hx z
  ·exact absurd (Yl (Ye e) z) (YE _)
 have cellK:∀ x c,X.env.cells.lookup x=some c->∀ v,s.heap.IsCell c v->h'.IsCell c v:=λx c e v ⟨o,ho,hd⟩=>by
  have nch:c ∉ ch:=λz=>(hch c z).2.2.1 x c e rfl
  by_cases hc:c∈X.fs
  ·obtain⟨sl,q⟩:=slot c o (I.cne x c e) hc nch ho (I.freeC x c e)
   exact⟨_,q,hd⟩
  ·exact⟨o,keep c o (I.cne x c e) hc nch ho (I.freeC x c e),hd⟩
 refine⟨I.ok,I.os,hg,⟨λb o e n hb hx=>?_,λb o e n hb hx=>?_,λb o e n hx=>?_,λb o e hx=>?_,λb xs e=>tups b xs (I.base.tups b xs e),λb o xs e=>frzs b o xs (I.base.frzs b o xs e),λb ps e=>?_⟩,?_,λx c e=>?_,?_,λx c e=>?_,λp hp=>?_,hok,I.len⟩
 ·exact keep b o (neL b o e) hb (neC b o e hx) (I.base.keep b o e n hb hx) (I.base.free b o e n hx)
 ·obtain⟨sl,e1⟩:=I.base.slot b o e n hb hx
  obtain⟨sl',e2⟩:=slot b _ (neL b o e) hb (neC b o e hx) e1 (I.base.free b o e n hx)
  exact⟨sl',e2⟩
 ·obtain⟨o',e1⟩:=I.base.there b o e hx
  exact free b o' (neC b o e hx) e1 (I.base.free b o e n hx)
 ·obtain⟨o',e1⟩:=I.base.there b o e hx
  exact there b o' (neC b o e hx) e1
 ·obtain⟨m1,e1⟩:=I.base.tbls b ps e
  obtain⟨m2,e2⟩:=tbls b _ e1
  exact⟨m1 ++ m2,by rw [e2,Array.append_assoc]⟩
 ·obtain⟨m,hn,hl⟩:=I.loc
  refine⟨m,ns m hn,λi x v e1 e2 e3=>?_⟩
  obtain⟨u,r,l⟩:=hl i x v e1 e2 e3
  refine⟨u,r,?_⟩
  rcases l with l | ⟨k,c,e,z⟩
  ·exact .inl l
  ·exact .inr ⟨k,c,e,cellK x c e _ z⟩
 ·obtain⟨v,z⟩:=I.cell x c e
  exact⟨v,cellK x c e v z⟩
 ·obtain⟨m,⟨o,_,_,ho,_⟩,_⟩:=I.loc
  exact free _ o (λz=>(hch _ z).2.1 rfl) ho I.free
 ·obtain⟨v,o,ho,hd⟩:=I.cell x c e
  exact free c o (λz=>(hch c z).2.2.1 x c e rfl) ho (I.freeC x c e)
 ·obtain⟨e,n,ne,nf,d⟩:=I.pin p hp
  have nch:p.1 ∉ ch:=λz=>(hch p.1 z).2.2.2 p hp rfl
  exact⟨keep p.1 p.2 ne nf nch e n,free p.1 p.2 nch e n,ne,nf,d⟩
theorem Inv.un{t':Nat}(I:Inv X pins σ H s)(u:Un X.fs [] H H' s.heap h')(hok:HOk X.prog X.w H' h'):Inv X pins σ H' { s with heap:=h',toks:=t' }:=by
 obtain⟨m,⟨o,es,ep,ho,r⟩,_⟩:=id I.loc
 obtain⟨sl,hL⟩:=u.any ho I.free (by simp)
 exact I.step (g':=s.gens) (d':=s.drawn) (ch:=[]) (λ_ z=>nomatch z) (λb o _ hb _ e n=>u.keep b o e n hb (by simp)) (λb o _ hb _ e n=>u.slot b o e n hb (by simp)) (λb o _ e n=>u.free b o e n (by simp)) (λb o _ e=>u.there b o e (by simp)) u.tups u.frzs u.tbls (λm' hm=>by
  obtain⟨o',es',ep',ho',r'⟩:=hm
  rw [ho] at ho'; cases ho'
  exact⟨_,es',ep',hL,r'⟩) hok I.bare
theorem Inv.call{g':Array GenState}{t':Nat}{d':Drawn}{ch:List Addr}(I:Inv X pins σ H s)(u:Un (frs X.stack) ch H H' s.heap h')(hok:HOk X.prog X.w H' h')(hg:AllBare g')
  (hch:∀ b∈ch,(b∈X.ex\/X.s₀.heap.objs.size<=b)/\b ≠ X.env.locals/\(∀ x c,X.env.cells.lookup x=some c->c ≠ b)/\∀ p∈X.pn ++ pins,p.1 ≠ b) :
  Inv X pins σ H' { s with heap:=h',gens:=g',drawn:=d',toks:=t' }:=by
 obtain⟨m,⟨o,es,ep,ho,r⟩,_⟩:=id I.loc
 obtain⟨sl,hL⟩:=u.any ho I.free λz=>(hch _ z).2.1 rfl
 exact I.step (ch:=ch) hch (λb o hL hb hc e n=>u.keep b o e n (λz=>(Ym.mp (I.stkSub b z)).elim hL hb) hc) (λb o _ _ hc e n=>u.any e n hc) (λb o hc e n=>u.free b o e n hc) (λb o hc e=>u.there b o e hc) u.tups u.frzs u.tbls (λm' hm=>by
  obtain⟨o',es',ep',ho',r'⟩:=hm
  rw [ho] at ho'; cases ho'
  exact⟨_,es',ep',hL,r'⟩) hok hg
theorem Inv.turned{t':Nat}{it:Addr}(I:Inv X pins σ H s)(k:∀ b o,b ≠ it->s.heap.get? b=some o->h'.get? b=some o)(hn:H it=none)(hL:it ≠ X.env.locals)
  (h1:it∈X.ex\/X.s₀.heap.objs.size<=it) (h2:∀ x c,X.env.cells.lookup x=some c->c ≠ it) (h3:∀ p∈X.pn ++ pins,p.1 ≠ it):Inv X pins σ H { s with heap:=h',toks:=t' }:=by
 have nit:∀ b u,H b=some u->b ≠ it:=λb u e z=>by rw [z,hn] at e; cases e
 refine I.step (g':=s.gens) (d':=s.drawn) (ch:=[it]) (λb hb=>?_) (λb o _ _ hc e _=>k b o (λz=>hc (by simp [z])) e) (λb o _ _ hc e _=>⟨o.slots,k b o (λz=>hc (by simp [z])) e⟩) (λ_ _ _ _ n=>n)
  (λb o hc e=>⟨o,k b o (λz=>hc (by simp [z])) e⟩) (λ_ _ e=>e) (λ_ _ _ e=>e) (λb ps e=>⟨#[],by rw [e]; simp⟩) (λm hm=>?_) (λb u e=>?_) I.bare
 ·have e:b=it:=by simpa using hb
  subst e
  exact⟨h1,hL,h2,h3⟩
 ·obtain⟨o,es,ep,ho,r⟩:=hm
  exact⟨o,es,ep,k _ o (Ne.symm hL) ho,r⟩
 ·refine (I.hok b u e).stay (λc v hc q=>k c v ?_ q) (λ_ q=>q) λ_ _ q=>q
  rcases hc with z | z
  ·rw [z]; exact nit b u e
  ·exact nit c _ z
theorem Inv.tok(I:Inv X pins σ H s)(t:Nat):Inv X pins σ H { s with toks:=t }:=I.un (h':=s.heap) (t':=t) Un.refl I.hok
theorem Inv.kept{t':Nat}(I:Inv X pins σ H s)(k:∀ b u,s.heap.get? b=some u->h'.get? b=some u):Inv X pins σ H { s with heap:=h',toks:=t' }:=I.un (Un.kept k) (I.hok.kept k)
theorem Inv.laid{a:Addr}{o:HO}{t':Nat}(I:Inv X pins σ H s)(k:∀ b u,s.heap.get? b=some u->h'.get? b=some u)(hp:s.heap.objs.size<=a)(new:Ja X.prog X.w (upd H a o) h' a o) :
  Inv X pins σ (upd H a o) { s with heap:=h',toks:=t' }:=I.un (Un.laid k hp (I.hok.fresh hp)) (I.hok.laid k hp new)
def Inv.write{x e:Addr}{o:HO}{t':Nat}(I:Inv X pins σ H s)(mu:Mut (H x))(he:e=x\/H e=some (.own x))(k:∀ b u,b ≠ e->s.heap.get? b=some u->h'.get? b=some u)(heo:∃ u,h'.get? e=some u)
  (new:Ja X.prog X.w (upd H x o) h' x o):Inv X pins σ (upd H x o) { s with heap:=h',toks:=t' }:=I.un (Un.write mu he k heo) (I.hok.write mu he k heo new)
def Inv.pins_of{pins':List (Addr × Obj)}(I:Inv X pins σ H s)(h:∀ p∈pins',s.heap.get? p.1=some p.2/\H p.1=none/\p.1 ≠ X.env.locals/\p.1 ∉ X.fs/\∀ v,p.2.data ≠ .cell v):Inv X pins' σ H s :=
 ⟨I.ok,I.os,I.bare,I.base,I.loc,I.cell,I.free,I.freeC,λp hp=>(Yz.mp hp).elim (λz=>I.pin p (List.mem_append_left _ z)) (h p),I.hok,I.len⟩
def Zf5{N:List Str}(hN:N.Nodup){i j:Nat}{x:Str}(a:N[i]?=some x)(b:N[j]?=some x):i=j:=by
 obtain⟨h1,e1⟩:=Yf.mp a
 obtain⟨h2,e2⟩:=Yf.mp b
 exact (List.getElem_inj hN).mp (e1.trans e2.symm)
def ZkY{M:Model}{A:Around}{E:VSP}{i:Nat}{x:Str}{v:V}{Q:Unit->Shared->Prop}(I:Inv X pins σ H s)(hN:X.N.Nodup)(hi:X.N[i]?=some x)(hx:Loc X.env.scope x)(r:ZH v u)
  (h:∀ s',Inv X pins (σ.set i (some v)) H s'->(∃ a,Heap.SameBut a s.heap s'.heap/\(a=X.env.locals\/X.env.cells.lookup x=some a))->Q () s') (hf:X.fn x=true\/X.env.scope.names.lookup x=some .local:=by first | exact .inl rfl | exact .inr rfl | assumption):wpAny M A (storeName X.env x u) Q E s:=by
 obtain⟨m,hn,hl⟩:=id I.loc
 have hcls:(X.env.scope.kind == .class || (X.env.scope.kind == .module && X.env.locals != X.env.globals))=false:=by rw [I.ok.kind]; rfl
 have hiσ:i < σ.length:=by rw [I.len]; exact (Yf.mp hi).1
 have cne:=I.cne
 have tracked:∀ {a:Addr}{h':Heap},(∃ o,s.heap.get? a=some o/\H a=none)->Heap.SameBut a s.heap h'->HOk X.prog X.w H h':=λ{a h'} ha hs b ob e=>by
  obtain⟨_,_,hfree⟩:=ha
  refine (I.hok b ob e).stay (λc w' hc q=>(hs.2 c ?_).trans q) (λ_ q=>q) λ_ _ q=>q
  rintro rfl
  rcases hc with rfl | hc
  ·rw [hfree] at e; cases e
  ·rw [hfree] at hc; cases hc
 rcases hx with hk | hk
 ·refine wpAny_storeName_local hk hn (λh' hn' hs=>?_) hcls
  obtain⟨oL,_,_,hoL,_⟩:=id hn
  refine h _ ⟨I.ok,I.os,I.bare,⟨λb o e n hb hx=>?_,λb o e n hb hx=>?_,I.base.free,λb o e hx=>?_,I.base.tups,I.base.frzs,I.base.tbls⟩,⟨_,hn',λj y v' e1 e2 e3=>?_⟩,λy c e=>?_,I.free,I.freeC,λp hp=>?_,tracked ⟨oL,hoL,I.free⟩ hs,by simpa using I.len⟩ ⟨_,hs,.inl rfl⟩
  ·exact (hs.2 b (Yn (Yl (Ye e) I.ok.above))).trans (I.base.keep b o e n hb hx)
  ·obtain⟨sl,e1⟩:=I.base.slot b o e n hb hx
   exact⟨sl,(hs.2 b (Yn (Yl (Ye e) I.ok.above))).trans e1⟩
  ·obtain⟨o',e1⟩:=I.base.there b o e hx
   exact⟨o',(hs.2 b (Yn (Yl (Ye e) I.ok.above))).trans e1⟩
  ·by_cases hj:j=i
   ·subst hj
    rw [hi] at e1; cases e1
    rw [YV hiσ] at e2
    cases e2
    exact⟨u,r,.inl ⟨hk,by simp⟩⟩
   ·rw [YY (Ne.symm hj)] at e2
    obtain⟨u',r',q⟩:=hl j y v' e1 e2 e3
    refine⟨u',r',?_⟩
    rcases q with ⟨k,e⟩ | ⟨k,c,e,z⟩
    ·refine .inl ⟨k,?_⟩
     have:y ≠ x:=λe=>hj (Zf5 hN e1 (e ▸ hi))
     simp [this,e]
    ·exact .inr ⟨k,c,e,z.sameBut hs (cne y c e)⟩
  ·obtain⟨w',z⟩:=I.cell y c e
   exact⟨w',z.sameBut hs (cne y c e)⟩
  ·obtain⟨e,n,ne,nf,d⟩:=I.pin p hp
   exact⟨(hs.2 p.1 ne).trans e,n,ne,nf,d⟩
 ·have hfn:X.fn x=true:=by
   rcases hf with z | z
   ·exact z
   ·rw [z] at hk; cases hk
  obtain⟨c,hc⟩:=I.ok.has x (.inl hk)
  obtain⟨w',z⟩:=I.cell x c hc
  refine wpAny_storeName_cell I.ok.kind hk hc z (λh' hc' hs=>?_)
  obtain⟨oc,hoc,hocd⟩:=id z
  refine h { s with heap:=h' } ⟨I.ok,I.os,I.bare,⟨λb o e n hb hx=>?_,λb o e n hb hx=>?_,I.base.free,λb o e hx=>?_,I.base.tups,I.base.frzs,I.base.tbls⟩,⟨m,hn.sameBut hs (Ne.symm (cne x c hc)),λj y v' e1 e2 e3=>?_⟩,λy c' e=>?_,I.free,I.freeC,λp hp=>?_,tracked ⟨oc,hoc,I.freeC x c hc⟩ hs,by simpa using I.len⟩ ⟨c,hs,.inr hc⟩
  ·exact (hs.2 b (Yn (Yl (Ye e) (I.ok.cab x c hfn hc)))).trans (I.base.keep b o e n hb hx)
  ·obtain⟨sl,e1⟩:=I.base.slot b o e n hb hx
   exact⟨sl,(hs.2 b (Yn (Yl (Ye e) (I.ok.cab x c hfn hc)))).trans e1⟩
  ·obtain⟨o',e1⟩:=I.base.there b o e hx
   exact⟨o',(hs.2 b (Yn (Yl (Ye e) (I.ok.cab x c hfn hc)))).trans e1⟩
  ·by_cases hj:j=i
   ·subst hj
    rw [hi] at e1; cases e1
    rw [YV hiσ] at e2
    cases e2
    exact⟨u,r,.inr ⟨.inl hk,c,hc,hc'⟩⟩
   ·rw [YY (Ne.symm hj)] at e2
    obtain⟨u',r',q⟩:=hl j y v' e1 e2 e3
    refine⟨u',r',?_⟩
    rcases q with q | ⟨k,c',e,z'⟩
    ·exact .inl q
    ·refine .inr ⟨k,c',e,z'.sameBut hs ?_⟩
     rintro rfl
     exact hj (Zf5 hN e1 (I.ok.inj _ _ _ e hc ▸ hi))
  ·by_cases hcc:c'=c
   ·subst hcc; exact⟨_,hc'⟩
   ·obtain⟨w2,z2⟩:=I.cell y c' e
    exact⟨w2,z2.sameBut hs hcc⟩
  ·obtain⟨e,n,ne,nf,d⟩:=I.pin p hp
   refine⟨(hs.2 p.1 ?_).trans e,n,ne,nf,d⟩
   intro q
   rw [q,hoc] at e
   have q':oc=p.2:=YB e
   exact d w' (by rw [<- q']; exact hocd)
def ZcP{M:Model}{A:Around}{E:VSP}{i:Nat}{x:Str}{v:V}{Q:Unit->Shared->Prop}(I:Inv X pins σ H s)(hN:X.N.Nodup)(hi:X.N[i]?=some x)(hx:Loc X.env.scope x)(r:ZH v u)
  (h:∀ s',Inv X pins (σ.set i (some v)) H s'->Q () s') (hf:X.fn x=true\/X.env.scope.names.lookup x=some .local:=by first | exact .inl rfl | exact .inr rfl | assumption):wpAny M A (storeName X.env x u) Q E s :=
 ZkY I hN hi hx r (λs' I' _=>h s' I') hf
def Inv.call'{s':Shared}{ch:List Addr}(I:Inv X pins σ H s)(ho:s'.os=s.os)(u:Un (frs X.stack) ch H H' s.heap s'.heap)(hok:HOk X.prog X.w H' s'.heap)(hg:AllBare s'.gens)
  (hch:∀ b∈ch,(b∈X.ex\/X.s₀.heap.objs.size<=b)/\b ≠ X.env.locals/\(∀ x c,X.env.cells.lookup x=some c->c ≠ b)/\∀ p∈X.pn ++ pins,p.1 ≠ b):Inv X pins σ H' s':=by
 obtain⟨h',g',d',t',o'⟩:=s'
 have e:o'=s.os:=ho
 subst e
 exact I.call (g':=g') (t':=t') (d':=d') u hok hg hch
end
abbrev XK:=Value->Option Addr->Hp->Prop
abbrev St:=List (Option V)
abbrev VK:=V->Hp->Prop
abbrev TE:=St->Hp->VK->Prop
abbrev TT:=St->Hp->(Bool->Hp->Prop)->Prop
abbrev TA:=St->Hp->(List V->Hp->Prop)->Prop
structure Ends where
 nx:St->Hp->Prop
 rt:VK
 bk:St->Hp->Prop:=λ_ _=>False
 ct:St->Hp->Prop:=λ_ _=>False
abbrev TS:=Ends->St->Hp->Prop
def EP(X:Cx)(pins:List (Addr × Obj))(σ:St)(Q:VK)(u:Value)(s':Shared):Prop:=∃ v H',Inv X pins σ H' s'/\ZH v u/\Q v H'
def TP(X:Cx)(pins:List (Addr × Obj))(σ:St)(Q:Bool->Hp->Prop)(b:Bool)(s':Shared):Prop:=∃ H',Inv X pins σ H' s'/\Q b H'
def AP(X:Cx)(pins:List (Addr × Obj))(σ:St)(Q:List V->Hp->Prop)(us:List Value)(s':Shared):Prop:=∃ vs H',Inv X pins σ H' s'/\ZB vs us/\Q vs H'
def SP(X:Cx)(pins:List (Addr × Obj))(D:Ends)(f:Flow)(s':Shared):Prop :=
 match f with
 | .next=>∃ σ' H',Inv X pins σ' H' s'/\D.nx σ' H'
 | .brk=>∃ σ' H',Inv X pins σ' H' s'/\D.bk σ' H'
 | .cont=>∃ σ' H',Inv X pins σ' H' s'/\D.ct σ' H'
 | .ret u=>∃ v σ' H',Inv X pins σ' H' s'/\ZH v u/\D.rt v H'
def PE(X:Cx)(e:Expr)(t:TE):Prop :=
 ∀ (pins:List (Addr × Obj)) (s:Shared) (σ:St) (H:Hp) (Q:VK),Inv X pins σ H s->t σ H Q->wpAny (model X.prog X.w) X.A (eval e X.env) (EP X pins σ Q) X.xe s
def PT(X:Cx)(e:Expr)(t:TT):Prop :=
 ∀ (pins:List (Addr × Obj)) (s:Shared) (σ:St) (H:Hp) (Q:Bool->Hp->Prop),Inv X pins σ H s->t σ H Q->wpAny (model X.prog X.w) X.A (isTrue e X.env (eval e X.env)) (TP X pins σ Q) X.xe s
def PW(X:Cx)(e:Expr)(t:TT):Prop :=
 ∀ (whole:Sem Value) (pins:List (Addr × Obj)) (s:Shared) (σ:St) (H:Hp) (Q:Bool->Hp->Prop),Inv X pins σ H s->t σ H Q->wpAny (model X.prog X.w) X.A (isTrue e X.env whole) (TP X pins σ Q) X.xe s
def PW.pt{X:Cx}{e:Expr}{t:TT}(h:PW X e t):PT X e t:=h _
def PA(X:Cx)(es:List Expr)(t:TA):Prop :=
 ∀ (pos:Pos) (pins:List (Addr × Obj)) (s:Shared) (σ:St) (H:Hp) (Q:List V->Hp->Prop),Inv X pins σ H s->t σ H Q->wpAny (model X.prog X.w) X.A (spliced (backTo pos (starEach es X.env))) (AP X pins σ Q) X.xe s
def PS(X:Cx)(st:Stmt)(t:TS):Prop :=
 ∀ (pins:List (Addr × Obj)) (s:Shared) (σ:St) (H:Hp) (D:Ends),Inv X pins σ H s->t D σ H->wpAny (model X.prog X.w) X.A (exec st X.env) (SP X pins D) X.xe s
def PSs(X:Cx)(st:List Stmt)(t:TS):Prop :=
 ∀ (pins:List (Addr × Obj)) (s:Shared) (σ:St) (H:Hp) (D:Ends),Inv X pins σ H s->t D σ H->wpAny (model X.prog X.w) X.A (execs st X.env) (SP X pins D) X.xe s
variable {A:Around}{E:VSP}{s:Shared}
def Z0{α:Type}{t:Sem α}{Q Q':α->Shared->Prop}{M:Model}(h:wpAny M A t Q E s)(hQ:∀ a s,Q a s->Q' a s):wpAny M A t Q' E s:=Yk h hQ λ_ _ x=>x
section
variable {X:Cx}
def J2(i:Nat):TE:=λσ H Q=>∃ v,σ[i]?=some (some v)/\Q v H
def tC(v:V):TE:=λ_ H Q=>Q v H
def Zpd{i:Nat}{x:Str}{pos:Pos}(hN:X.N[i]?=some x)(hv:Vis X.env.scope x)(hd:(x == ("__debug__":Str))=false:=by decide)(hcd:(x == ("__classdict__":Str))=false:=by decide):PE X (.Name x pos) (J2 i):=by
 intro pins s σ H Q I h
 obtain⟨v,e,h⟩:=h
 obtain⟨m,hn,hl⟩:=I.loc
 obtain⟨u,r,l⟩:=hl i x v hN e hv
 have fin:EP X pins σ Q u s:=⟨v,H,I,r,h⟩
 rcases l with ⟨hk,hm⟩ | ⟨hk,c,hc,hcell⟩
 ·exact wpAny_Name (wpAny_loadName_local I.ok.kind hk hn hm fin) hd
 ·rcases hk with hk | hk
  ·exact wpAny_Name (wpAny_loadName_cell I.ok.kind hk hc hcell fin) hd
  ·exact wpAny_Name (wpAny_loadName_free I.ok.kind hk hc hcell fin hcd) hd
def ZrO{i j pos}:PE X (.Constant (.int i) j pos) (tC (.int i)):=λ_ _ _ H _ I h=>wpAny_Constant_int ⟨.int i,H,I.tok _,⟨_,rfl⟩,h⟩
def Zui{b j pos}:PE X (.Constant (.bool b) j pos) (tC (.bl b)):=λ_ _ _ H _ I h=>Constant_bool ⟨.bl b,H,I,rfl,h⟩
def ZsK{j pos}:PE X (.Constant .none j pos) (tC .non):=λ_ _ _ H _ I h=>Constant_none ⟨.non,H,I,rfl,h⟩
def ZsF{x j pos}:PE X (.Constant (.str x) j pos) (tC (.str x)):=λ_ _ _ H _ I h=>Calls.Constant_str ⟨.str x,H,I.tok _,⟨_,rfl⟩,h⟩
def Gl(X:Cx)(x:Str):Prop:=X.env.kindOf x=some .globalImplicit
def ZeN{pins:List (Addr × Obj)}{σ:St}{x:Str}{pos:Pos}{Q:VSP}(I:Inv X pins σ H s)(hg:Gl X x)(hm:X.mg x=some u)(h:Q u s)
  (hd:(x == ("__debug__":Str))=false:=by decide):wpAny (model X.prog X.w) X.A (eval (.Name x pos) X.env) Q E s :=
 Calls.Name_function_global I.ok.kind hg (Calls.loadGlobal_global (by rw [I.ok.glob]; exact I.mod.glob.keeps I.bk) hm h) hd
def Zfc{pins:List (Addr × Obj)}{σ:St}{x:Str}{pos:Pos}{Q:VSP}(I:Inv X pins σ H s)(hg:Gl X x)(hm:X.mg x=none)(hv:bootBuiltins x=some u)(h:Q u s)
  (hn:x ≠ "__name__":=by decide) (hd:(x == ("__debug__":Str))=false:=by decide):wpAny (model X.prog X.w) X.A (eval (.Name x pos) X.env) Q E s:=by
 obtain⟨mb,h1,h2⟩:=I.mod.blt
 exact Calls.Name_function_global I.ok.kind hg (Calls.loadGlobal_builtin (by rw [I.ok.glob]; exact I.mod.glob.keeps I.bk) hm (by rw [I.ok.blt]; exact h1.keeps I.bk) ((h2 x hn).trans hv) h) hd
def ZhN{x:Str}{v:V}{pos:Pos}(hg:Gl X x)(hm:X.mg x=some u)(r:ZH v u)(hd:(x == ("__debug__":Str))=false:=by decide):PE X (.Name x pos) (tC v) :=
 λ_ _ _ H _ I h=>ZeN I hg hm ⟨v,H,I,r,h⟩ hd
def Zrg{x:Str}{v:V}{pos:Pos}(hg:Gl X x)(hm:X.mg x=none)(hv:bootBuiltins x=some u)(r:ZH v u)(hn:x ≠ "__name__":=by decide)(hd:(x == ("__debug__":Str))=false:=by decide):PE X (.Name x pos) (tC v) :=
 λ_ _ _ H _ I h=>Zfc I hg hm hv ⟨v,H,I,r,h⟩ hn hd
variable {a b:Expr}{ta tb:TE}{pos:Pos}
def PC(X:Cx)(op:CmpOp)(a b:Expr)(t:TE):Prop :=
 ∀ (pins:List (Addr × Obj)) (s:Shared) (σ:St) (H:Hp) (Q:VK),Inv X pins σ H s->t σ H Q ->
  wpAny (model X.prog X.w) X.A (eval a X.env) (λv s₁=>wpAny (model X.prog X.w) X.A (eval b X.env) (λu s₂=>wpAny (model X.prog X.w) X.A (compareOp op v u) (EP X pins σ Q) X.xe s₂) X.xe s₁) X.xe s
def ZnV(b:Expr){op:CmpOp}(h:op ≠ .In)(h2:op ≠ .NotIn):behindInMarks op b=false:=by
 have e1:(op == CmpOp.In)=false:=by cases op <;> first | rfl | exact absurd rfl h
 have e2:(op == CmpOp.NotIn)=false:=by cases op <;> first | rfl | exact absurd rfl h2
 cases b <;> simp [behindInMarks,e1,e2]
def tB(t:TE):TT:=λσ H Q=>t σ H λx H1=>∃ c,x=.bl c/\Q c H1
theorem ZjT{op:CmpOp}{t:TE}(h:PC X op a b t)(h1:behindInMarks op b=false:=by first | exact ZnV _ (by decide) (by decide) | rfl):PT X (.Compare a [op] [b] pos) (tB t):=by
 intro pins s σ H Q I hw
 refine wpAny_isTrue_Compare1 (Z0 (h pins s σ H _ I hw) λv s1 h1=>Z0 h1 λu s2 h2=>Z0 h2 λc s3 ⟨x,H1,I1,r1,q1⟩=>?_) h1
 obtain⟨d,rfl,q⟩:=q1
 cases r1
 exact YG ⟨H1,I1,q⟩
def Zst{e:Expr}{t:TE}(h:PE X e t)(he:∀ whole,isTrue e X.env whole=(do let v <- whole; standAt e.pos; holding [v] (truthy v)):=by intro _; rfl):PT X e (tB t):=by
 intro pins s σ H Q I hw
 refine isTrue_plain (Z0 (h pins s σ H _ I hw) λv s1 ⟨x,H1,I1,r1,q1⟩=>?_) (he _)
 obtain⟨d,rfl,q⟩:=q1
 cases r1
 exact YG ⟨H1,I1,q⟩
variable {tA tB':TT}{Jf:List Expr}
def Zto(t u:TT):TT:=λσ H Q=>t σ H λc H1=>if c=true then u σ H1 Q else Q false H1
def tOr(t u:TT):TT:=λσ H Q=>t σ H λc H1=>if c=true then Q true H1 else u σ H1 Q
def ZtD(t:TT):TT:=λσ H Q=>t σ H λc H1=>Q (!c) H1
def ZqG(ha:PT X a tA):PW X (.BoolOp .And [a] pos) tA:=by
 intro wh pins s σ H Q I h
 refine isTrue_and (Z0 (ha pins s σ H Q I h) λc s1 e=>?_)
 cases c with
 | true=>exact isTrue_and_nil e
 | false=>exact e
def Zr4(ha:PT X a tA):PW X (.BoolOp .Or [a] pos) tA:=by
 intro wh pins s σ H Q I h
 refine isTrue_or (Z0 (ha pins s σ H Q I h) λc s1 e=>?_)
 cases c with
 | false=>exact isTrue_or_nil e
 | true=>exact e
def Zsd(ha:PT X a tA)(hb:PW X (.BoolOp .And (b :: Jf) pos) tB'):PW X (.BoolOp .And (a :: b :: Jf) pos) (Zto tA tB'):=by
 intro wh pins s σ H Q I h
 refine isTrue_and (Z0 (ha pins s σ H _ I h) λc s1 ⟨H1,I1,q1⟩=>?_)
 cases c with
 | true=>exact hb wh pins s1 σ H1 Q I1 q1
 | false=>exact⟨H1,I1,q1⟩
def Zt1(ha:PT X a tA)(hb:PW X (.BoolOp .Or (b :: Jf) pos) tB'):PW X (.BoolOp .Or (a :: b :: Jf) pos) (tOr tA tB'):=by
 intro wh pins s σ H Q I h
 refine isTrue_or (Z0 (ha pins s σ H _ I h) λc s1 ⟨H1,I1,q1⟩=>?_)
 cases c with
 | true=>exact⟨H1,I1,q1⟩
 | false=>exact hb wh pins s1 σ H1 Q I1 q1
def Zti(ha:PT X a tA):PT X (.UnaryOp .Not a pos) (ZtD tA):=by
 intro pins s σ H Q I h
 exact isTrue_not (ha pins s σ H (λc H1=>Q (!c) H1) I h)
def Zm6(ta tb:TE):TE:=λσ H Q=>ta σ H λx H1=>∃ c,x=.bl c/\if c=true then tb σ H1 Q else Q (.bl false) H1
def ZuR(ta tb:TE):TE:=λσ H Q=>ta σ H λx H1=>∃ c,x=.bl c/\if c=true then Q (.bl true) H1 else tb σ H1 Q
def Zoh(ta:TE):TE:=λσ H Q=>ta σ H λx H1=>∃ c,x=.bl c/\Q (.bl (!c)) H1
def Zsu{op}{t:TE}(h:PE X a t):PE X (.BoolOp op [a] pos) t:=λpins s σ H Q I hw=>BoolOp_one (h pins s σ H Q I hw)
def ZsS(ha:PE X a ta)(hb:PE X (.BoolOp .And (b :: Jf) pos) tb):PE X (.BoolOp .And (a :: b :: Jf) pos) (Zm6 ta tb):=by
 intro pins s σ H Q I h
 refine BoolOp_and (Z0 (ha pins s σ H _ I h) λv s1 ⟨x,H1,I1,r1,q1⟩=>?_)
 obtain⟨c,rfl,q1⟩:=q1
 cases r1
 refine YG ?_
 cases c with
 | true=>exact hb pins s1 σ H1 Q I1 q1
 | false=>exact⟨.bl false,H1,I1,rfl,q1⟩
def Zsm(ha:PE X a ta):PE X (.UnaryOp .Not a pos) (Zoh ta):=by
 intro pins s σ H Q I h
 refine UnaryOp_ (Z0 (ha pins s σ H _ I h) λv s1 ⟨x,H1,I1,r1,q1⟩=>?_)
 obtain⟨c,rfl,q1⟩:=q1
 cases r1
 exact not_of (YG ⟨.bl (!c),H1,I1,rfl,q1⟩)
def tIf(t:TT)(ta tb:TE):TE:=λσ H Q=>t σ H λc H1=>if c=true then ta σ H1 Q else tb σ H1 Q
def Zni{c:Expr}(hc:PT X c tA)(ha:PE X a ta)(hb:PE X b tb):PE X (.IfExp c a b pos) (tIf tA ta tb):=by
 intro pins s σ H Q I h
 refine wpAny_IfExp (Z0 (hc pins s σ H _ I h) λd s1 ⟨H1,I1,q1⟩=>?_)
 cases d with
 | true=>exact ha pins s1 σ H1 Q I1 q1
 | false=>exact hb pins s1 σ H1 Q I1 q1
end
def JP(K:PySem.W.Frag)(H:Hp)(a:Addr)(xs:List V):Prop :=
 Rd H a (.lst xs) \/
  ∃ (o:Obj) (its:Array Value) (n:Nat),K.lookup a=some o/\o.cls=.type "list"/\o.dict=none/\o.data=.seq its n/\its.size<=sizeLine/\ZB xs its.toList
def SqT(K:PySem.W.Frag)(H:Hp)(a:Addr)(xs:List V):Prop :=
 Rd H a (.tup xs) \/
  ∃ (o:Obj) (its:Array Value) (n:Nat),K.lookup a=some o/\o.cls=.type "tuple"/\o.data=.seq its n/\its.size<=sizeLine/\ZB xs its.toList
def Zu3:Value->Option V
 | .none=>some .non
 | .bool b=>some (.bl b)
 | .int i _=>some (.int i)
 | .str x _=>some (.str x)
 | .bytes b _=>some (.byt b)
 | .float b _=>some (.flt b)
 | .ref a=>some (.ref a)
 | .type n=>some (.ty n)
 | _=>none
def ZH.abs{x:V}(r:ZH x u):Zu3 u=some x:=by
 cases x with
 | non=>cases r; rfl
 | bl _=>cases r; rfl
 | int _=>obtain⟨t,rfl⟩:=r; rfl
 | str _=>obtain⟨t,rfl⟩:=r; rfl
 | byt _=>obtain⟨t,rfl⟩:=r; rfl
 | flt _=>obtain⟨t,rfl⟩:=r; rfl
 | ref _=>cases r; rfl
 | ty _=>cases r; rfl
def ZH.inj{x y:V}(r:ZH x u)(q:ZH y u):x=y:=YB (r.abs.symm.trans q.abs)
def ZB.inj:∀ {xs ys:List V}{us:List Value},ZB xs us->ZB ys us->xs=ys
 | _,_,_,.nil,.nil=>rfl
 | _,_,_,.cons r t,.cons r' t'=>by rw [r.inj r',ZB.inj t t']
section
variable {X:Cx}{pins:List (Addr × Obj)}{σ:St}{H:Hp}{s:Shared}{a:Addr}{xs ys:List V}
theorem JP.of{K:PySem.W.Frag}(h:H a=some (.lst xs)):JP K H a xs:=.inl (.inl h)
theorem SqT.of{K:PySem.W.Frag}(h:H a=some (.tup xs)):SqT K H a xs:=.inl (.inl h)
theorem Inv.list(I:Inv X pins σ H s)(h:JP X.K H a xs):∃ its:List Value,ZB xs its/\PlainL s.heap a its.toArray/\xs.length<=sizeLine:=by
 rcases h with h | ⟨o,its,n,hk,hc,hd,hs,hz,r⟩
 ·obtain⟨z,its,n,r,e⟩:=h.ok I.hok
  exact⟨its,r,⟨_,n,e,rfl,rfl,rfl⟩,z⟩
 ·refine⟨its.toList,r,⟨o,n,I.kIn a o hk,hc,hd,by simpa using hs⟩,?_⟩
  have e:=r.length
  simp only [Array.length_toList] at e
  omega
theorem Inv.tuple(I:Inv X pins σ H s)(h:SqT X.K H a xs):∃ its:List Value,ZB xs its/\IsTup s.heap a its.toArray/\xs.length<=sizeLine:=by
 rcases h with h | ⟨o,its,n,hk,hc,hs,hz,r⟩
 ·obtain⟨z,its,r,p⟩:=h.ok I.hok
  exact⟨its,r,p,z⟩
 ·refine⟨its.toList,r,⟨o,I.kIn a o hk,hc,n,by simpa using hs⟩,?_⟩
  have e:=r.length
  simp only [Array.length_toList] at e
  omega
def Inv.list_inj(I:Inv X pins σ H s)(h:JP X.K H a xs)(h':JP X.K H a ys):xs=ys:=by
 obtain⟨its,r,⟨o,n,e,_,_,d⟩,_⟩:=I.list h
 obtain⟨its',r',⟨o',n',e',_,_,d'⟩,_⟩:=I.list h'
 rw [e] at e'; cases e'
 rw [d] at d'
 injection d' with d1 _
 have:its=its':=by simpa using congrArg Array.toList d1
 subst this
 exact r.inj r'
def Inv.tuple_inj(I:Inv X pins σ H s)(h:SqT X.K H a xs)(h':SqT X.K H a ys):xs=ys:=by
 obtain⟨its,r,⟨o,e,_,n,d⟩,_⟩:=I.tuple h
 obtain⟨its',r',⟨o',e',_,n',d'⟩,_⟩:=I.tuple h'
 rw [e] at e'; cases e'
 rw [d] at d'
 injection d' with d1 _
 have:its=its':=by simpa using congrArg Array.toList d1
 subst this
 exact r.inj r'
end
abbrev Cx.wish(X:Cx)(E:VSP):Cx:={ X with xe:=E }
abbrev Cx.nox(X:Cx):Cx:=X.wish λ_ _=>False
def Cx.Ok.wish{X:Cx}(ok:X.Ok)(E:VSP):(X.wish E).Ok :=
 ⟨ok.mod,ok.kind,ok.glob,ok.blt,ok.above,ok.inj,ok.has,ok.cab,ok.hd,ok.frames,ok.stk,ok.exf,ok.bs,ok.bsz,ok.noex,ok.exfs,ok.funs,ok.frf⟩
def Cx.Ok.unwish{X:Cx}(ok:(X.wish E).Ok):X.Ok :=
 ⟨ok.mod,ok.kind,ok.glob,ok.blt,ok.above,ok.inj,ok.has,ok.cab,ok.hd,ok.frames,ok.stk,ok.exf,ok.bs,ok.bsz,ok.noex,ok.exfs,ok.funs,ok.frf⟩
section
variable {X:Cx}{pins:List (Addr × Obj)}{σ:St}{H:Hp}{s:Shared}{E:VSP}
def Inv.wish(I:Inv X pins σ H s)(E:VSP):Inv (X.wish E) pins σ H s:=⟨I.ok.wish E,I.os,I.bare,I.base,I.loc,I.cell,I.free,I.freeC,I.pin,I.hok,I.len⟩
def Inv.unwish(I:Inv (X.wish E) pins σ H s):Inv X pins σ H s:=⟨I.ok.unwish,I.os,I.bare,I.base,I.loc,I.cell,I.free,I.freeC,I.pin,I.hok,I.len⟩
def SP.unwish{D:Ends}{f:Flow}{s':Shared}(h:SP (X.wish E) pins D f s'):SP X pins D f s':=by
 cases f with
 | next=>obtain⟨σ',H',I,q⟩:=h; exact⟨σ',H',I.unwish,q⟩
 | brk=>obtain⟨σ',H',I,q⟩:=h; exact⟨σ',H',I.unwish,q⟩
 | cont=>obtain⟨σ',H',I,q⟩:=h; exact⟨σ',H',I.unwish,q⟩
 | ret u=>obtain⟨v,σ',H',I,r,q⟩:=h; exact⟨v,σ',H',I.unwish,r,q⟩
def PE.nox{e:Expr}{t:TE}(h:PE X.nox e t):PE X e t:=λpins s σ H Q I hw =>
 Yk (h pins s σ H Q (I.wish _) hw) (λ_ _ ⟨v,H',I',r,q⟩=>⟨v,H',I'.unwish,r,q⟩) λ_ _ z=>False.elim z
def PT.nox{e:Expr}{t:TT}(h:PT X.nox e t):PT X e t:=λpins s σ H Q I hw =>
 Yk (h pins s σ H Q (I.wish _) hw) (λ_ _ ⟨H',I',q⟩=>⟨H',I'.unwish,q⟩) λ_ _ z=>False.elim z
def PSs.nox{st:List Stmt}{t:TS}(h:PSs X.nox st t):PSs X st t:=λpins s σ H D I hw =>
 Yk (h pins s σ H D (I.wish _) hw) (λ_ _ q=>q.unwish) λ_ _ z=>False.elim z
end
section
variable {X:Cx}{st:Stmt}{Jf:List Stmt}{t u:TS}{e:Expr}{te:TE}{pos:Pos}
def Zf6:TS:=λD σ H=>D.nx σ H
def Znk(t u:TS):TS:=λD σ H=>t { D with nx:=u D } σ H
def Zqs:PSs X [] Zf6:=λ_ _ σ H _ I h=>Va ⟨σ,H,I,h⟩
def ZoO(h1:PS X st t)(h2:PSs X Jf u):PSs X (st :: Jf) (Znk t u):=by
 intro pins s σ H D I h
 refine wpAny_execs_cons (Z0 (h1 pins s σ H { D with nx:=u D } I h) λf s1 q=>?_)
 cases f with
 | next =>
  obtain⟨σ',H',I',q⟩:=q
  exact h2 pins s1 σ' H' D I' q
 | ret v=>exact q
 | brk=>exact q
 | cont=>exact q
def ZpN(h1:PS X st t):PSs X [st] t:=by
 intro pins s σ H D I h
 refine wpAny_execs_cons (Z0 (h1 pins s σ H D I h) λf s1 q=>?_)
 cases f with
 | next=>exact Va q
 | ret v=>exact q
 | brk=>exact q
 | cont=>exact q
theorem Inv.quiet{pins:List (Addr × Obj)}{σ:St}(I:Inv X pins σ H s):interactive X.env=false:=by simp [interactive,I.ok.kind]
def Zny(te:TE):TS:=λD σ H=>te σ H λ_ H1=>D.nx σ H1
def Zqu(he:PE X e te)(hs:swapsWith e none pos.line X.env=pure false:=by rfl):PS X (.Expr e pos) (Zny te):=by
 intro pins s σ H D I h
 exact wpAny_Expr_any (Z0 (he pins s σ H _ I h) λv s1 ⟨x,H1,I1,r1,q1⟩=>⟨σ,H1,I1,q1⟩) I.quiet hs
def Zrx(te:TE):TS:=λD σ H=>te σ H D.rt
def ZsH(he:PE X e te):PS X (.Return (some e) pos) (Zrx te):=by
 intro pins s σ H D I h
 exact wpAny_Return_some (Z0 (he pins s σ H _ I h) λv s1 ⟨x,H1,I1,r1,q1⟩=>⟨x,σ,H1,I1,r1,q1⟩)
def Zs0:TS:=λD _ H=>D.rt .non H
def ZnI(c:TT)(t u:TS):TS:=λD σ H=>c σ H λb H1=>if b=true then t D σ H1 else u D σ H1
def Zud{c:Expr}{a b:List Stmt}{tc:TT}(hc:PT X c tc)(ha:PSs X a t)(hb:PSs X b u):PS X (.If c a b pos) (ZnI tc t u):=by
 intro pins s σ H D I h
 refine wpAny_If (Z0 (hc pins s σ H _ I h) λd s1 ⟨H1,I1,q1⟩=>?_)
 cases d with
 | true=>exact ha pins s1 σ H1 D I1 q1
 | false=>exact hb pins s1 σ H1 D I1 q1
def ZpB:TS:=λ_ _ _=>False
def ZoN:PS X st ZpB:=λ_ _ _ _ _ _ h=>h.elim
end
abbrev TG:=V->St->Hp->(St->Hp->Prop)->Prop
abbrev TGs:=List V->St->Hp->(St->Hp->Prop)->Prop
def PG(X:Cx)(target:Expr)(t:TG):Prop :=
 ∀ (pins:List (Addr × Obj)) (s:Shared) (σ:St) (H:Hp) (v:V) (u:Value) (Q:St->Hp->Prop),Inv X pins σ H s->ZH v u->t v σ H Q ->
  wpAny (model X.prog X.w) X.A (assign target X.env u) (λ_ s'=>∃ σ' H',Inv X pins σ' H' s'/\Q σ' H') X.xe s
def PGs(X:Cx)(ts:List Expr)(t:TGs):Prop :=
 ∀ (pins:List (Addr × Obj)) (s:Shared) (σ:St) (H:Hp) (vs:List V) (us:List Value) (Q:St->Hp->Prop),Inv X pins σ H s->ZB vs us->t vs σ H Q ->
  wpAny (model X.prog X.w) X.A (assignInOrder ((assignEach ts X.env).map (·.2)) us) (λ_ s'=>∃ σ' H',Inv X pins σ' H' s'/\Q σ' H') X.xe s
abbrev ZtO:=V->V->V->Hp->(Hp->Prop)->Prop
def ZuQ(X:Cx)(t:ZtO):Prop :=
 ∀ (pins:List (Addr × Obj)) (s:Shared) (σ:St) (H:Hp) (o i v:V) (ov iv u:Value) (Q:Hp->Prop),Inv X pins σ H s->ZH o ov->ZH i iv->ZH v u->t o i v H Q ->
  wpAny (model X.prog X.w) X.A (setItem ov iv u) (λ_ s'=>∃ H',Inv X pins σ H' s'/\Q H') X.xe s
section
variable {X:Cx}{pos:Pos}
def Zef(i:Nat):TG:=λv σ H Q=>Q (σ.set i (some v)) H
def ZpS{i:Nat}{x:Str}(hN:X.N.Nodup)(hi:X.N[i]?=some x)(hx:Loc X.env.scope x)(hf:X.fn x=true\/X.env.scope.names.lookup x=some .local:=by first | exact .inl rfl | exact .inr rfl | assumption):PG X (.Name x pos) (Zef i):=by
 intro pins s σ H v u Q I r h
 exact wpAny_assign_Name (ZcP I hN hi hx r (λs' I'=>⟨_,H,I',h⟩) hf)
def ZtH:TGs:=λvs σ H Q=>vs=[]/\Q σ H
def Zom(t:TG)(u:TGs):TGs:=λvs σ H Q=>∃ v r,vs=v :: r/\t v σ H λσ' H'=>u r σ' H' Q
def ZqU:PGs X [] ZtH:=by
 intro pins s σ H vs us Q I r h
 obtain⟨e,h⟩:=h
 subst e
 cases r
 exact assignInOrder_nil ⟨σ,H,I,h⟩
def ZnP{e:Expr}{es:List Expr}{t:TG}{u:TGs}(h1:PG X e t)(h2:PGs X es u)
  (hs:(assignEach (e :: es) X.env).map (·.2)=assign e X.env :: (assignEach es X.env).map (·.2):=by rfl):PGs X (e :: es) (Zom t u):=by
 intro pins s σ H vs us Q I r h
 obtain⟨v,vr,e1,h⟩:=h
 subst e1
 cases r with
 | cons r rr =>
  rw [hs]
  refine assignInOrder_cons (Z0 (h1 pins s σ H _ _ _ I r h) λ_ s1 ⟨σ1,H1,I1,q1⟩=>?_)
  exact h2 pins s1 σ1 H1 _ _ Q I1 rr q1
def Zva(K:PySem.W.Frag)(n:Nat)(t:TGs):TG:=λv σ H Q=>∃ a xs,v=.ref a/\SqT K H a xs/\xs.length=n/\t xs σ H Q
def ZrA{es:List Expr}{k:Nat}{t:TGs}{n:Nat}(hc:X.calm=true)(h:PGs X es t)
  (hn:(assignEach es X.env).length=n:=by rfl) (hst:(assignEach es X.env).findIdx? (·.1)=none:=by rfl):PG X (.Tuple es k pos) (Zva X.K n t):=by
 intro pins s σ H v u Q I r hw
 obtain⟨a,xs,e1,hq,hl,hw⟩:=hw
 subst e1
 cases r
 obtain⟨its,rv,ht,hz⟩:=I.tuple hq
 refine assign_Tuple_tuple (I.ok.hd hc) ht (by simp [hn,<- hl,rv.length]) hst λh' hx=>?_
 have I1:Inv X pins σ H { s with heap:=h' }:=I.kept (t':=s.toks) λb o e=>hx b o (Yn (Ye e)) e
 exact h pins _ σ H xs _ Q I1 (by simpa using rv) hw
def Zty(to ti:TE)(t:ZtO):TG:=λv σ H Q=>to σ H λo H1=>ti σ H1 λi H2=>t o i v H2 λH3=>Q σ H3
def Zsz{o i:Expr}{to ti:TE}{t:ZtO}(ho:PE X o to)(hi:PE X i ti)(hs:ZuQ X t)
  (ha:∀ v,assign (.Subscript o i pos) X.env v=(do
   let ov <- holding [v] (eval o X.env)
   let iv <- holding [v,ov] (eval i X.env)
   standAt pos
   holding [v,ov,iv] (setItem ov iv v)
   release [v,ov,iv] []):=by intro _; rfl):PG X (.Subscript o i pos) (Zty to ti t):=by
 intro pins s σ H v u Q I r h
 rw [ha]
 refine Ya (YJ (Z0 (ho pins s σ H _ I h) λov s1 ⟨x,H1,I1,r1,q1⟩=>?_))
 refine Ya (YJ (Z0 (hi pins s1 σ H1 _ I1 q1) λiv s2 ⟨y,H2,I2,r2,q2⟩=>?_))
 refine Ya (wpAny_standAt (Ya (YJ (Z0 (hs pins s2 σ H2 x y v ov iv u _ I2 r1 r2 r q2) λ_ s3 ⟨H3,I3,q3⟩=>?_))))
 exact wpAny_release ⟨σ,H3,I3,q3⟩
def ZmT(te:TE)(g:TG):TS:=λD σ H=>te σ H λx H1=>g x σ H1 D.nx
def ZsD{tg e:Expr}{te:TE}{g:TG}(he:PE X e te)(hg:PG X tg g)(hs:swapsWithSole [tg] e pos.line X.env=pure false:=by rfl)(hw:swappedStores [tg] e X.env=pure none:=by rfl)
  (h1:(assignEach [tg] X.env).map (·.2)=[assign tg X.env]:=by rfl):PS X (.Assign [tg] e pos) (ZmT te g):=by
 intro pins s σ H D I h
 refine wpAny_Assign_stores (Z0 (he pins s σ H _ I h) λv s1 ⟨x,H1,I1,r1,q1⟩=>?_) hs hw
 rw [h1]
 exact Z0 (hg pins s1 σ H1 x v _ I1 r1 q1) λ_ s2 q=>q
def ZsQ{i:Nat}{x:Str}{e:Expr}{te:TE}{pos':Pos}(hN:X.N.Nodup)(hi:X.N[i]?=some x)(hx:Loc X.env.scope x)(he:PE X e te)(hs:swapsWith e (some (.Name x pos')) pos.line X.env=pure false:=by rfl)(hf:X.fn x=true\/X.env.scope.names.lookup x=some .local:=by first | exact .inl rfl | exact .inr rfl | assumption) :
  PS X (.Assign [.Name x pos'] e pos) (ZmT te (Zef i)):=by
 intro pins s σ H D I h
 refine wpAny_Assign_Name (Z0 (he pins s σ H _ I h) λv s1 ⟨y,H1,I1,r1,q1⟩=>?_) hs
 exact ZcP I1 hN hi hx r1 (λs2 I2=>⟨_,H1,I2,q1⟩) hf
def ZtM(i j:Nat)(ta:TA):TS:=λD σ H=>ta σ H λvs H1=>∃ v w,vs=[v,w]/\D.nx ((σ.set i (some v)).set j (some w)) H1
def Zr9{i j:Nat}{x y:Str}{a b:Expr}{ta:TA}{px py pt:Pos}{kt k2 pt2}(hc:X.calm=true)(hN:X.N.Nodup)(hi:X.N[i]?=some x)(hj:X.N[j]?=some y)(hij:i ≠ j)
  (hx:X.env.scope.names.lookup x=some .local) (hy:X.env.scope.names.lookup y=some .local) (ha:PA X [a,b] ta)
  (hw:swappedStores [.Tuple [.Name x px,.Name y py] kt pt] (.Tuple [a,b] k2 pt2) X.env=pure (some [x,y]))
  (hs:swapsWithSole [.Tuple [.Name x px,.Name y py] kt pt] (.Tuple [a,b] k2 pt2) pos.line X.env=pure false:=by rfl) :
  PS X (.Assign [.Tuple [.Name x px,.Name y py] kt pt] (.Tuple [a,b] k2 pt2) pos) (ZtM i j ta):=by
 intro pins s σ H D I h
 rw [exec_Assign_arm]
 refine Ya (wpAny_standAt ?_)
 rw [hs]
 refine Ya (Yc ?_)
 rw [if_neg (by decide)]
 refine Ya (Tuple_ (Z0 (ha _ pins s σ H _ I h) λus s1 ⟨vs,H1,I1,r1,q1⟩=>?_))
 obtain⟨v,w,e1,q1⟩:=q1
 subst e1
 obtain⟨u1,u2,rfl,rv,rw'⟩:∃ u1 u2,us=[u1,u2]/\ZH v u1/\ZH w u2:=by
  cases r1 with
  | cons p q =>
   cases q with
   | cons p' q' =>
    cases q'
    exact⟨_,_,rfl,p,p'⟩
 refine Y9 ?_ (by show 2<=sizeLine; decide)
 have I2:Inv X pins σ H1 { s1 with heap:=s1.heap.push { cls:=.type "tuple",data:=.seq [u1,u2].toArray } }:=I1.kept (t':=s1.toks) λb o e=>Yi _ e
 rw [hw]
 refine Ya (Yc ?_)
 show wpAny (model X.prog X.w) X.A (do rule "assign.swapped-stores"; let items <- unpackItems (.ref s1.heap.objs.size) 2 none; assignInOrder [λv=>bindName X.env y v,λv=>bindName X.env x v] items.reverse; pure Flow.next) _ _ _
 refine Ya (wpAny_rule (Ya (unpackItems_tuple (items:=#[u1,u2]) (I.ok.hd hc) (IsTup.new s1.heap _) λh' hx'=>?_)))
 have I3:=I2.kept (h':=h') (t':=s1.toks) λb o e=>hx' b o (Yn (Ye e)) e
 show wpAny _ _ (assignInOrder [λv=>bindName X.env y v,λv=>bindName X.env x v] [u2,u1] >>= λ_=>pure Flow.next) _ _ _
 refine Ya (assignInOrder_cons (wpAny_bindName (ZcP I3 hN hj (.inl hy) rw' (λs2 I4=>?_) (.inr hy))))
 refine assignInOrder_cons (wpAny_bindName (ZcP I4 hN hi (.inl hx) rv (λs3 I5=>assignInOrder_nil (Yc ?_)) (.inr hx)))
 rw [List.set_comm _ _ (Ne.symm hij)] at I5
 exact⟨_,H1,I5,q1⟩
def ZmC(c:TT)(tb:TS):TS:=λD σ H=>∃ W:Nat->St->Hp->Prop,(∃ m,W m σ H)/\∀ m σ H,W m σ H ->
 c σ H λb H1=>if b=true then ∃ N:St->Hp->Prop,(∀ σ' H',N σ' H'->∃ m',m' < m/\W m' σ' H')/\tb { D with nx:=N,ct:=N,bk:=D.nx } σ H1 else D.nx σ H1
def Zot{c:Expr}{body:List Stmt}{tc:TT}{tb:TS}(hp:PassesOwn (model X.prog X.w) X.A X.env X.xe)(hc:PT X c tc)(hb:PSs X body tb):PS X (.While c body [] pos) (ZmC tc tb):=by
 intro pins s σ H D I h
 obtain⟨W,⟨m0,w0⟩,turn⟩:=h
 refine wpAny_While (codeAny_whileLoop (λn s'=>∃ σ' H',Inv X pins σ' H' s'/\W n σ' H') ?_ m0 ⟨σ,H,I,w0⟩)
 rintro n s1 ⟨σ1,H1,I1,w1⟩
 refine Y1 hp (Z0 (hc pins s1 σ1 H1 _ I1 (turn n σ1 H1 w1)) λb s2 ⟨H2,I2,q2⟩=>?_)
 cases b with
 | true =>
  obtain⟨N,hN,q2⟩:=q2
  rw [if_pos rfl]
  refine Y1 hp (Z0 (hb pins s2 σ1 H2 _ I2 q2) λf s3 q3=>?_)
  cases f with
  | next =>
   obtain⟨σ3,H3,I3,n3⟩:=q3
   obtain⟨m',hm,w3⟩:=hN σ3 H3 n3
   exact⟨m',hm,σ3,H3,I3,w3⟩
  | cont =>
   obtain⟨σ3,H3,I3,n3⟩:=q3
   obtain⟨m',hm,w3⟩:=hN σ3 H3 n3
   exact⟨m',hm,σ3,H3,I3,w3⟩
  | brk=>exact q3
  | ret v=>exact q3
 | false =>
  rw [if_neg Yr]
  exact Va ⟨σ1,H2,I2,q2⟩
end
structure It where
 go:Nat->Hp->Prop
 yld:Nat->Hp->V->Hp->Prop
 stop:Nat->Hp->Prop
def Zh0(X:Cx)(pins:List (Addr × Obj))(H:Hp)(b:Addr):Prop :=
 H b=none/\b ≠ X.env.locals/\b ∉ X.fs/\(b∈X.ex\/X.s₀.heap.objs.size<=b)/\(∀ x c,X.env.cells.lookup x=some c->c ≠ b)/\∀ p∈X.pn ++ pins,p.1 ≠ b
variable {pins:List (Addr × Obj)}{σ:St}
def Inv.fpOk{X:Cx}{H H':Hp}{b:Addr}(I:Inv X pins σ H s)(hb:s.heap.objs.size<=b)(hn:H' b=none):Zh0 X pins H' b:=by
 refine⟨hn,Nat.ne_of_gt (Yl I.lt hb),I.nofs hb,.inr (Yj I.sz hb),λx c e z=>?_,λp hp z=>?_⟩
 ·obtain⟨v,q⟩:=I.cell x c e
  exact absurd (Yl q.lt (by rw [z]; exact hb)) (YE _)
 ·exact absurd (Yl (Ye (I.pin p hp).1) (by rw [z]; exact hb)) (YE _)
structure Turn(P:Program)(w:World)(K:PySem.W.Frag)(tg:Expr)(J:It)(fp:List Addr)(it:Addr)(tn:Nat->Heap->Prop):Prop where
 mem:it∈fp
 obj:∀ i h,tn i h->∀ b∈fp,∃ o,h.get? b=some o/\∀ v,o.data ≠ .cell v
 keep:∀ i h h',tn i h->(∀ b∈fp,∀ o,h.get? b=some o->h'.get? b=some o)->tn i h'
 item:∀ (X:Cx),X.prog=P->X.w=w->X.K=K->X.calm=true->∀ (i:Nat) (pins:List (Addr × Obj)) (s:Shared) (σ:St) (H:Hp) (E:VSP),Inv X pins σ H s->(∀ b∈fp,Zh0 X pins H b)->tn i s.heap->J.go i H ->
  wpAny (model P w) X.A (pyNext (.ref it)) (λr s1=>∃ u,r=some u /\
   wpAny (model P w) X.A (letOwnedTupleGo tg (.ref it) u) (λ_ s2=>∃ x H',Inv X pins σ H' s2/\ZH x u/\J.yld i H x H'/\tn (i + 1) s2.heap/\∀ b∈fp,H' b=none) E s1) E s
 done:∀ (X:Cx),X.prog=P->X.w=w->X.K=K->X.calm=true->∀ (i:Nat) (pins:List (Addr × Obj)) (s:Shared) (σ:St) (H:Hp) (E:VSP),Inv X pins σ H s->(∀ b∈fp,Zh0 X pins H b)->tn i s.heap->J.stop i H ->
  wpAny (model P w) X.A (pyNext (.ref it)) (λr s1=>r=none/\Inv X pins σ H s1) E s
 self:∀ (A:Around) (i:Nat) (s:Shared) (Q:VSP) (E:VSP),tn i s.heap->Q (.ref it) s->wpAny (model P w) A (pyIter (.ref it)) Q E s
abbrev TI:=St->Hp->(It->Hp->Prop)->Prop
def PIE(X:Cx)(pins:List (Addr × Obj))(σ:St)(tg:Expr)(R:It->Hp->Prop)(itv:Value)(s2:Shared):Prop :=
 ∃ (it:Addr) (fp:List Addr) (tn:Nat->Heap->Prop) (J:It) (H':Hp),itv=.ref it/\Inv X pins σ H' s2/\Turn X.prog X.w X.K tg J fp it tn/\tn 0 s2.heap/\(∀ b∈fp,Zh0 X pins H' b)/\R J H'
def PI(X:Cx)(tg iter:Expr)(wi:TI):Prop :=
 ∀ (pins:List (Addr × Obj)) (s:Shared) (σ:St) (H:Hp) (R:It->Hp->Prop),Inv X pins σ H s->wi σ H R ->
  wpAny (model X.prog X.w) X.A (eval iter X.env) (λv s1=>wpAny (model X.prog X.w) X.A (pyIter v) (PIE X pins σ tg R) X.xe s1) X.xe s
variable {Q:Unit->Shared->Prop}
theorem Zoo{M:Model}{tg:Expr}{it:Addr}{o:Obj}{n:String}{vs:Array Value}(ho:s.heap.get? it=some o)(hc:o.cls=.type n)(hd:o.data=.fields vs)
    (hn:["enumerate","zip","dict_itemiterator","dict_reverseitemiterator","odict_iterator","itertools.zip_longest","itertools.pairwise"].contains n=false) (hQ:Q () s):wpAny M A (letOwnedTupleGo tg (.ref it) u) Q E s:=by
  unfold letOwnedTupleGo
  cases tg <;> first
    | exact Yc hQ
    | (cases u <;> first
        | exact Yc hQ
        | (refine Ya (wpAny_load ho ?_)
           rw [hc,hd]
           show wpAny M A (if (["enumerate","zip","dict_itemiterator","dict_reverseitemiterator","odict_iterator","itertools.zip_longest","itertools.pairwise"].contains n && vs[0]? == some (rawInt _))=true then _ else _) Q E s
           rw [if_neg (by intro h; rw [hn,Bool.false_and] at h; cases h)]
           exact Yc hQ))
def Itl(K:PySem.W.Frag)(a:Addr):It :=
 ⟨λi H=>∃ xs x,JP K H a xs/\xs[i]?=some x,λi H x H'=>H'=H/\∀ xs,JP K H a xs->xs[i]?=some x,λi H=>∃ xs,JP K H a xs/\xs.length<=i⟩
def Itt(K:PySem.W.Frag)(a:Addr):It :=
 ⟨λi H=>∃ xs x,SqT K H a xs/\xs[i]?=some x,λi H x H'=>H'=H/\∀ xs,SqT K H a xs->xs[i]?=some x,λi H=>∃ xs,SqT K H a xs/\xs.length<=i⟩
def Itr(lo:Int)(n:Nat):It:=⟨λi _=>i < n,λi H x H'=>H'=H/\x=.int (lo + i),λi _=>n<=i⟩
variable {K:PySem.W.Frag}
def Zlr{tg:Expr}(a it:Addr):Turn P w K tg (Itl K a) [it] it (λi h=>h.IsListIter it a i) where
 mem:=by simp
 obj:=λi h st b hb=>by
  have e:b=it:=by simpa using hb
  subst e
  obtain⟨o,e,c,d⟩:=st
  exact⟨o,e,λv z=>by rw [d] at z; cases z⟩
 keep:=λi h h' st k=>st.at λo e=>k it (by simp) o e
 item:=by
  intro X hP hw hK hc i pins s σ H E I hf st hg
  subst hP hw hK
  obtain⟨xs,x,hq,hx⟩:=hg
  obtain⟨its,rv,p,hz⟩:=I.list hq
  obtain⟨u,hu,ru⟩:=rv.get hx
  obtain⟨f0,f1,f2,f3,f4,f5⟩:=hf it (by simp)
  refine wpAny_pyNext_list_item st p.isList (x:=u) (by simpa using hu) λh' st' sb=>?_
  have I1:Inv X pins σ H { s with heap:=h' }:=I.turned (t':=s.toks) (λb o hb e=>(sb.2 b hb).trans e) f0 f1 f3 f4 f5
  obtain⟨o,e,c,d⟩:=id st'
  exact⟨u,rfl,Zoo (s:={ s with heap:=h' }) e c d (by decide) ⟨x,H,I1,ru,⟨rfl,λys hy=>by rw [I.list_inj hy hq]; exact hx⟩,st',λb hb=>(hf b hb).1⟩⟩
 done:=by
  intro X hP hw hK hc i pins s σ H E I hf st hg
  subst hP hw hK
  obtain⟨xs,hq,hx⟩:=hg
  obtain⟨its,rv,p,hz⟩:=I.list hq
  obtain⟨f0,f1,f2,f3,f4,f5⟩:=hf it (by simp)
  have hl:=rv.length
  exact wpAny_pyNext_list_end (I.ok.hd hc) st p.isList (by simp; omega) λh' eb=>⟨rfl,I.turned (t':=s.toks) (λb o hb e=>eb b o hb e) f0 f1 f3 f4 f5⟩
 self:=λ_ _ _ _ _ st h=>wpAny_pyIter_listiter st h
def Zkf{tg:Expr}(a it:Addr):Turn P w K tg (Itt K a) [it] it (λi h=>h.IsTupleIter it a i) where
 mem:=by simp
 obj:=λi h st b hb=>by
  have e:b=it:=by simpa using hb
  subst e
  obtain⟨o,e,c,d⟩:=st
  exact⟨o,e,λv z=>by rw [d] at z; cases z⟩
 keep:=λi h h' st k=>st.at λo e=>k it (by simp) o e
 item:=by
  intro X hP hw hK hc i pins s σ H E I hf st hg
  subst hP hw hK
  obtain⟨xs,x,hq,hx⟩:=hg
  obtain⟨its,rv,p,hz⟩:=I.tuple hq
  obtain⟨u,hu,ru⟩:=rv.get hx
  obtain⟨f0,f1,f2,f3,f4,f5⟩:=hf it (by simp)
  refine wpAny_pyNext_tuple_item st (show s.heap.IsTuple a its.toArray from p) (x:=u) (by simpa using hu) λh' st' sb=>?_
  have I1:Inv X pins σ H { s with heap:=h' }:=I.turned (t':=s.toks) (λb o hb e=>(sb.2 b hb).trans e) f0 f1 f3 f4 f5
  obtain⟨o,e,c,d⟩:=id st'
  exact⟨u,rfl,Zoo (s:={ s with heap:=h' }) e c d (by decide) ⟨x,H,I1,ru,⟨rfl,λys hy=>by rw [I.tuple_inj hy hq]; exact hx⟩,st',λb hb=>(hf b hb).1⟩⟩
 done:=by
  intro X hP hw hK hc i pins s σ H E I hf st hg
  subst hP hw hK
  obtain⟨xs,hq,hx⟩:=hg
  obtain⟨its,rv,p,hz⟩:=I.tuple hq
  obtain⟨f0,f1,f2,f3,f4,f5⟩:=hf it (by simp)
  have hl:=rv.length
  exact wpAny_pyNext_tuple_end (I.ok.hd hc) st (show s.heap.IsTuple a its.toArray from p) (by simp; omega) λh' eb=>⟨rfl,I.turned (t':=s.toks) (λb o hb e=>eb b o hb e) f0 f1 f3 f4 f5⟩
 self:=λ_ _ _ _ _ st h=>wpAny_pyIter_tupleiter st h
def Zkp{tg:Expr}(it:Addr)(lo:Int)(n:Nat):Turn P w K tg (Itr lo n) [it] it (λi h=>IsRangeIter h it (lo + (i:Nat) * 1) ((n:Int) - (i:Nat)) 1) where
 mem:=by simp
 obj:=λi h st b hb=>by
  have e:b=it:=by simpa using hb
  subst e
  exact⟨_,st,λv z=>by
   have z':Data.fields _=Data.cell v:=z
   cases z'⟩
 keep:=λi h h' st k=>k it (by simp) _ st
 item:=by
  intro X hP hw hK hc i pins s σ H E I hf st hg
  subst hP hw hK
  obtain⟨f0,f1,f2,f3,f4,f5⟩:=hf it (by simp)
  have W:=Walks.range (prog:=X.prog) (w:=X.w) (I.ok.hd hc) it lo 1 n
  refine W.item i s _ _ hg st λv h' tk hv st' kk=>?_
  obtain⟨t,rfl⟩:=hv
  have I1:Inv X pins σ H { s with heap:=h',toks:=tk }:=I.turned (λb o hb e=>kk b o (by simpa using hb) e) f0 f1 f3 f4 f5
  refine⟨_,rfl,Zoo (s:={ s with heap:=h',toks:=tk }) (n:="range_iterator") st' rfl rfl (by decide) ⟨.int (lo + i),H,I1,⟨t,?_⟩,⟨rfl,rfl⟩,st',λb hb=>(hf b hb).1⟩⟩
  rw [Int.mul_one]
 done:=by
  intro X hP hw hK hc i pins s σ H E I hf st hg
  subst hP hw hK
  obtain⟨f0,f1,f2,f3,f4,f5⟩:=hf it (by simp)
  exact wpAny_pyNext_range_end (I.ok.hd hc) st (by have:n<=i:=hg; omega) λh' eb=>⟨rfl,I.turned (t':=s.toks) (λb o hb e=>eb b o hb e) f0 f1 f3 f4 f5⟩
 self:=λ_ _ _ _ _ st h=>wpAny_pyIter_rangeiter st h
section
variable {X:Cx}{tg:Expr}
def Zfo(K:PySem.W.Frag)(tl:TE):TI:=λσ H R=>tl σ H λx H1=>∃ a,x=.ref a/\(∃ xs,JP K H1 a xs)/\R (Itl K a) H1
def Zuz(K:PySem.W.Frag)(tl:TE):TI:=λσ H R=>tl σ H λx H1=>∃ a,x=.ref a/\(∃ xs,SqT K H1 a xs)/\R (Itt K a) H1
def ZpQ{l:Expr}{tl:TE}(hl:PE X l tl):PI X tg l (Zfo X.K tl):=by
 intro pins s σ H R I h
 refine Z0 (hl pins s σ H _ I h) λv s1 ⟨x,H1,I1,r1,q1⟩=>?_
 obtain⟨a,e,⟨xs,hq⟩,q⟩:=q1
 subst e
 cases r1
 obtain⟨its,rv,p,hz⟩:=I1.list hq
 refine wpAny_pyIter_list p.isList ?_
 refine⟨s1.heap.objs.size,[s1.heap.objs.size],_,_,H1,rfl,I1.kept (t':=s1.toks) λb o e=>Yi _ e,Zlr a _,⟨_,Yv _ rfl,rfl,rfl⟩,λb hb=>?_,q⟩
 have e:b=s1.heap.objs.size:=by simpa using hb
 subst e
 exact I1.fpOk (Yd _) (I1.hok.fresh (Yd _))
def Zs6{l:Expr}{tl:TE}(hl:PE X l tl):PI X tg l (Zuz X.K tl):=by
 intro pins s σ H R I h
 refine Z0 (hl pins s σ H _ I h) λv s1 ⟨x,H1,I1,r1,q1⟩=>?_
 obtain⟨a,e,⟨xs,hq⟩,q⟩:=q1
 subst e
 cases r1
 obtain⟨its,rv,p,hz⟩:=I1.tuple hq
 refine wpAny_pyIter_tuple (show s1.heap.IsTuple a its.toArray from p) ?_
 refine⟨s1.heap.objs.size,[s1.heap.objs.size],_,_,H1,rfl,I1.kept (t':=s1.toks) λb o e=>Yi _ e,Zkf a _,⟨_,Yv _ rfl,rfl,rfl⟩,λb hb=>?_,q⟩
 have e:b=s1.heap.objs.size:=by simpa using hb
 subst e
 exact I1.fpOk (Yd _) (I1.hok.fresh (Yd _))
theorem Zi6{R:It->Hp->Prop}{lo hi:Int}{t u v:Tok}{tk:Nat}(I:Inv X pins σ H s)(h1:-(2 ^ 62)<=lo)(h2:lo < 2 ^ 62)(h3:-(2 ^ 62)<=hi)(h4:hi < 2 ^ 62)
  (q:R (Itr lo (hi - lo).toNat) H):wpAny (model X.prog X.w) X.A (pyIter (.ref s.heap.objs.size)) (PIE X pins σ tg R) E { s with heap:=s.heap.push { cls:=.type "range",data:=.fields #[.int lo t,.int hi u,.int 1 v] },toks:=tk }:=by
 refine wpAny_pyIter_range (IsRange.new ..) (small_one h1 h2 h3 h4) ?_
 have I1:Inv X pins σ H { s with heap:=s.heap.push { cls:=.type "range",data:=.fields #[.int lo t,.int hi u,.int 1 v] },toks:=tk }:=I.kept λb o e=>Yi _ e
 refine⟨(s.heap.push { cls:=.type "range",data:=.fields #[.int lo t,.int hi u,.int 1 v] }).objs.size,[(s.heap.push { cls:=.type "range",data:=.fields #[.int lo t,.int hi u,.int 1 v] }).objs.size],_,_,H,rfl,
  I1.kept (t':=tk) λb o e=>Yi _ e,Zkp _ lo (hi - lo).toNat,?_,λb hb=>?_,q⟩
 ·have e1:lo + ((0:Nat):Int) * 1=lo:=by simp
  have e2:(((hi - lo).toNat:Nat):Int) - ((0:Nat):Int)=Builtin.Range.rangeSize lo hi 1:=by rw [rangeSize_one]; split <;> omega
  show IsRangeIter _ _ (lo + ((0:Nat):Int) * 1) ((((hi - lo).toNat:Nat):Int) - ((0:Nat):Int)) 1
  rw [e1,e2]
  exact Yv _ rfl
 ·have e:b=(s.heap.push { cls:=.type "range",data:=.fields #[.int lo t,.int hi u,.int 1 v] }).objs.size:=by simpa using hb
  subst e
  exact I1.fpOk (Yd _) (I1.hok.fresh (Yd _))
def Zk1(ta:TA):TI:=λσ H R=>ta σ H λvs H1=>∃ j:Int,vs=[.int j]/\-(2 ^ 62)<=j/\j < 2 ^ 62/\R (Itr 0 j.toNat) H1
def Zqt(ta:TA):TI:=λσ H R=>ta σ H λvs H1=>∃ i j:Int,vs=[.int i,.int j]/\(-(2 ^ 62)<=i/\i < 2 ^ 62/\-(2 ^ 62)<=j/\j < 2 ^ 62)/\R (Itr i (j - i).toNat) H1
def ZkM{a:Expr}{ta:TA}{p pos:Pos}(hg:Gl X "range")(hm:X.mg "range"=none)(ha:PA X [a] ta)(hs:starEach [a] X.env=[(false,eval a X.env)]:=by rfl):PI X tg (.Call (.Name "range" p) [a] [] pos) (Zk1 ta):=by
 intro pins s σ H R I h
 refine Call_ (Zfc I hg hm boot_range (Vj (Z0 (ha pos pins s σ H _ I h) λus s1 ⟨vs,H1,I1,r1,q1⟩=>?_) hs rfl))
 obtain⟨j,e,q1,q2,q⟩:=q1
 subst e
 cases r1 with
 | cons r rr =>
  cases rr
  obtain⟨t,rfl⟩:=r
  exact call_range_1 (Zi6 I1 (by omega) (by omega) q1 q2 (by simpa using q))
def Zly{a b:Expr}{ta:TA}{p pos:Pos}(hg:Gl X "range")(hm:X.mg "range"=none)(ha:PA X [a,b] ta)(hs:starEach [a,b] X.env=[(false,eval a X.env),(false,eval b X.env)]:=by rfl)(hs2:starEach [b] X.env=[(false,eval b X.env)]:=by rfl) :
  PI X tg (.Call (.Name "range" p) [a,b] [] pos) (Zqt ta):=by
 intro pins s σ H R I h
 refine Call_ (Zfc I hg hm boot_range (Vj (Z0 (ha pos pins s σ H _ I h) λus s1 ⟨vs,H1,I1,r1,q1⟩=>?_) (by rw [hs,hs2]) (by rw [hs2]; rfl)))
 obtain⟨i,j,e,⟨q1,q2,q3,q4⟩,q⟩:=q1
 subst e
 cases r1 with
 | cons r rr =>
  cases rr with
  | cons r' rr =>
   cases rr
   obtain⟨t,rfl⟩:=r
   obtain⟨t',rfl⟩:=r'
   exact call_range_2 (Zi6 I1 q1 q2 q3 q4 q)
def Zrr(wi:TI)(g:TG)(tb:TS):TS:=λD σ H=>wi σ H λJ H1=>∃ W:Nat->Nat->St->Hp->Prop,(∃ m,W 0 m σ H1)/\∀ i m σ H,W i m σ H ->
 (J.stop i H/\D.nx σ H)\/(J.go i H/\∃ N:St->Hp->Prop,(∀ σ' H',N σ' H'->∃ m',m' < m/\W (i + 1) m' σ' H')/\∀ x H',J.yld i H x H'->g x σ H' λσ2 H2=>tb { D with nx:=N,ct:=N,bk:=D.nx } σ2 H2)
def Zi8(fp:List Addr)(h:Heap):List (Addr × Obj):=fp.filterMap λb=>(h.get? b).map λo=>(b,o)
def ZbN{fp:List Addr}{h:Heap}{b:Addr}{o:Obj}(hb:b∈fp)(e:h.get? b=some o):(b,o)∈Zi8 fp h:=List.mem_filterMap.mpr ⟨b,hb,by rw [e]; rfl⟩
def ZmH{fp:List Addr}{h:Heap}{p:Addr × Obj}(hp:p∈Zi8 fp h):p.1∈fp/\h.get? p.1=some p.2:=by
 obtain⟨b,hb,e⟩:=List.mem_filterMap.mp hp
 cases q:h.get? b with
 | none=>rw [q] at e; cases e
 | some o =>
  rw [q] at e
  have e':(b,o)=p:=YB e
  subst e'
  exact⟨hb,q⟩
def Inv.pinned{fp:List Addr}(I:Inv X pins σ H s)(hf:∀ b∈fp,Zh0 X pins H b)(ho:∀ b∈fp,∃ o,s.heap.get? b=some o/\∀ v,o.data ≠ .cell v):Inv X (pins ++ Zi8 fp s.heap) σ H s :=
 I.pins_of λp hp=>(Yz.mp hp).elim (λz=>I.pin p (Yw _ z)) λz=>by
  obtain⟨hb,e⟩:=ZmH z
  obtain⟨f0,f1,f2,_⟩:=hf p.1 hb
  obtain⟨o,e',d⟩:=ho p.1 hb
  rw [e] at e'; cases e'
  exact⟨e,f0,f1,f2,d⟩
def Inv.unpinned{pins pl:List (Addr × Obj)}(I:Inv X (pins ++ pl) σ H s):Inv X pins σ H s:=I.pins_of λp hp=>I.pin p (Yw _ (List.mem_append_left _ hp))
def ZrZ{iter:Expr}{body:List Stmt}{wi:TI}{g:TG}{tb:TS}{pos:Pos}(hp:PassesOwn (model X.prog X.w) X.A X.env X.xe)(hc:X.calm=true)(hi:PI X tg iter wi)(hg:PG X tg g)(hb:PSs X body tb)
  (hs:∀ x,foldedSetIterable iter X.env x=pure x:=by intro _; rfl):PS X (.For tg iter body [] pos) (Zrr wi g tb):=by
 intro pins s σ H D I h
 refine wpAny_For (Z0 (hi pins s σ H _ I h) λv s1 h1=>Z0 h1 λitv s2 h2=>?_) hs
 obtain⟨it,fp,tn,J,H2,e,I2,T,st2,f2,W,⟨m0,w0⟩,turn⟩:=h2
 subst e
 -- what stays true of the iterator's objects through the loop
 have stat:∀ {H':Hp},(∀ b∈fp,H' b=none)->∀ b∈fp,Zh0 X pins H' b:=λhn b hb=>⟨hn b hb,(f2 b hb).2⟩
 refine codeAny_forLoop_any (λn s'=>∃ i σ' H',Inv X pins σ' H' s'/\tn i s'.heap/\(∀ b∈fp,H' b=none)/\W i n σ' H') ?_ m0 ⟨0,σ,H2,I2,st2,λb hb=>(f2 b hb).1,w0⟩
 rintro n s3 ⟨i,σ3,H3,I3,st3,fr3,w3⟩
 rcases turn i n σ3 H3 w3 with ⟨stop,qn⟩ | ⟨go,N,hN,step⟩
 ·refine Y1 hp (Z0 (T.done X rfl rfl rfl hc i pins s3 σ3 H3 X.xe I3 (stat fr3) st3 stop) λr s4 ⟨hr,I4⟩=>?_)
  subst hr
  exact Va ⟨σ3,H3,I4,qn⟩
 ·refine Y1 hp (Z0 (T.item X rfl rfl rfl hc i pins s3 σ3 H3 X.xe I3 (stat fr3) st3 go) λr s4 ⟨u,hr,h4⟩=>?_)
  subst hr
  refine Y1 hp (Z0 h4 λ_ s5 ⟨x,H5,I5,r5,y5,st5,fr5⟩=>?_)
  have I5':=I5.pinned (stat fr5) (T.obj _ _ st5)
  refine Y1 hp (Z0 (hg _ s5 σ3 H5 x u _ I5' r5 (step x H5 y5)) λ_ s6 ⟨σ6,H6,I6,q6⟩=>?_)
  refine Y1 hp (Z0 (hb _ s6 σ6 H6 _ I6 q6) λf s7 q7=>?_)
  have again:∀ {σ7:St}{H7:Hp},Inv X (pins ++ Zi8 fp s5.heap) σ7 H7 s7->N σ7 H7->∃ m,m < n/\∃ i σ' H',Inv X pins σ' H' s7/\tn i s7.heap/\(∀ b∈fp,H' b=none)/\W i m σ' H':=λ{σ7 H7} I7 n7=>by
   obtain⟨m',hm,w7⟩:=hN σ7 H7 n7
   refine⟨m',hm,i + 1,σ7,H7,I7.unpinned,T.keep _ _ _ st5 λb hb o e=>(I7.pin (b,o) (Yw _ (Yw _ (ZbN hb e)))).1,λb hb=>?_,w7⟩
   obtain⟨o,e,d⟩:=T.obj _ _ st5 b hb
   exact (I7.pin (b,o) (Yw _ (Yw _ (ZbN hb e)))).2.1
  cases f with
  | next=>obtain⟨σ7,H7,I7,n7⟩:=q7; exact again I7 n7
  | cont=>obtain⟨σ7,H7,I7,n7⟩:=q7; exact again I7 n7
  | brk=>obtain⟨σ7,H7,I7,q7⟩:=q7; exact⟨σ7,H7,I7.unpinned,q7⟩
  | ret v=>obtain⟨x7,σ7,H7,I7,r7,q7⟩:=q7; exact⟨x7,σ7,H7,I7.unpinned,r7,q7⟩
end
def ZnL{a:Addr}{xs:List V}{g:TG}{tb:TS}{D:Ends}(Pv:Nat->St->Hp->Prop)(h0:Pv 0 σ H)(hl:∀ i σ H,i<=xs.length->Pv i σ H->JP K H a xs)
  (hs:∀ i x σ H,xs[i]?=some x->Pv i σ H->g x σ H λσ2 H2=>tb { D with nx:=Pv (i + 1),ct:=Pv (i + 1),bk:=D.nx } σ2 H2) (hd:∀ σ H,Pv xs.length σ H->D.nx σ H) :
  ∃ W:Nat->Nat->St->Hp->Prop,(∃ m,W 0 m σ H)/\∀ i m σ H,W i m σ H ->
   ((Itl K a).stop i H/\D.nx σ H)\/((Itl K a).go i H/\∃ N:St->Hp->Prop,(∀ σ' H',N σ' H'->∃ m',m' < m/\W (i + 1) m' σ' H')/\∀ x H',(Itl K a).yld i H x H'->g x σ H' λσ2 H2=>tb { D with nx:=N,ct:=N,bk:=D.nx } σ2 H2):=by
 refine⟨λi m σ H=>m=xs.length - i/\i<=xs.length/\Pv i σ H,⟨xs.length,by simp,Nat.zero_le _,h0⟩,?_⟩
 rintro i m σ H ⟨rfl,hi,p⟩
 have q:=hl i σ H hi p
 by_cases hlt:i < xs.length
 ·refine .inr ⟨⟨xs,xs[i],q,by simp [hlt]⟩,Pv (i + 1),λσ' H' p'=>⟨xs.length - (i + 1),by omega,rfl,hlt,p'⟩,λx H' y=>?_⟩
  obtain⟨e,y⟩:=y
  subst e
  exact hs i x σ _ (y xs q) p
 ·have e:i=xs.length:=by omega
  subst e
  exact .inl ⟨⟨xs,q,Yd _⟩,hd σ H p⟩
abbrev R2:=V->V->Hp->VK->Prop
def OpR(X:Cx)(f:Value->Value->Sem Value)(r:R2):Prop :=
 ∀ (pins:List (Addr × Obj)) (s:Shared) (σ:St) (H:Hp) (x y:V) (v u:Value) (Q:VK),Inv X pins σ H s->ZH x v->ZH y u->r x y H Q ->
  wpAny (model X.prog X.w) X.A (f v u) (EP X pins σ Q) X.xe s
def UnR(X:Cx)(f:Value->Sem Value)(r:V->Hp->VK->Prop):Prop :=
 ∀ (pins:List (Addr × Obj)) (s:Shared) (σ:St) (H:Hp) (x:V) (v:Value) (Q:VK),Inv X pins σ H s->ZH x v->r x H Q ->
  wpAny (model X.prog X.w) X.A (f v) (EP X pins σ Q) X.xe s
def JC(X:Cx)(f:Value)(r:List V->Hp->VK->Prop):Prop :=
 ∀ (pins:List (Addr × Obj)) (s:Shared) (σ:St) (H:Hp) (xs:List V) (us:List Value) (Q:VK),Inv X pins σ H s->ZB xs us->r xs H Q ->
  wpAny (model X.prog X.w) X.A (call f us) (EP X pins σ Q) X.xe s
def ZuX(X:Cx)(r:V->Hp->(Bool->Hp->Prop)->Prop):Prop :=
 ∀ (pins:List (Addr × Obj)) (s:Shared) (σ:St) (H:Hp) (x:V) (v:Value) (Q:Bool->Hp->Prop),Inv X pins σ H s->ZH x v->r x H Q ->
  wpAny (model X.prog X.w) X.A (truthy v) (TP X pins σ Q) X.xe s
def JQ(r:R2)(ta tb:TE):TE:=λσ H Q=>ta σ H λx H1=>tb σ H1 λy H2=>r x y H2 Q
def tUn(r:V->Hp->VK->Prop)(ta:TE):TE:=λσ H Q=>ta σ H λx H1=>r x H1 Q
def rI(C:Int->Int->Prop)(g:Int->Int->V):R2:=λx y H Q=>∃ i j,x=.int i/\y=.int j/\C i j/\Q (g i j) H
def rI0(g:Int->Int->V):R2:=λx y H Q=>∃ i j,x=.int i/\y=.int j/\Q (g i j) H
def rU(g:Int->V):V->Hp->VK->Prop:=λx H Q=>∃ i,x=.int i/\Q (g i) H
section
variable {X:Cx}{a b c:Expr}{ta tb tc:TE}{pos:Pos}
def Zt8(ha:PE X a ta)(hb:PE X b tb){pins:List (Addr × Obj)}{s:Shared}{σ:St}{H:Hp}{R:V->V->Hp->Prop}(I:Inv X pins σ H s)
  (h:ta σ H λx H1=>tb σ H1 λy H2=>R x y H2) {Q:VSP}{f:Value->Value->Sem Value}
  (hf:∀ v u s2 x y H2,Inv X pins σ H2 s2->ZH x v->ZH y u->R x y H2->wpAny (model X.prog X.w) X.A (f v u) Q X.xe s2) :
  wpAny (model X.prog X.w) X.A (eval a X.env) (λv s₁=>wpAny (model X.prog X.w) X.A (eval b X.env) (λu s₂=>wpAny (model X.prog X.w) X.A (f v u) Q X.xe s₂) X.xe s₁) X.xe s:=by
 refine Z0 (ha pins s σ H _ I h) λv s1 ⟨x,H1,I1,r1,q1⟩=>?_
 refine Z0 (hb pins s1 σ H1 _ I1 q1) λu s2 ⟨y,H2,I2,r2,q2⟩=>?_
 exact hf v u s2 x y H2 I2 r1 r2 q2
def ZeV{op:Operator}{r:R2}(ho:OpR X (binaryOp op) r)(ha:PE X a ta)(hb:PE X b tb):PE X (.BinOp a op b pos) (JQ r ta tb):=by
 intro pins s σ H Q I h
 exact wpAny_BinOp (Zt8 ha hb I h λv u s2 x y H2 I2 rx ry q=>ho pins s2 σ H2 x y v u Q I2 rx ry q)
def Zt6{op:UnaryOp}{r:V->Hp->VK->Prop}(ho:UnR X (unaryOp op) r)(ha:PE X a ta):PE X (.UnaryOp op a pos) (tUn r ta):=by
 intro pins s σ H Q I h
 exact UnaryOp_ (Z0 (ha pins s σ H _ I h) λv s1 ⟨x,H1,I1,r1,q1⟩=>ho pins s1 σ H1 x v Q I1 r1 q1)
def opI{f:Value->Value->Sem Value}{C:Int->Int->Prop}{g:Int->Int->Int}
  (rule:∀ (i j:Int) (t u:Tok) (s:Shared) (Q:VSP) (E:VSP),C i j->Q (.int (g i j) s.toks) { s with toks:=s.toks + 1 }->wpAny (model X.prog X.w) X.A (f (.int i t) (.int j u)) Q E s) :
  OpR X f (rI C λi j=>.int (g i j)):=by
 intro pins s σ H x y v u Q I rx ry h
 obtain⟨i,j,rfl,rfl,hc,q⟩:=h
 obtain⟨t,rfl⟩:=rx
 obtain⟨t',rfl⟩:=ry
 exact rule i j t t' s _ _ hc ⟨.int (g i j),H,I.tok _,⟨_,rfl⟩,q⟩
def ZuM{f:Value->Value->Sem Value}{g:Int->Int->Int}
  (rule:∀ (i j:Int) (t u:Tok) (s:Shared) (Q:VSP) (E:VSP),Q (.int (g i j) s.toks) { s with toks:=s.toks + 1 }->wpAny (model X.prog X.w) X.A (f (.int i t) (.int j u)) Q E s) :
  OpR X f (rI0 λi j=>.int (g i j)):=by
 intro pins s σ H x y v u Q I rx ry h
 obtain⟨i,j,rfl,rfl,q⟩:=h
 obtain⟨t,rfl⟩:=rx
 obtain⟨t',rfl⟩:=ry
 exact rule i j t t' s _ _ ⟨.int (g i j),H,I.tok _,⟨_,rfl⟩,q⟩
def Ztq{f:Value->Value->Sem Value}{g:Int->Int->Bool}
  (rule:∀ (i j:Int) (t u:Tok) (s:Shared) (Q:VSP) (E:VSP),Q (.bool (g i j)) s->wpAny (model X.prog X.w) X.A (f (.int i t) (.int j u)) Q E s) :
  OpR X f (rI0 λi j=>.bl (g i j)):=by
 intro pins s σ H x y v u Q I rx ry h
 obtain⟨i,j,rfl,rfl,q⟩:=h
 obtain⟨t,rfl⟩:=rx
 obtain⟨t',rfl⟩:=ry
 exact rule i j t t' s _ _ ⟨.bl (g i j),H,I,rfl,q⟩
def Ztl(i j:Int):Prop:=0 < j/\j < 1073741824
def Ztt(i j:Int):Prop:=0<=j/\j<=1000000/\i.natAbs < 2 ^ 64
def Zru(i j:Int):Prop:=(-(2 ^ 64) < i/\i < 2 ^ 64)\/(-(2 ^ 64) < j/\j < 2 ^ 64)
theorem Zru.ok{i j:Int}(h:Zru i j):IntMulOk i j:=by
 rcases h with ⟨h1,h2⟩ | ⟨h1,h2⟩
 ·exact .of_left (intBits_le_64 h1 h2)
 ·exact .of_right (intBits_le_64 h1 h2)
def Zs9:OpR X (binaryOp .Add) (rI0 λi j=>.int (i + j)):=ZuM λ_ _ _ _ _ _ _ q=>add_int q
def ZsY:OpR X (binaryOp .Sub) (rI0 λi j=>.int (i - j)):=ZuM λ_ _ _ _ _ _ _ q=>sub_int q
def ZrQ:OpR X (binaryOp .Mult) (rI Zru λi j=>.int (i * j)):=opI λ_ _ _ _ _ _ _ hc q=>mul_int q hc.ok
def ZqO:OpR X (binaryOp .FloorDiv) (rI Ztl λi j=>.int (i / j)):=opI λi j _ _ _ _ _ hc q=>by
 have h1:(0:Int) < j:=hc.1
 have h2:j < 1073741824:=hc.2
 exact floordiv_int (by omega) (by rw [Int.fdiv_eq_ediv_of_nonneg i (by omega)]; exact q) (.inl (PyProof.noPylong_small (by omega)))
def Zs4:OpR X (binaryOp .Mod) (rI (λ_ j=>0 < j) λi j=>.int (i % j)):=opI λi j _ _ _ _ _ hc q=>by
 have h1:(0:Int) < j:=hc
 exact mod_int' (by omega) (by rw [Int.fmod_eq_emod_of_nonneg i (by omega)]; exact q)
def Zq1:OpR X (binaryOp .Mod) (rI (λ_ j=>j ≠ 0) λi j=>.int (i.fmod j)):=opI λ_ _ _ _ _ _ _ hc q=>mod_int' hc q
def Zr2:OpR X (binaryOp .Pow) (rI Ztt λi j=>.int (i ^ j.toNat)):=opI λ_ _ _ _ _ _ _ hc q=>pow_int_small hc.1 hc.2.1 hc.2.2 q
def unI{f:Value->Sem Value}{g:Int->Int}
  (rule:∀ (i:Int) (t:Tok) (s:Shared) (Q:VSP) (E:VSP),Q (.int (g i) s.toks) { s with toks:=s.toks + 1 }->wpAny (model X.prog X.w) X.A (f (.int i t)) Q E s) :
  UnR X f (rU λi=>.int (g i)):=by
 intro pins s σ H x v Q I rx h
 obtain⟨i,rfl,q⟩:=h
 obtain⟨t,rfl⟩:=rx
 exact rule i t s _ _ ⟨.int (g i),H,I.tok _,⟨_,rfl⟩,q⟩
def Zr5:UnR X (unaryOp .USub) (rU λi=>.int (-i)):=unI λ_ _ _ _ _ q=>neg_int q
end
def Zts:V->V->Bool
 | .non,.non=>true | .non,.int _=>true | .int _,.non=>true | .non,.bl _=>true | .bl _,.non=>true | .non,.str _=>true | .str _,.non=>true
 | .int _,.int _=>true | .bl _,.bl _=>true | .str _,.str _=>true | .byt _,.byt _=>true
 | .int _,.str _=>true | .str _,.int _=>true | .bl _,.str _=>true | .str _,.bl _=>true
 | _,_=>false
def rEq:R2:=λx y H Q=>Zts x y=true/\Q (.bl (decide (x=y))) H
def rNe:R2:=λx y H Q=>Zts x y=true/\Q (.bl (!decide (x=y))) H
def Zl4{i j:Int}:decide (V.int i=V.int j)=(i == j):=by
 rw [Ve]
 simp
def Zo0{i j:Bool}:decide (V.bl i=V.bl j)=(i == j):=by
 rw [Ve]
 simp
def Zk9{i j:Str}:decide (V.str i=V.str j)=(i == j):=by
 rw [Ve]
 simp
def Zl9{i j:Array UInt8}:decide (V.byt i=V.byt j)=(i.toList == j.toList):=by
 rw [Ve]
 cases i
 cases j
 simp
section
variable {X:Cx}{a b c:Expr}{ta tb tc:TE}{pos:Pos}
theorem ZT{Q:VK}{k k':Bool}(I:Inv X pins σ H s)(q:Q (.bl k) H)(e:k=k'):EP X pins σ Q (.bool k') s:=by
 subst e
 exact⟨.bl k,H,I,rfl,q⟩
def ZsT:OpR X (compareOp .Eq) rEq:=by
 intro pins s σ H x y v u Q I rx ry h
 obtain⟨hs,q⟩:=h
 cases x with
 | non =>
  cases rx
  cases y with
  | non=>cases ry; exact PySem.EqNone.eq_none_none (ZT I q (by simp))
  | bl j=>cases ry; exact PySem.EqNone.eq_none_bool (ZT I q (by simp))
  | int j=>obtain⟨t',rfl⟩:=ry; exact PySem.EqNone.eq_none_int (ZT I q (by simp))
  | str j=>obtain⟨t',rfl⟩:=ry; exact PySem.EqNone.eq_none_str (ZT I q (by simp))
  | _=>exact absurd (show false=true from hs) Yr
 | bl i =>
  cases rx
  cases y with
  | non=>cases ry; exact PySem.EqNone.eq_bool_none (ZT I q (by simp))
  | bl j=>cases ry; exact eq_bool (ZT I q Zo0)
  | str j=>obtain⟨t',rfl⟩:=ry; exact PySem.EqMixed.eq_bool_str (ZT I q (by simp))
  | _=>exact absurd (show false=true from hs) Yr
 | int i =>
  obtain⟨t,rfl⟩:=rx
  cases y with
  | non=>cases ry; exact PySem.EqNone.eq_int_none (ZT I q (by simp))
  | int j=>obtain⟨t',rfl⟩:=ry; exact eq_int (ZT I q Zl4)
  | str j=>obtain⟨t',rfl⟩:=ry; exact PySem.EqMixed.eq_int_str (ZT I q (by simp))
  | _=>exact absurd (show false=true from hs) Yr
 | str i =>
  obtain⟨t,rfl⟩:=rx
  cases y with
  | non=>cases ry; exact PySem.EqNone.eq_str_none (ZT I q (by simp))
  | bl j=>cases ry; exact PySem.EqMixed.eq_str_bool (ZT I q (by simp))
  | int j=>obtain⟨t',rfl⟩:=ry; exact PySem.EqMixed.eq_str_int (ZT I q (by simp))
  | str j=>obtain⟨t',rfl⟩:=ry; exact eq_str (ZT I q Zk9)
  | _=>exact absurd (show false=true from hs) Yr
 | byt i =>
  obtain⟨t,rfl⟩:=rx
  cases y with
  | byt j=>obtain⟨t',rfl⟩:=ry; exact PySem.W.eq_bytes (ZT I q Zl9)
  | _=>exact absurd (show false=true from hs) Yr
 | _=>cases y <;> exact absurd (show false=true from hs) Yr
def Zuc:OpR X (compareOp .NotEq) rNe:=by
 intro pins s σ H x y v u Q I rx ry h
 obtain⟨hs,q⟩:=h
 cases x with
 | non =>
  cases rx
  cases y with
  | non=>cases ry; exact PySem.EqNone.ne_none_none (ZT I q (by simp))
  | bl j=>cases ry; exact PySem.EqNone.ne_none_bool (ZT I q (by simp))
  | int j=>obtain⟨t',rfl⟩:=ry; exact PySem.EqNone.ne_none_int (ZT I q (by simp))
  | str j=>obtain⟨t',rfl⟩:=ry; exact PySem.EqNone.ne_none_str (ZT I q (by simp))
  | _=>exact absurd (show false=true from hs) Yr
 | bl i =>
  cases rx
  cases y with
  | non=>cases ry; exact PySem.EqNone.ne_bool_none (ZT I q (by simp))
  | bl j=>cases ry; exact ne_bool (ZT I q (congrArg not Zo0))
  | str j=>obtain⟨t',rfl⟩:=ry; exact PySem.EqMixed.ne_bool_str (ZT I q (by simp))
  | _=>exact absurd (show false=true from hs) Yr
 | int i =>
  obtain⟨t,rfl⟩:=rx
  cases y with
  | non=>cases ry; exact PySem.EqNone.ne_int_none (ZT I q (by simp))
  | int j=>obtain⟨t',rfl⟩:=ry; exact ne_int (ZT I q (congrArg not Zl4))
  | str j=>obtain⟨t',rfl⟩:=ry; exact PySem.EqMixed.ne_int_str (ZT I q (by simp))
  | _=>exact absurd (show false=true from hs) Yr
 | str i =>
  obtain⟨t,rfl⟩:=rx
  cases y with
  | non=>cases ry; exact PySem.EqNone.ne_str_none (ZT I q (by simp))
  | bl j=>cases ry; exact PySem.EqMixed.ne_str_bool (ZT I q (by simp))
  | int j=>obtain⟨t',rfl⟩:=ry; exact PySem.EqMixed.ne_str_int (ZT I q (by simp))
  | str j=>obtain⟨t',rfl⟩:=ry; exact ne_str (ZT I q (congrArg not Zk9))
  | _=>exact absurd (show false=true from hs) Yr
 | byt i =>
  obtain⟨t,rfl⟩:=rx
  cases y with
  | byt j=>obtain⟨t',rfl⟩:=ry; exact PySem.W.ne_bytes (ZT I q (congrArg not Zl9))
  | _=>exact absurd (show false=true from hs) Yr
 | _=>cases y <;> exact absurd (show false=true from hs) Yr
theorem ZqP:OpR X (compareOp .Lt) (rI0 λi j=>.bl (decide (i < j))):=Ztq λ_ _ _ _ _ _ _ q=>lt_int q
theorem Zri:OpR X (compareOp .LtE) (rI0 λi j=>.bl (decide (i<=j))):=Ztq λ_ _ _ _ _ _ _ q=>le_int q
def Zuo:OpR X (compareOp .Gt) (rI0 λi j=>.bl (decide (j < i))):=Ztq λ_ _ _ _ _ _ _ q=>gt_int q
def ZrK:OpR X (compareOp .GtE) (rI0 λi j=>.bl (decide (j<=i))):=Ztq λ_ _ _ _ _ _ _ q=>ge_int q
def Zl6:OpR X (compareOp .In) (λx y H Q=>∃ i j,x=.str i/\y=.str j/\Q (.bl (!(Builtin.Str.occurrences j i 0 j.length 1).isEmpty)) H):=by
 intro pins s σ H x y v u Q I rx ry h
 obtain⟨i,j,rfl,rfl,q⟩:=h
 obtain⟨t,rfl⟩:=rx
 obtain⟨t',rfl⟩:=ry
 exact in_str (ZT I q rfl)
def Zsr:OpR X (compareOp .Is) (λx y H Q=>y=.non/\Q (.bl (decide (x=.non))) H):=by
 intro pins s σ H x y v u Q I rx ry h
 obtain⟨rfl,q⟩:=h
 cases ry
 refine is_none_gen (ZT I q ?_)
 cases x <;> first
  | (cases rx; rfl)
  | (obtain⟨t,rfl⟩:=rx; rfl)
def Zb1(b:Expr){op:CmpOp}(h:op ≠ .In:=by decide)(h2:op ≠ .NotIn:=by decide):behindInMarks op b=false:=by
 have e1:(op == CmpOp.In)=false:=by cases op <;> first | rfl | exact absurd rfl h
 have e2:(op == CmpOp.NotIn)=false:=by cases op <;> first | rfl | exact absurd rfl h2
 cases b <;> simp [behindInMarks,e1,e2]
theorem ZdN{op:CmpOp}{r:R2}(ho:OpR X (compareOp op) r)(ha:PE X a ta)(hb:PE X b tb)(hm:behindInMarks op b=false):PE X (.Compare a [op] [b] pos) (JQ r ta tb):=by
 intro pins s σ H Q I h
 exact wpAny_Compare1 (Zt8 ha hb I h λv u s2 x y H2 I2 rx ry q=>ho pins s2 σ H2 x y v u Q I2 rx ry q) hm
def Jt(t:TE):TT:=λσ H Q=>t σ H λx H'=>∃ k,x=.bl k/\Q k H'
def Zcr{op:CmpOp}{r:R2}(ho:OpR X (compareOp op) r)(ha:PE X a ta)(hb:PE X b tb)(hm:behindInMarks op b=false):PT X (.Compare a [op] [b] pos) (Jt (JQ r ta tb)):=by
 intro pins s σ H Q I h
 refine wpAny_isTrue_Compare1 (Z0 (ha pins s σ H _ I h) λv s1 ⟨x,H1,I1,r1,q1⟩=>Z0 (hb pins s1 σ H1 _ I1 q1) λu s2 ⟨y,H2,I2,r2,q2⟩ =>
  Z0 (ho pins s2 σ H2 x y v u _ I2 r1 r2 q2) λc s3 ⟨z,H3,I3,r3,k,e,q3⟩=>?_) hm
 subst e
 cases r3
 exact YG ⟨H3,I3,q3⟩
def Zfu(r r':R2)(ta tb tc:TE):TE:=λσ H Q=>ta σ H λx H1=>tb σ H1 λy H2=>r x y H2 λz H3=>∃ k,z=.bl k /\
 (if k=true then tc σ H3 λw' H4=>r' y w' H4 Q else Q (.bl false) H3)
theorem Zm3{op op':CmpOp}{r r':R2}(ho:OpR X (compareOp op) r)(ho':OpR X (compareOp op') r')(ha:PE X a ta)(hb:PE X b tb)(hc:PE X c tc)
  (hm:lastMarks [op,op'] [b,c]=false:=by with_unfolding_all rfl):PE X (.Compare a [op,op'] [b,c] pos) (Zfu r r' ta tb tc):=by
 intro pins s σ H Q I h
 refine Compare_chain (Z0 (ha pins s σ H _ I h) λv s1 ⟨x,H1,I1,r1,q1⟩=>chain_link (Z0 (hb pins s1 σ H1 _ I1 q1) λu s2 ⟨y,H2,I2,r2,q2⟩ =>
  Z0 (ho pins s2 σ H2 x y v u _ I2 r1 r2 q2) λd s3 ⟨z,H3,I3,r3,k,e,q3⟩=>?_)) hm
 subst e
 cases r3
 refine YG ?_
 cases k with
 | false=>exact ite_ff ⟨.bl false,H3,I3,rfl,q3⟩
 | true=>exact ite_tt (chain_last (Z0 (hc pins s3 σ H3 _ I3 q3) λw' s4 ⟨z',H4,I4,r4,q4⟩=>ho' pins s4 σ H4 y z' u w' Q I4 r2 r4 q4))
theorem Zn5{op op':CmpOp}{r r':R2}(ho:OpR X (compareOp op) r)(ho':OpR X (compareOp op') r')(ha:PE X a ta)(hb:PE X b tb)(hc:PE X c tc)
  (hm:lastMarks [op,op'] [b,c]=false:=by with_unfolding_all rfl):PT X (.Compare a [op,op'] [b,c] pos) (Jt (Zfu r r' ta tb tc)):=by
 intro pins s σ H Q I h
 refine isTrue_chain (Z0 (ha pins s σ H _ I h) λv s1 ⟨x,H1,I1,r1,q1⟩=>test_link (Z0 (hb pins s1 σ H1 _ I1 q1) λu s2 ⟨y,H2,I2,r2,q2⟩ =>
  Z0 (ho pins s2 σ H2 x y v u _ I2 r1 r2 q2) λd s3 ⟨z,H3,I3,r3,k,e,q3⟩=>?_)) hm
 subst e
 cases r3
 refine YG ?_
 cases k with
 | false =>
  obtain⟨k',e',q'⟩:=q3
  cases e'
  exact ite_ff ⟨H3,I3,q'⟩
 | true =>
  refine ite_tt (test_last (Z0 (hc pins s3 σ H3 _ I3 q3) λw' s4 ⟨z',H4,I4,r4,q4⟩=>Z0 (ho' pins s4 σ H4 y z' u w' _ I4 r2 r4 q4) λd' s5 ⟨z2,H5,I5,r5,k2,e2,q5⟩=>?_))
  subst e2
  cases r5
  exact YG ⟨H5,I5,q5⟩
def Zuk(K:PySem.W.Frag)(x:V)(H:Hp)(k:Bool):Prop :=
 match x with
 | .non=>k=false
 | .bl b=>k=b
 | .int i=>k=(i != 0)
 | .str y=>y.length<=sizeLine/\k=((y.length:Int) != 0)
 | .byt y=>y.size<=sizeLine/\k=((y.size:Int) != 0)
 | .ref p=>(∃ xs,JP K H p xs/\k=!xs.isEmpty)\/(∃ xs,SqT K H p xs/\k=!xs.isEmpty)\/∃ kvs,H p=some (.dK kvs)/\k=!kvs.isEmpty
 | _=>False
def ZkB{κ:Type}{kvs:List (κ × V)}{vs:List (κ × Value)}(r:KV kvs vs):(!vs.isEmpty)=!kvs.isEmpty:=by
 cases r <;> rfl
theorem Zfv{xs:List V}{its:List Value}(r:ZB xs its):(!its.toArray.isEmpty)=!xs.isEmpty:=by
 cases r <;> simp
def ZeR:(sizeLine:Nat) < 2 ^ 63:=by rw [Y2]; decide
def Zs1:ZuX X (λx H Q=>∃ k,Zuk X.K x H k/\Q k H):=by
 intro pins s σ H x v Q I rx h
 obtain⟨k,e,q⟩:=h
 have hl:=ZeR
 have hs:sizeLine=16777216:=Y2
 cases x with
 | non =>
  cases rx
  have e':k=false:=e
  subst e'
  exact truthy_none ⟨H,I,q⟩
 | bl b =>
  cases rx
  have e':k=b:=e
  subst e'
  exact YG ⟨H,I,q⟩
 | int i =>
  obtain⟨t,rfl⟩:=rx
  have e':k=(i != 0):=e
  subst e'
  exact PySem.P.truthy_int ⟨H,I,q⟩
 | str y =>
  obtain⟨t,rfl⟩:=rx
  obtain⟨hy,e'⟩:y.length<=sizeLine/\k=((y.length:Int) != 0):=e
  subst e'
  exact PySem.P.truthy_str (by omega) ⟨H,I.tok _,q⟩
 | byt y =>
  obtain⟨t,rfl⟩:=rx
  obtain⟨hy,e'⟩:y.size<=sizeLine/\k=((y.size:Int) != 0):=e
  subst e'
  exact PySem.W.truthy_bytes (by omega) ⟨H,I.tok _,q⟩
 | ref p =>
  cases rx
  have e':(∃ xs,JP X.K H p xs/\k=!xs.isEmpty)\/(∃ xs,SqT X.K H p xs/\k=!xs.isEmpty)\/∃ kvs,H p=some (.dK kvs)/\k=!kvs.isEmpty:=e
  rcases e' with ⟨xs,hx,e'⟩ | ⟨xs,hx,e'⟩ | ⟨kvs,hx,e'⟩
  ·subst e'
   obtain⟨its,r,pl,hz⟩:=I.list hx
   have hlen:=r.length
   exact wpAny_truthy_list pl.isList (by simp only [List.size_toArray]; omega) ⟨H,I.tok _,by rw [Zfv r]; exact q⟩
  ·subst e'
   obtain⟨its,r,pl,hz⟩:=I.tuple hx
   have hlen:=r.length
   exact truthy_tuple pl (by simp only [List.size_toArray]; omega) ⟨H,I.tok _,by rw [Zfv r]; exact q⟩
  ·subst e'
   obtain⟨hz,hS,vs,r,m⟩:kvs.length<=sizeLine/\(p == sysModules)=false/\∃ vs,KV kvs vs/\s.heap.DictOf (ZU X.prog X.w) p vs:=I.hok p _ hx
   have hlen:kvs.length=vs.length:=Paired.length r
   exact wpAny_truthy_dict hS m (by omega) ⟨H,I.tok _,by rw [ZkB r]; exact q⟩
 | _=>exact (show False from e).elim
def Zor(ha:PE X a ta)(he:∀ whole,isTrue a X.env whole=(do let v <- whole; standAt a.pos; holding [v] (truthy v))) :
  PT X a (λσ H Q=>ta σ H λx H'=>∃ k,Zuk X.K x H' k/\Q k H'):=by
 intro pins s σ H Q I h
 exact isTrue_plain (Z0 (ha pins s σ H _ I h) λv s1 ⟨x,H1,I1,r1,q1⟩=>Zs1 pins s1 σ H1 x v Q I1 r1 q1) (he _)
def Zkn:OpR X (binaryOp .Add) (λx y H Q=>∃ i j,x=.str i/\y=.str j/\i.length + j.length<=sizeLine/\Q (.str (i ++ j)) H):=by
 intro pins s σ H x y v u Q I rx ry h
 obtain⟨i,j,rfl,rfl,hz,q⟩:=h
 obtain⟨t,rfl⟩:=rx
 obtain⟨t',rfl⟩:=ry
 exact add_str (λt' tk=>⟨.str (i ++ j),H,I.tok _,⟨_,rfl⟩,q⟩) hz
def JZ{x:V}(r:ZB [x] us):∃ u,us=[u]/\ZH x u:=by
 cases r with
 | cons r1 r2=>cases r2; exact⟨_,rfl,r1⟩
def ZlS{x y:V}(r:ZB [x,y] us):∃ u w',us=[u,w']/\ZH x u/\ZH y w':=by
 cases r with
 | cons r1 r2 =>
  cases r2 with
  | cons r3 r4=>cases r4; exact⟨_,_,rfl,r1,r3⟩
def Znl:JC X (.builtin "abs") (λxs H Q=>∃ i,xs=[.int i]/\Q (.int (if i < 0 then -i else i)) H):=by
 intro pins s σ H xs us Q I r h
 obtain⟨i,rfl,q⟩:=h
 obtain⟨u,rfl,t,rfl⟩:=JZ r
 exact call_abs_int λu tk=>⟨.int (if i < 0 then -i else i),H,I.tok _,⟨_,rfl⟩,q⟩
def ZlX(hc:X.calm=true):JC X (.builtin "max") (λxs H Q=>∃ i j,xs=[.int i,.int j]/\Q (.int (if j > i then j else i)) H):=by
 intro pins s σ H xs us Q I r h
 obtain⟨i,j,rfl,q⟩:=h
 obtain⟨u,w',rfl,⟨t,rfl⟩,⟨t',rfl⟩⟩:=ZlS r
 refine max_two_ints (I.ok.hd hc) λh' tk k=>⟨_,H,I.kept k,?_,q⟩
 by_cases hj:j > i
 ·rw [if_pos hj,if_pos hj]; exact⟨_,rfl⟩
 ·rw [if_neg hj,if_neg hj]; exact⟨_,rfl⟩
def Zmc(hc:X.calm=true):JC X (.builtin "min") (λxs H Q=>∃ i j,xs=[.int i,.int j]/\Q (.int (if j < i then j else i)) H):=by
 intro pins s σ H xs us Q I r h
 obtain⟨i,j,rfl,q⟩:=h
 obtain⟨u,w',rfl,⟨t,rfl⟩,⟨t',rfl⟩⟩:=ZlS r
 refine min_two_ints (I.ok.hd hc) λh' tk k=>⟨_,H,I.kept k,?_,q⟩
 by_cases hj:j < i
 ·rw [if_pos hj,if_pos hj]; exact⟨_,rfl⟩
 ·rw [if_neg hj,if_neg hj]; exact⟨_,rfl⟩
def Zd7:JC X (.type "str") (λxs H Q=>∃ i,xs=[.int i]/\i.natAbs.log2 < 1920/\Q (.str (toString i)) H):=by
 intro pins s σ H xs us Q I r h
 obtain⟨i,rfl,hz,q⟩:=h
 obtain⟨u,rfl,t,rfl⟩:=JZ r
 exact PySem.P.str_of_int hz ⟨.str _,H,I.tok _,⟨_,rfl⟩,q⟩
end
structure ObjM(h:Heap)(x dx C:Addr)(mA:Str->Option Value):Prop where
 obj:h.get? x=some (instObj C dx)
 ns:h.Ns1 dx mA
 ne:dx ≠ x
def Zlw{h:Heap}{dx:Addr}{mA:Str->Option Value}(n:h.Ns1 dx mA):∃ od,h.get? dx=some od/\∀ name,lookIn name od=some (mA name):=by
 obtain⟨o,es,ep,ho,hd,hk,_,hm⟩:=n
 refine⟨o,ho,λname=>?_⟩
 have e:=hm name
 unfold nsFind findBy at e
 rw [<- Array.find?_toList] at e
 unfold lookIn
 rw [hd]
 dsimp only
 split
 ·rename_i y q
  rw [q] at e
  exact congrArg some e
 ·rename_i q
  rw [q] at e
  have a:es.toList.any (·.refKey)=false:=by
   rw [List.any_eq_false]
   intro y hy
   obtain⟨z,t,hkey⟩:=hk y (Array.mem_toList_iff.mp hy)
   simp [DictEntry.refKey,hkey]
  have a':¬ es.toList.any (·.refKey)=true:=by rw [a]; exact Yr
  rw [if_neg a']
  exact congrArg some e
def ObjM.look{h:Heap}{x dx C:Addr}{mA:Str->Option Value}(I:ObjM h x dx C mA):∃ od,PySem.W.InstAt h x (instObj C dx) C (some od)/\∀ name,lookIn name od=some (mA name) :=
 let ⟨od,ho,hl⟩:=Zlw I.ns
 ⟨od,⟨I.obj,rfl,rfl,ho⟩,hl⟩
section
variable {prog:Program}{w:World}{A:Around}{E:VSP}{s:Shared}{K:PySem.W.Frag}{x dx C f:Addr}{mA:Str->Option Value}{name:Str}{v:Value}
def Zqk{expr:Bool}{Q:VSP}(X:K.In s.heap)(I:ObjM s.heap x dx C mA)(hg:plainGet K C name=true)(hh:hasDictIn K C=true)
  (ha:PySem.W.findIn K (.ref C) name=some none) (hv:mA name=some v) (hv':handedIn v=true) (h:Q v { s with toks:=s.toks + 1 }) :
  wpAny (model prog w) A (getAttr (.ref x) name expr) Q E s:=by
 obtain⟨od,J,hl⟩:=I.look
 exact PySem.W.get_value X J (plainGet_of hg).1 (PySem.W.findObj_own hh ha rfl (by rw [hl,hv])) hv' h
def Zm8{pl:Sem Bool}{Q:Value × List Value->Shared->Prop}(X:K.In s.heap)(I:ObjM s.heap x dx C mA)(hg:plainGet K C name=true)
  (hf:PySem.W.findIn K (.ref C) name=some (some (.ref f))) (ht:isFn K (.ref f)=true) (hv:mA name=none) (h:Q (.ref f,[.ref x]) s) :
  wpAny (model prog w) A (getMethod (.ref x) name pl) Q E s:=by
 obtain⟨od,J,hl⟩:=I.look
 exact PySem.W.method_fn X J (plainGet_of hg).1 (plainGet_of hg).2 hf (Y3.mp ht) (by show (lookIn name od).map (·.isSome)=some false; rw [hl,hv]; rfl) h
def ZqD{ns:List Str}(X:K.In s.heap)(I:ObjM s.heap x dx C mA)
  (hs:PySem.W.findIn K (.ref C) "__setattr__"=some (some (.builtin "object.__setattr__"))) (hp:plainOver K C=true) (ht:takerIn K C name=some none) (hh:hasDictIn K C=true)
  (hw:PySem.Within mA ns) (hsz:ns.length<=sizeLine)
  (h:∀ h',ObjM h' x dx C (λy=>if y=name then some v else mA y)->Heap.SameBut dx s.heap h'->Q () { s with heap:=h',toks:=s.toks + 2 }) :
  wpAny (model prog w) A (setAttr (.ref x) name v) Q E s:=by
 obtain⟨od,J,hl⟩:=I.look
 refine PySem.W.set_plain X J hs (PySem.W.osa_open (s:={ s with toks:=s.toks + 1 }) (r:=none) X J hp ht λb=>?_)
 obtain⟨cd,hc,hd'⟩:=PySem.W.any_some hh
 have hx:s.heap.get? x=some ⟨.ref C,some dx,.plain,#[]⟩:=I.obj
 refine Ya (Yc (Ya (Ya (wpAny_loadPart hx (Ya (PySem.W.Looks.here (s:={ s with toks:=s.toks + 1 }) (PySem.W.looks_clsIn X hc) ?_))))))
 rw [hd']
 refine Yc (a:=some dx) (Ya (Yc (Ya ?_)))
 refine wpAny_nsSet1 (s:={ s with toks:=s.toks + 1 }) I.ns λh' hn2 hs2=>?_
 obtain⟨oD,esD,epD,hoD,hdD,hcD⟩:=hn2.count (PySem.Within.cons name v hw)
 refine Ya (wpAny_lookBehind hoD (by rw [hdD]; exact pastItsLine_dict (Yj hcD (by rw [YH]; omega))) ?_)
 exact Yc (h _ ⟨(hs2.2 _ (Ne.symm I.ne)).trans I.obj,hn2,I.ne⟩ hs2)
def ZnQ{R:Result->Shared->Prop}{vs:List Value}{kw:List (Str × Value)}(X:K.In s.heap)(hm:makesIn K C=true)
  (hi:PySem.W.findIn K (.ref C) "__init__"=some (some (.ref f))) (hf:PySem.W.typeIn K (.ref f)=some (.type "function"))
  (h:codeAny (model prog w) (A.under (.builtin "type.__call__" ⟨.ref C :: vs,kw⟩)) (.call (.ref f) ⟨.ref (s.heap.objs.size + 1) :: vs,kw⟩) (PySem.W.InitBack (s.heap.objs.size + 1) R)
   { s with heap:=(s.heap.push emptyDict).push (instObj C s.heap.objs.size) }) :
  codeAny (model prog w) A (.call (.ref C) ⟨vs,kw⟩) R s:=by
 obtain⟨hh,g,d,t,os⟩:=s
 exact PySem.W.make_core (PySem.W.makes_of X hm) (PySem.W.looks_findIn X hi) (λself=>PySem.W.bind_fn X self hf) (.inl rfl) h
end
def JN(f:Str)(v:V):List (Str × V)->List (Str × V)
 | []=>[(f,v)]
 | (g,x) :: r=>if g=f then (g,v) :: r else (g,x) :: JN f v r
def ZeE(f g:Str)(v:V):∀ fs:List (Str × V),(JN f v fs).lookup g=if g=f then some v else fs.lookup g
 | []=>by
  show List.lookup g [(f,v)]=_
  by_cases h:g=f
  ·have hb:(g == f)=true:=Y3.mpr h
   simp only [List.lookup,hb,if_pos h]
  ·have hb:(g == f)=false:=Y5.mpr h
   simp only [List.lookup,hb,if_neg h]
 | (k,x) :: r=>by
  have ih:=ZeE f g v r
  rw [show JN f v ((k,x) :: r)=(if k=f then (k,v) :: r else (k,x) :: JN f v r) from rfl]
  by_cases hk:k=f
  ·rw [if_pos hk]
   by_cases h:g=k
   ·have hb:(g == k)=true:=Y3.mpr h
    simp only [List.lookup,hb,if_pos (h.trans hk)]
   ·have hb:(g == k)=false:=Y5.mpr h
    simp only [List.lookup,hb,if_neg (λe:g=f=>h (e.trans hk.symm))]
  ·rw [if_neg hk]
   by_cases h:g=k
   ·have hb:(g == k)=true:=Y3.mpr h
    simp only [List.lookup,hb,if_neg (λe:g=f=>hk (h.symm.trans e))]
   ·have hb:(g == k)=false:=Y5.mpr h
    simp only [List.lookup,hb]
    exact ih
def Zfg(f:Str)(v:V):∀ fs:List (Str × V),f∈(JN f v fs).map (·.1)/\∀ g,g∈fs.map (·.1)->g∈(JN f v fs).map (·.1)
 | []=>⟨by simp [JN],λg h=>by simp at h⟩
 | (k,x) :: r=>by
  obtain⟨i1,i2⟩:=Zfg f v r
  rw [show JN f v ((k,x) :: r)=(if k=f then (k,v) :: r else (k,x) :: JN f v r) from rfl]
  by_cases hk:k=f
  ·rw [if_pos hk]
   subst hk
   exact⟨by simp,λg h=>by simpa using h⟩
  ·rw [if_neg hk]
   refine⟨?_,λg h=>?_⟩
   ·rw [Yq]
    exact Y4 _ i1
   ·rw [Yq] at h ⊢
    rcases Ym.mp h with e | e
    ·exact Ym.mpr (.inl e)
    ·exact Y4 _ (i2 g e)
def ZeM(f:Str)(v:V):∀ fs:List (Str × V),(JN f v fs).length<=fs.length + 1
 | []=>by simp [JN]
 | (k,x) :: r=>by
  have ih:=ZeM f v r
  rw [show JN f v ((k,x) :: r)=(if k=f then (k,v) :: r else (k,x) :: JN f v r) from rfl]
  by_cases hk:k=f
  ·rw [if_pos hk,YH,YH]; omega
  ·rw [if_neg hk,YH,YH]; omega
def J1.some_of{v:V}{o:Option Value}(r:J1 (some v) o):∃ u,o=some u/\ZH v u:=by
 cases o with
 | none=>exact (show False from r).elim
 | some u=>exact⟨u,rfl,r⟩
def J1.none_of{o:Option Value}(r:J1 none o):o=none:=by
 cases o with
 | none=>rfl
 | some u=>exact (show False from r).elim
def Zlb{v:V}(r:ZH v u):handedIn u=true:=by
 cases v with
 | non=>cases (show u=Value.none from r); rfl
 | bl b=>cases (show u=Value.bool b from r); rfl
 | int i=>obtain⟨t,e⟩:=(show ∃ t,u=Value.int i t from r); cases e; rfl
 | str x=>obtain⟨t,e⟩:=(show ∃ t,u=Value.str x t from r); cases e; rfl
 | byt b=>obtain⟨t,e⟩:=(show ∃ t,u=Value.bytes b t from r); cases e; rfl
 | flt b=>obtain⟨t,e⟩:=(show ∃ t,u=Value.float b t from r); cases e; rfl
 | ref a=>cases (show u=Value.ref a from r); rfl
 | ty n=>cases (show u=Value.type n from r); rfl
section
variable {P:Program}{w:World}{H H':Hp}{h h':Heap}{a C dx:Addr}{fs fs':List (Str × V)}
def Zgq(hok:HOk P w H h)(e:H a=some (.ins C dx fs)):∃ mA,ObjM h a dx C mA/\(∀ f,J1 (fs.lookup f) (mA f))/\PySem.Within mA (fs.map (·.1))/\fs.length<=1000/\H dx=some (.own a):=by
 obtain⟨d,z,ne,ob,mA,n,r,q⟩:=(show Ja P w H h a (.ins C dx fs) from hok a _ e)
 exact⟨mA,⟨ob,n,ne⟩,r,q,z,d⟩
end
structure Cls(K:PySem.W.Frag)(C:Addr):Prop where
 pg:plainGet K C Str.empty=true
 hd:hasDictIn K C=true
 po:plainOver K C=true
 sa:PySem.W.findIn K (.ref C) "__setattr__"=some (some (.builtin "object.__setattr__"))
theorem Cls.get{C:Addr}(c:Cls K C)(f:Str):plainGet K C f=true:=c.pg
def ZJ(K:PySem.W.Frag)(C:Addr)(f:Str):Prop:=PySem.W.findIn K (.ref C) f=some none
def ZJ.taker{C:Addr}{f:Str}(n:ZJ K C f):takerIn K C f=some none:=by
 unfold takerIn
 rw [show PySem.W.findIn K (.ref C) f=some none from n]
 rfl
structure Con(K:PySem.W.Frag)(C:Addr)(f:Str)(v:V)(u:Value):Prop where
 at_:PySem.W.findIn K (.ref C) f=some (some u)
 rel:ZH v u
 get:PySem.W.specialIn K u "__get__"=some none
 cp:PySem.W.copiedNames.contains f=false
structure Meth(K:PySem.W.Frag)(C:Addr)(m:Str)(f:Addr):Prop where
 at_:PySem.W.findIn K (.ref C) m=some (some (.ref f))
 fn:isFn K (.ref f)=true
 kp:keepIn K (.ref f)=true
section
variable {X:Cx}{pins:List (Addr × Obj)}{σ:St}{H:Hp}{s:Shared}{a C dx:Addr}{fs:List (Str × V)}{f:Str}{v:V}{A:Around}{E:VSP}
def Zkd{b:Bool}{Q:VSP}(I:Inv X pins σ H s)(e:H a=some (.ins C dx fs))(c:Cls X.K C)(n:ZJ X.K C f)(l:fs.lookup f=some v)
  (h:∀ u s',Inv X pins σ H s'->ZH v u->Q u s'):wpAny (model X.prog X.w) A (getAttr (.ref a) f b) Q E s:=by
 obtain⟨mA,O,r,_,_,_⟩:=Zgq I.hok e
 obtain⟨u,hu,ru⟩:=J1.some_of (v:=v) (o:=mA f) (by rw [<- l]; exact r f)
 exact Zqk I.kIn O (c.get f) c.hd n hu (Zlb ru) (h u _ (I.tok _) ru)
def ZdL{m:Str}{g:Addr}{pl:Sem Bool}{Q:Value × List Value->Shared->Prop}(I:Inv X pins σ H s)(e:H a=some (.ins C dx fs))(c:Cls X.K C)(k:Meth X.K C m g)(l:fs.lookup m=none)
  (h:Q (.ref g,[.ref a]) s):wpAny (model X.prog X.w) A (getMethod (.ref a) m pl) Q E s:=by
 obtain⟨mA,O,r,_,_,_⟩:=Zgq I.hok e
 have hn:mA m=none:=J1.none_of (by rw [<- l]; exact r m)
 exact Zm8 I.kIn O (c.get m) k.at_ k.fn hn h
def Zku{y:V}(I:Inv X pins σ H s)(e:H a=some (.ins C dx fs))(c:Cls X.K C)(n:ZJ X.K C f)(hl:fs.length < 1000)(ry:ZH y u)
  (h:∀ s',Inv X pins σ (upd H a (.ins C dx (JN f y fs))) s'->Q () s'):wpAny (model X.prog X.w) A (setAttr (.ref a) f u) Q E s:=by
 obtain⟨mA,O,r,wi,_,ho⟩:=Zgq I.hok e
 have hz:(fs.map (·.1)).length<=sizeLine:=by rw [Yg,Y2]; omega
 refine ZqD I.kIn O c.sa c.po n.taker c.hd wi hz λh' O' sb=>h _ ?_
 have hd:∃ o,h'.get? dx=some o:=let ⟨o,_,_,e',_⟩:=O'.ns; ⟨o,e'⟩
 refine I.write (x:=a) (e:=dx) (by rw [e]; exact True.intro) (.inr ho) (λb q hb z=>(sb.2 b hb).trans z) hd ?_
 refine⟨by rw [Zj O.ne]; exact ho,?_,O.ne,O'.obj,_,O'.ns,λg=>?_,λg hg=>?_⟩
 ·have:=ZeM f y fs; omega
 ·show J1 ((JN f y fs).lookup g) (if g=f then some u else mA g)
  rw [ZeE]
  by_cases q:g=f
  ·rw [if_pos q,if_pos q]; exact ry
  ·rw [if_neg q,if_neg q]; exact r g
 ·by_cases q:g=f
  ·rw [q]; exact (Zfg f y fs).1
  ·refine (Zfg f y fs).2 g (wi g λz=>hg ?_)
   show (if g=f then some u else mA g)=none
   rw [if_neg q]; exact z
def Inv.made(I:Inv X pins σ H s):Inv X pins σ (upd (upd H s.heap.objs.size (.own (s.heap.objs.size + 1))) (s.heap.objs.size + 1) (.ins C s.heap.objs.size []))
  { s with heap:=(s.heap.push emptyDict).push (instObj C s.heap.objs.size) }:=by
 have e1:(s.heap.push emptyDict).get? s.heap.objs.size=some emptyDict:=Yv s.heap rfl
 have e2:((s.heap.push emptyDict).push (instObj C s.heap.objs.size)).get? (s.heap.objs.size + 1)=some (instObj C s.heap.objs.size):=by
  have:=Yv (s.heap.push emptyDict) (o:=instObj C s.heap.objs.size) rfl
  rwa [Heap.size_push] at this
 have e3:(s.heap.push emptyDict).Ns s.heap.objs.size (λ_=>none):=⟨emptyDict,#[],_,e1,rfl,(λe he=>absurd he (by simp)),λ_=>rfl⟩
 have I1:=I.laid (a:=s.heap.objs.size) (o:=.own (s.heap.objs.size + 1)) (h':=s.heap.push emptyDict) (t':=s.toks) (λb u q=>Yi _ q) (Yd _) ⟨_,e1⟩
 refine I1.laid (a:=s.heap.objs.size + 1) (o:=.ins C s.heap.objs.size []) (t':=s.toks) (λb u q=>Yi _ q) (Vh (Heap.size_push _ _)) ?_
 have ne:s.heap.objs.size ≠ s.heap.objs.size + 1:=Yn (Nat.lt_succ_self _)
 refine⟨by rw [Zj ne,Zl],YC _,ne,e2,λ_=>none,(Heap.Ns1.of_empty e3).at λo q=>Yi _ q,λ_=>True.intro,λy hy=>absurd rfl hy⟩
def ZpD{prog:Program}{env:Env}{e:Expr}{f:Str}{pos:Pos}{Q:VSP}(hb:attributeBase e f env (eval e env)=eval e env)
  (h:wpAny (model prog w) A (eval e env) (λo s₁=>wpAny (model prog w) A (getAttr o f true) Q E s₁) E s):wpAny (model prog w) A (eval (.Attribute e f pos) env) Q E s :=
 Attribute_any_ h (by rw [arm_eval_Attribute,hb])
end
def ZtB(K:PySem.W.Frag)(ta:TE)(f:Str):TE:=λσ H Q=>ta σ H λx H1=>∃ a C dx fs v,x=.ref a/\H1 a=some (.ins C dx fs)/\Cls K C/\ZJ K C f/\fs.lookup f=some v/\Q v H1
def Ztz(K:PySem.W.Frag)(ta tv:TE)(f:Str):TS:=λD σ H=>tv σ H λy H1=>ta σ H1 λx H2=>∃ a C dx fs,x=.ref a/\H2 a=some (.ins C dx fs)/\Cls K C/\ZJ K C f/\fs.length < 1000 /\
 D.nx σ (upd H2 a (.ins C dx (JN f y fs)))
section
variable {X:Cx}{o e value:Expr}{f:Str}{pos pos' tpos:Pos}{ta tv:TE}
def Zsy(he:PE X e ta)(hb:attributeBase e f X.env (eval e X.env)=eval e X.env):PE X (.Attribute e f pos) (ZtB X.K ta f):=by
 intro pins s σ H Q I h
 refine ZpD hb (Z0 (he pins s σ H _ I h) λu s1 ⟨x,H1,I1,rx,a,C,dx,fs,v,ex,ea,c,n,l,q⟩=>?_)
 subst ex
 obtain rfl:u=Value.ref a:=rx
 exact Zkd I1 ea c n l λu' s2 I2 ru=>⟨v,H1,I2,ru,q⟩
def Zsx(ha:PE X o ta)(hv:PE X value tv)(hs:swapsWith value (some (.Attribute o f pos')) pos.line X.env=pure false):PS X (.Assign [.Attribute o f pos'] value pos) (Ztz X.K ta tv f):=by
 intro pins s σ H D I h
 refine plainObj_wpAny_Assign_Attribute (Z0 (hv pins s σ H _ I h) λu s1 ⟨y,H1,I1,ry,q⟩=>Z0 (ha pins s1 σ H1 _ I1 q) λov s2 ⟨x,H2,I2,rx,a,C,dx,fs,ex,ea,c,n,l,q2⟩=>?_) hs
 subst ex
 obtain rfl:ov=Value.ref a:=rx
 exact Zku I2 ea c n l ry λs3 I3=>⟨σ,_,I3,q2⟩
end
section
variable {X:Cx}{pins:List (Addr × Obj)}{σ:St}{H:Hp}{s:Shared}{A:Around}{E:VSP}{Q:VSP}{c:Value}{b:Bool}
inductive TyOf (K:PySem.W.Frag) (H:Hp):V->Value->Prop where
 | non:TyOf K H .non (.type "NoneType")
 | bl (x:Bool):TyOf K H (.bl x) (.type "bool")
 | int (i:Int):TyOf K H (.int i) (.type "int")
 | str (x:Str):TyOf K H (.str x) (.type "str")
 | flt (x:UInt64):TyOf K H (.flt x) (.type "float")
 | lst {a:Addr}{xs:List V}(e:H a=some (.lst xs)):TyOf K H (.ref a) (.type "list")
 | frz {a:Addr}{o:Obj}{xs:List V}(e:H a=some (.frz o (.lst xs))):TyOf K H (.ref a) (.type "list")
 | tup {a:Addr}{xs:List V}(e:H a=some (.tup xs)):TyOf K H (.ref a) (.type "tuple")
 | dK {a:Addr}{kvs:List (Z7 × V)}(e:H a=some (.dK kvs)):TyOf K H (.ref a) (.type "dict")
 | dT {a:Addr}{kvs:List (List Z7 × V)}(e:H a=some (.dT kvs)):TyOf K H (.ref a) (.type "dict")
 | ins {a C dx:Addr}{fs:List (Str × V)}(e:H a=some (.ins C dx fs)) (cl:Cls K C) (ha:PySem.W.findIn K (.ref C) "__class__"=some (some (.builtin "object.__class__")))
   (hn:PySem.W.specialIn K (.builtin "object.__class__") "__get__"=some (some (.builtin "getset_descriptor.__get__"))) (htk:PySem.W.takesIn K (.builtin "object.__class__")=some true)
   (hm:PySem.W.mroIn K C (.type "object")=some true):TyOf K H (.ref a) (.ref C)
def Zmk{x:V}{u t:Value}(I:Inv X pins σ H s)(rx:ZH x u)(ty:TyOf X.K H x t)(e:kitOne X.K t c=some b)(h:∀ tk,Q (.bool b) { s with toks:=tk }) :
  wpAny (model X.prog X.w) A (call (.builtin "isinstance") [u,c]) Q E s:=by
 cases ty with
 | non=>cases (show u=Value.none from rx); exact kia_one PySem.W.kitx_none I.kIn True.intro e (λz=>nomatch z) h
 | bl y=>cases (show u=Value.bool y from rx); exact kia_one PySem.W.kitx_bool I.kIn True.intro e (λz=>nomatch z) h
 | int i=>obtain⟨t,q⟩:=(show ∃ t,u=Value.int i t from rx); cases q; exact kia_one PySem.W.kitx_int I.kIn True.intro e (λz=>nomatch z) h
 | str y=>obtain⟨t,q⟩:=(show ∃ t,u=Value.str y t from rx); cases q; exact kia_one PySem.W.kitx_str I.kIn True.intro e (λz=>nomatch z) h
 | flt y=>obtain⟨t,q⟩:=(show ∃ t,u=Value.float y t from rx); cases q; exact kia_one PySem.W.kitx_float I.kIn True.intro e (λz=>nomatch z) h
 | @lst a xs ea =>
  cases (show u=Value.ref a from rx)
  obtain⟨_,_,n,_,h1⟩:=(show Ja X.prog X.w H s.heap a (.lst xs) from I.hok a _ ea)
  exact kia_one kitx_list I.kIn ⟨_,h1,rfl⟩ e (λz=>nomatch z) h
 | @frz a ob xs ea =>
  cases (show u=Value.ref a from rx)
  obtain⟨_,_,_,n,_,h1⟩:=(show Ja X.prog X.w H s.heap a (.frz ob (.lst xs)) from I.hok a _ ea)
  exact kia_one kitx_list I.kIn ⟨_,h1,rfl⟩ e (λz=>nomatch z) h
 | @tup a xs ea =>
  cases (show u=Value.ref a from rx)
  obtain⟨_,_,_,p⟩:=(show Ja X.prog X.w H s.heap a (.tup xs) from I.hok a _ ea)
  obtain⟨o,h1,h2,_⟩:=p
  exact kia_one PySem.W.kitx_tuple I.kIn ⟨o,h1,h2⟩ e (λz=>nomatch z) h
 | @dK a kvs ea =>
  cases (show u=Value.ref a from rx)
  obtain⟨_,_,vs,_,p⟩:=(show Ja X.prog X.w H s.heap a (.dK kvs) from I.hok a _ ea)
  obtain⟨o,es,ep,h1,h2,_⟩:=p
  exact kia_one kitx_dict I.kIn ⟨o,h1,h2.1⟩ e (λz=>nomatch z) h
 | @dT a kvs ea =>
  cases (show u=Value.ref a from rx)
  obtain⟨_,_,xs,_,o,es,ep,h1,h2,_⟩:=(show Ja X.prog X.w H s.heap a (.dT kvs) from I.hok a _ ea)
  exact kia_one kitx_dict I.kIn ⟨o,h1,h2.1⟩ e (λz=>nomatch z) h
 | @ins a C dx fs ea cl ha hn htk hm =>
  cases (show u=Value.ref a from rx)
  obtain⟨mA,O,_⟩:=Zgq I.hok ea
  obtain⟨od,J,_⟩:=O.look
  exact kia_one (PySem.W.kitx_own (cl.get _) cl.hd ha hn htk hm) I.kIn J e (λz=>nomatch z) h
end
structure Room(k:Nat)(A:Around):Prop where
 hd:A.handled=none
 dp:A.depth + 3 * k + 5 < recursionLimit
 un:A.units + 16 * k + 200 < cLine
theorem Room.mono{j k:Nat}(r:Room k A)(h:j<=k):Room j A:=⟨r.hd,by have:=r.dp; omega,by have:=r.un; omega⟩
variable {k:Nat}
def Room.deeper(r:Room (k + 1) A)(env:Env):Room k (A.deeper env) :=
 ⟨r.hd,by have:=r.dp; show A.depth + 1 + 3 * k + 5 < _; omega,by have:=r.un; show A.units + 3 + 16 * k + 200 < _; omega⟩
def Room.in1(r:Room (k + 1) A):Room k A.in1 :=
 ⟨r.hd,by have:=r.dp; show A.depth + 3 * k + 5 < _; omega,by have:=r.un; show A.units + 1 + 16 * k + 200 < _; omega⟩
def Zj8{C:Addr}{kw:List (Str × Value)}:(A.under (.builtin "type.__call__" ⟨.ref C :: us,kw⟩)).depth=A.depth + 1:=by
 first | rfl | simp [Around.under,Code.weight,Code.isCreation,Code.isGuard,Code.isCaller,Code.frames,Code.isFrame,guardIds]
def Zkh{C:Addr}{kw:List (Str × Value)}:(A.under (.builtin "type.__call__" ⟨.ref C :: us,kw⟩)).units=A.units + 1:=by
 first | rfl | simp [Around.under,Code.cUnits,Code.frames,Code.isFrame]
def Room.make(r:Room (k + 1) A)(C:Addr)(us:List Value)(kw:List (Str × Value)):Room k (A.under (.builtin "type.__call__" ⟨.ref C :: us,kw⟩)) :=
 ⟨r.hd,by have:=r.dp; rw [Zj8]; omega,by have:=r.un; rw [Zkh]; omega⟩
def Room.depth(r:Room k A):A.depth < recursionLimit:=by have:=r.dp; omega
theorem Room.units(r:Room k A):A.units + 64 < cLine:=by have:=r.un; omega
def Zpg:TA:=λ_ H Q=>Q [] H
def Zhq(ta:TE)(tr:TA):TA:=λσ H Q=>ta σ H λx H1=>tr σ H1 λxs H2=>Q (x :: xs) H2
section
variable {X:Cx}{e:Expr}{es:List Expr}{te:TE}{t:TA}{pos:Pos}
def ZrP:PA X [] Zpg:=λ_ _ _ _ H Q I h=>Vd ⟨[],H,I,.nil,h⟩
def Zqy(ha:PE X e te)(hr:PA X es t)(hs:starEach (e :: es) X.env=(false,eval e X.env) :: starEach es X.env:=by rfl):PA X (e :: es) (Zhq te t):=by
 intro pos pins s σ H Q I h
 rw [hs]
 show wpAny _ _ (spliced ((false,eval e X.env) :: backTo pos (starEach es X.env))) _ _ s
 refine Y8 (Z0 (ha pins s σ H _ I h) λu s1 ⟨x,H1,I1,r1,q1⟩=>?_)
 exact Z0 (hr pos pins s1 σ H1 _ I1 q1) λus s2 ⟨xs,H2,I2,r2,q2⟩=>⟨x :: xs,H2,I2,.cons r1 r2,q2⟩
end
abbrev Sp:=List V->Hp->VK->XK->Prop
abbrev CXT:=List Env->Hp->Shared->XK->Value->Shared->Prop
structure Env0(P:Program)(w:World)(K:PySem.W.Frag)(mg:Str->Option Value)(base:Heap)(A:Around)(outer:List Env)(s:Shared)(H:Hp):Prop where
 frames:A.frames=some outer
 mod:Mod K mg base
 bs:∀ b o,base.get? b=some o->s.heap.get? b=some o/\H b=none
 bsz:base.objs.size<=s.heap.objs.size
 funs:s.heap.FunFrames base outer
 frf:∀ b∈frs outer,H b=none
 hok:HOk P w H s.heap
 bare:AllBare s.gens
def CE(outer:List Env)(P:Program)(w:World)(H:Hp)(s:Shared)(Q:VK)(u:Value)(s':Shared):Prop :=
 ∃ v H',s'.os=s.os/\AllBare s'.gens/\Un (frs outer) [] H H' s.heap s'.heap/\HOk P w H' s'.heap/\ZH v u/\Q v H'
def CR(CX:CXT)(outer:List Env)(P:Program)(w:World)(H:Hp)(s:Shared)(Q:VK)(E:XK)(r:Result)(s':Shared):Prop :=
 match r with
 | .ok (.ret u)=>CE outer P w H s Q u s'
 | .ok _=>False
 | .error e=>CX outer H s E e s'
structure FnOk(P:Program)(w:World)(K:PySem.W.Frag)(mg:Str->Option Value)(base:Heap)(CX:CXT)(k:Nat)(f:Addr)(fd:FuncData)(ps:List Str)(sp:Sp):Prop where
 len:∀ vs H Q E,sp vs H Q E->vs.length=ps.length
 run:∀ (A:Around) (outer:List Env) (s:Shared) (H:Hp) (args:Args) (us:List Value) (vs:List V) (Q:VK) (E:XK),Room k A->Env0 P w K mg base A outer s H->BindsTo s fd args (ps.zip us)->ZB vs us->sp vs H Q E ->
  codeAny (model P w) A (.call (.ref f) args) (CR CX outer P w H s Q E) s
variable {mg:Str->Option Value}
theorem FnOk.mono{base:Heap}{CX:CXT}{j k:Nat}{f:Addr}{fd:FuncData}{ps:List Str}{sp:Sp}(F:FnOk P w K mg base CX j f fd ps sp)(h:j<=k) :
  FnOk P w K mg base CX k f fd ps sp:=⟨F.len,λA outer s H args us vs Q E hr=>F.run A outer s H args us vs Q E (hr.mono h)⟩
theorem FnOk.imp{base:Heap}{CX:CXT}{f:Addr}{fd:FuncData}{ps:List Str}{sp sp':Sp}(F:FnOk P w K mg base CX k f fd ps sp)
  (h:∀ vs H Q E,sp' vs H Q E->sp vs H Q E):FnOk P w K mg base CX k f fd ps sp' :=
 ⟨λvs H Q E q=>F.len vs H Q E (h _ _ _ _ q),λA outer s H args us vs Q E hr he hb hv hs=>F.run A outer s H args us vs Q E hr he hb hv (h _ _ _ _ hs)⟩
def Env0.make{base:Heap}{outer:List Env}(e:Env0 P w K mg base A outer s H)(C:Addr)(us:List Value)(kw:List (Str × Value)) :
  Env0 P w K mg base (A.under (.builtin "type.__call__" ⟨.ref C :: us,kw⟩)) outer s H:=⟨by first | exact e.frames | (simpa [Around.under,Code.envs,Code.isFrame,pushEnvs] using e.frames),e.mod,e.bs,e.bsz,e.funs,e.frf,e.hok,e.bare⟩
def Env0.in1{base:Heap}{outer:List Env}(e:Env0 P w K mg base A outer s H) :
  Env0 P w K mg base A.in1 outer s H:=⟨e.frames,e.mod,e.bs,e.bsz,e.funs,e.frf,e.hok,e.bare⟩
section
variable {X:Cx}{pins:List (Addr × Obj)}{σ:St}{H:Hp}{s s':Shared}
def Inv.env0(I:Inv X pins σ H s):Env0 X.prog X.w X.K X.mg X.base X.A X.stack s H :=
 ⟨I.ok.frames,I.ok.mod,I.bs,Yj I.ok.bsz I.sz,I.stack,I.stkFree,I.hok,I.bare⟩
def Inv.after{Q:VK}(I:Inv X pins σ H s)(h:CE X.stack X.prog X.w H s Q u s'):EP X pins σ Q u s':=by
 obtain⟨v,H',os,bare,un,hok,r,q⟩:=h
 obtain⟨hh,g,d,t,os'⟩:=s'
 obtain rfl:os'=s.os:=os
 exact⟨v,H',I.call (h':=hh) (g':=g) (d':=d) (t':=t) (ch:=[]) un hok bare (λb z=>absurd z (by simp)),r,q⟩
end
def ZiF(sp:Sp)(dvs:List V)(E:XK)(t:TA):TE:=λσ H Q=>t σ H λvs H1=>sp (vs ++ dvs) H1 Q E
def Zii(C:Addr)(m:Str)(sp:Sp)(dvs:List V)(E:XK)(ta:TE)(t:TA):TE:=λσ H Q=>ta σ H λx H1=>∃ a dx fs,x=.ref a/\H1 a=some (.ins C dx fs)/\fs.lookup m=none /\
 t σ H1 λvs H2=>sp (x :: (vs ++ dvs)) H2 Q E
def ZmD(C:Addr)(sp:Sp)(dvs:List V)(E:XK)(t:TA):TE:=λσ H Q=>t σ H λvs H1=>∀ x dx,H1 x=none->H1 dx=none->dx ≠ x ->
 sp (.ref x :: (vs ++ dvs)) (upd (upd H1 dx (.own x)) x (.ins C dx [])) (λv H2=>v=.non/\Q (.ref x) H2) E
def ZA(K:PySem.W.Frag)(fd:FuncData)(ps:List Str)(ds:List Value):Prop :=
 ∀ (s:Shared) (us:List Value),K.In s.heap->(us ++ ds).length=ps.length->BindsTo s fd ⟨us,[]⟩ (ps.zip (us ++ ds))
def ZA.all{fd:FuncData}{ps:List Str}(h:∀ us:List Value,us.length=ps.length->bindArgs fd ⟨us,[]⟩=pure (ps.zip us)):ZA K fd ps []:=λs us _ hl=>by
 rw [Vs] at hl ⊢
 exact .of_eq (h us hl)
def Zd4(CX:CXT)(X:Cx)(E:XK):Prop:=∀ (pins:List (Addr × Obj)) (σ:St) (H:Hp) (s:Shared) (e:Value) (s':Shared),Inv X pins σ H s->CX X.stack H s E e s'->X.xe e s'
section
variable {X:Cx}{CX:CXT}{k:Nat}{f C:Addr}{fd:FuncData}{ps:List Str}{sp:Sp}{dvs:List V}{ds:List Value}{E:XK}{x m:Str}{p pos apos:Pos}{e o:Expr}{es:List Expr}{ta:TE}{t:TA}
def Zmr{Q:VK}{vs:List V}(F:FnOk X.prog X.w X.K X.mg X.base CX k f fd ps sp)(hr:Room k X.A)(hb:ZA X.K fd ps ds)(hd:ZB dvs ds)(hx:Zd4 CX X E)
  (I:Inv X pins σ H s) (r:ZB vs us) (h:sp (vs ++ dvs) H Q E):wpAny (model X.prog X.w) X.A (call (.ref f) us) (EP X pins σ Q) X.xe s:=by
 have r2:ZB (vs ++ dvs) (us ++ ds):=r.append hd
 have hl:(us ++ ds).length=ps.length:=by rw [<- r2.length]; exact F.len _ _ _ _ h
 refine wpAny_call (YR (F.run X.A X.stack s H ⟨us,[]⟩ (us ++ ds) (vs ++ dvs) Q E hr I.env0 (hb s us I.kIn hl) r2 h) λr s' hq=>?_)
 cases r with
 | error e=>exact hx pins σ H s e s' I hq
 | ok fl =>
  cases fl with
  | ret u=>exact I.after hq
  | next=>exact False.elim hq
  | brk=>exact False.elim hq
  | cont=>exact False.elim hq
def Zma(F:FnOk X.prog X.w X.K X.mg X.base CX k f fd ps sp)(hr:Room k X.A)(hg:Gl X x)(hm:X.mg x=some (.ref f))(hk:keepIn X.K (.ref f)=true)(hb:ZA X.K fd ps ds)(hd:ZB dvs ds)(hx:Zd4 CX X E)
  (ha:PA X (e :: es) t) (hdb:(x == ("__debug__":Str))=false:=by decide) (he:starEach (e :: es) X.env=(false,eval e X.env) :: starEach es X.env:=by rfl) (hpl:(backTo pos (starEach es X.env)).any (·.1)=false:=by rfl) :
  PE X (.Call (.Name x p) (e :: es) [] pos) (ZiF sp dvs E t):=by
 intro pins s σ H Q I h
 refine Vb (ZeN I hg hm ?_ hdb)
 refine callWith_K (h₀:=X.base) I.ok.mod.kin hk (Z0 (ha pos pins s σ H _ I h) λus s1 ⟨vs,H1,I1,r,q⟩=>⟨I1.kIn,?_⟩) he hpl
 exact Zmr F hr hb hd hx I1 r q
def ZpZ{pl:Sem Bool}(he:PE X o ta)(c:Cls X.K C)(hm:Meth X.K C m f)(F:FnOk X.prog X.w X.K X.mg X.base CX k f fd ps sp)(hr:Room k X.A)(hb:ZA X.K fd ps ds)(hd:ZB dvs ds)(hx:Zd4 CX X E)(ha:PA X (e :: es) t)
  (hst:starEach (e :: es) X.env=(false,eval e X.env) :: starEach es X.env:=by rfl) (hpl:(backTo pos (starEach es X.env)).any (·.1)=false:=by rfl)
  (ht:eval (.Call (.Attribute o m apos) (e :: es) [] pos) X.env=(do
   let ov <- eval o X.env
   standAt apos.atName
   let (f,first) <- holding [ov] (getMethod ov m pl)
   callWith pos f first (backTo pos (starEach (e :: es) X.env)) (backToKw pos (keywordEach [] X.env))):=by rfl) :
  PE X (.Call (.Attribute o m apos) (e :: es) [] pos) (Zii C m sp dvs E ta t):=by
 intro pins s σ H Q I h
 refine methodCall_KW (pl:=pl) (Z0 (he pins s σ H _ I h) λu s1 ⟨x,H1,I1,rx,a,dx,fs,ex,ea,l,q⟩=>?_) ht
 subst ex
 obtain rfl:u=Value.ref a:=rx
 refine ZdL I1 ea c hm l ?_
 refine callWith_K (first:=[.ref a]) (h₀:=X.base) I.ok.mod.kin hm.kp (Z0 (ha pos pins s1 σ H1 _ I1 q) λus s2 ⟨vs,H2,I2,r,q2⟩=>⟨I2.kIn,?_⟩) hst hpl
 exact Zmr (us:=.ref a :: us) (vs:=.ref a :: vs) F hr hb hd hx I2 (.cons rfl r) q2
def Zjc{pl:Sem Bool}(he:PE X o ta)(c:Cls X.K C)(hm:Meth X.K C m f)(F:FnOk X.prog X.w X.K X.mg X.base CX k f fd ps sp)(hr:Room k X.A)(hb:ZA X.K fd ps ds)(hd:ZB dvs ds)(hx:Zd4 CX X E)
  (ht:eval (.Call (.Attribute o m apos) [] [] pos) X.env=(do
   let ov <- eval o X.env
   standAt apos.atName
   let (f,first) <- holding [ov] (getMethod ov m pl)
   callWith pos f first (backTo pos (starEach [] X.env)) (backToKw pos (keywordEach [] X.env))):=by rfl) :
  PE X (.Call (.Attribute o m apos) [] [] pos) (Zii C m sp dvs E ta Zpg):=by
 intro pins s σ H Q I h
 refine methodCall_KW (pl:=pl) (Z0 (he pins s σ H _ I h) λu s1 ⟨x,H1,I1,rx,a,dx,fs,ex,ea,l,q⟩=>?_) ht
 subst ex
 obtain rfl:u=Value.ref a:=rx
 refine ZdL I1 ea c hm l ?_
 exact PySem.W.callWith_K0 (first:=[.ref a]) I1.kIn hm.kp (Zmr (us:=[.ref a]) (vs:=[.ref a]) F hr hb hd hx I1 (.cons rfl .nil) q)
structure Mk(K:PySem.W.Frag)(C f:Addr):Prop where
 makes:makesIn K C=true
 init:PySem.W.findIn K (.ref C) "__init__"=some (some (.ref f))
 fn:isFn K (.ref f)=true
 kp:keepIn K (.ref C)=true
def ZoG{Q:VK}{vs:List V}(M:Mk X.K C f)(F:FnOk X.prog X.w X.K X.mg X.base CX k f fd ps sp)(hr:Room (k + 1) X.A)(hb:ZA X.K fd ps ds)(hd:ZB dvs ds)
  (hx:Zd4 CX X E) (I:Inv X pins σ H s) (r:ZB vs us)
  (h:∀ x dx,H x=none->H dx=none->dx ≠ x->sp (.ref x :: (vs ++ dvs)) (upd (upd H dx (.own x)) x (.ins C dx [])) (λv H2=>v=.non/\Q (.ref x) H2) E) :
  wpAny (model X.prog X.w) X.A (call (.ref C) us) (EP X pins σ Q) X.xe s:=by
 have hq:=h (s.heap.objs.size + 1) s.heap.objs.size (I.hok.fresh (Nat.le_succ _)) (I.hok.fresh (Yd _)) (Yn (Nat.lt_succ_self _))
 have I2:=Inv.made (C:=C) I
 have r2:ZB (V.ref (s.heap.objs.size + 1) :: (vs ++ dvs)) (Value.ref (s.heap.objs.size + 1) :: (us ++ ds)):=.cons rfl (r.append hd)
 have hl:(Value.ref (s.heap.objs.size + 1) :: us ++ ds).length=ps.length:=by
  have e:=r2.length
  rw [F.len _ _ _ _ hq] at e
  exact e.symm
 refine wpAny_call (ZnQ (f:=f) I.kIn M.makes M.init (Y3.mp M.fn) (YR (F.run _ X.stack _ _ ⟨Value.ref (s.heap.objs.size + 1) :: us,[]⟩ (Value.ref (s.heap.objs.size + 1) :: (us ++ ds)) _ _ E (hr.make C us [])
  (I2.env0.make C us []) (hb _ (Value.ref (s.heap.objs.size + 1) :: us) I2.kIn hl) r2 hq) λr s' hq'=>?_))
 cases r with
 | error e=>exact hx pins σ _ _ e s' I2 hq'
 | ok fl =>
  cases fl with
  | ret u =>
   obtain⟨v,H',I3,rv,ev,q3⟩:=I2.after hq'
   subst ev
   exact⟨rv,⟨V.ref (s.heap.objs.size + 1),H',I3,rfl,q3⟩⟩
  | next=>exact False.elim hq'
  | brk=>exact False.elim hq'
  | cont=>exact False.elim hq'
def ZpR(M:Mk X.K C f)(F:FnOk X.prog X.w X.K X.mg X.base CX k f fd ps sp)(hr:Room (k + 1) X.A)(hg:Gl X x)(hm:X.mg x=some (.ref C))(hb:ZA X.K fd ps ds)(hd:ZB dvs ds)(hx:Zd4 CX X E)
  (ha:PA X (e :: es) t) (hdb:(x == ("__debug__":Str))=false:=by decide) (he:starEach (e :: es) X.env=(false,eval e X.env) :: starEach es X.env:=by rfl) (hpl:(backTo pos (starEach es X.env)).any (·.1)=false:=by rfl) :
  PE X (.Call (.Name x p) (e :: es) [] pos) (ZmD C sp dvs E t):=by
 intro pins s σ H Q I h
 refine Vb (ZeN I hg hm ?_ hdb)
 refine callWith_K (h₀:=X.base) I.ok.mod.kin M.kp (Z0 (ha pos pins s σ H _ I h) λus s1 ⟨vs,H1,I1,r,q⟩=>⟨I1.kIn,?_⟩) he hpl
 exact ZoG M F hr hb hd hx I1 r q
end
section
variable {X:Cx}{CX:CXT}{k:Nat}{f C:Addr}{fd:FuncData}{ps ks:List Str}{sp:Sp}{E:XK}{x m:Str}{p pos apos kpos:Pos}{e o:Expr}{es:List Expr}{kws:List Keyword}{te ta:TE}{t tk:TA}{nm:Option Str}
structure KBinds(K:PySem.W.Frag)(fd:FuncData)(ps ks:List Str)(g:List Value->List Value->List Value)(gV:List V->List V->List V):Prop where
 to:∀ (s:Shared) (us ws:List Value),K.In s.heap->(g us ws).length=ps.length->BindsTo s fd ⟨us,ks.zip ws⟩ (ps.zip (g us ws))
 rel:∀ {vs:List V}{us:List Value}{zs:List V}{ws:List Value},ZB vs us->ZB zs ws->ZB (gV vs zs) (g us ws)
variable {g:List Value->List Value->List Value}{gV:List V->List V->List V}
end
structure FnScope(N P:List Str)(sc:Scope):Prop where
 kind:sc.kind=.function
 co:sc.isCoroutine=false
 gen:sc.isGenerator=false
 nd:N.Nodup
 pre:N.take P.length=P
 par:∀ x∈P,sc.names.lookup x=some .local\/sc.names.lookup x=some .cell
 nofree:∀ y∈sc.names,y.2 ≠ .free
variable {kindOf:Str->Option NameKind}{x:Str}
def ZgS:∀ {binds:List (Str × Value)}{m:Str->Option Value},(∀ v,(x,v) ∉ binds)->bindL kindOf binds m x=m x
 | [],_,_=>rfl
 | (n,v) :: r,m,h=>by
  unfold bindL
  rw [ZgS λw hw=>h w (Y4 _ hw)]
  split
  ·have:x ≠ n:=by rintro rfl; exact h v List.mem_cons_self
   simp [this]
  ·rfl
def Zhg:∀ {binds:List (Str × Value)}{m:Str->Option Value},(∀ v,(x,v) ∉ binds)->bindC kindOf binds m x=m x
 | [],_,_=>rfl
 | (n,v) :: r,m,h=>by
  unfold bindC
  rw [Zhg λw hw=>h w (Y4 _ hw)]
  split
  ·rfl
  ·have:x ≠ n:=by rintro rfl; exact h v List.mem_cons_self
   simp [this]
theorem Zhe{v:Value}:∀ {P:List Str}{vs:List Value}{i:Nat}{m:Str->Option Value},P.Nodup->P[i]?=some x->vs[i]?=some v->kindOf x=some .local ->
  bindL kindOf (P.zip vs) m x=some v
 | [],_,_,_,_,h,_,_=>by simp at h
 | _ :: _,[],_,_,_,_,h,_=>by simp at h
 | p :: P,w :: vs,0,m,nd,h1,h2,hk=>by
  simp at h1 h2; subst h1; subst h2
  show bindL kindOf ((p,w) :: P.zip vs) m p=_
  unfold bindL
  rw [ZgS λv hv=>(Vq.mp nd).1 (List.of_mem_zip hv).1,if_pos hk]
  simp
 | p :: P,w :: vs,i + 1,m,nd,h1,h2,hk=>by
  show bindL kindOf ((p,w) :: P.zip vs) m x=_
  unfold bindL
  exact Zhe (i:=i) (List.nodup_cons.mp nd).2 (by simpa using h1) (by simpa using h2) hk
theorem Zhl{v:Value}:∀ {P:List Str}{vs:List Value}{i:Nat}{m:Str->Option Value},P.Nodup->P[i]?=some x->vs[i]?=some v->kindOf x ≠ some .local ->
  bindC kindOf (P.zip vs) m x=some v
 | [],_,_,_,_,h,_,_=>by simp at h
 | _ :: _,[],_,_,_,_,h,_=>by simp at h
 | p :: P,w :: vs,0,m,nd,h1,h2,hk=>by
  simp at h1 h2; subst h1; subst h2
  show bindC kindOf ((p,w) :: P.zip vs) m p=_
  unfold bindC
  rw [Zhg λv hv=>(Vq.mp nd).1 (List.of_mem_zip hv).1,if_neg hk]
  simp
 | p :: P,w :: vs,i + 1,m,nd,h1,h2,hk=>by
  show bindC kindOf ((p,w) :: P.zip vs) m x=_
  unfold bindC
  exact Zhl (i:=i) (List.nodup_cons.mp nd).2 (by simpa using h1) (by simpa using h2) hk
def Zu(N:List Str)(vs:List V):St:=vs.map some ++ List.replicate (N.length - vs.length) none
def ZjU(CX:CXT)(P:Program)(w:World)(K:PySem.W.Frag)(mg:Str->Option Value)(base:Heap)(N:List Str)(qual:Str)(scope:Scope)(f:Addr)(cd:Value)(A:Around)(outer:List Env)(s:Shared)(H:Hp)(E:XK):Cx where
 prog:=P
 w:=w
 K:=K
 mg:=mg
 base:=base
 A:=A.deeper (envOfC qual scope s.heap.objs.size f cd)
 N:=N
 s₀:=s
 H₀:=H
 env:=envOfC qual scope s.heap.objs.size f cd
 outer:=outer
 stack:=envOfC qual scope s.heap.objs.size f cd :: outer
 ex:=[]
 calm:=true
 fn:=λ_=>true
 pn:=[]
 xe:=λe s'=>wpAny (model P w) (A.deeper (envOfC qual scope s.heap.objs.size f cd)) (leaving (envOfC qual scope s.heap.objs.size f cd) e) (λ_ s''=>CX outer H s E e s'') (λe' s''=>CX outer H s E e' s'') s'
def ZjD{sc:Scope}{n:Nat}(h:sc.names.lookup x=some .cell):∃ c,(cellsFrom n sc.names []).lookup x=some c:=by
 have q:=cellsFrom_some sc.names n [] (.inl h)
 exact Option.isSome_iff_exists.mp q
def ZkW{CX:CXT}{base:Heap}{N ps:List Str}{qual:Str}{scope:Scope}{f:Addr}{cd:Value}{outer:List Env}{s s1:Shared}{E:XK}{vs:List V}
  (S:FnScope N ps scope) (hd:A.handled=none) (e0:Env0 P w K mg base A outer s H) (hl:vs.length=ps.length) (r:ZB vs us)
  (x:InCallC s s.heap.objs.size (bindL (envOfC qual scope s.heap.objs.size f cd).kindOf (ps.zip us) λ_=>none) (cellsFrom (s.heap.objs.size + 1) scope.names []) (bindC (envOfC qual scope s.heap.objs.size f cd).kindOf (ps.zip us) λ_=>none) s1) :
  Inv (ZjU CX P w K mg base N qual scope f cd A outer s H E) [] (Zu N vs) H s1:=by
 have hpl:ps.length<=N.length:=by have:=congrArg List.length S.pre; rw [YU] at this; omega
 obtain⟨h1,tk,rfl,hk⟩:=x.done
 have noA:∀ b:Addr,b ∉ (ZjU CX P w K mg base N qual scope f cd A outer s H E).ex:=λb z=>absurd (show b∈([]:List Addr) from z) (by simp)
 refine⟨⟨e0.mod,S.kind,rfl,rfl,Yd _,λy z c h1 h2=>?_,λy hy=>?_,λy c _ h=>?_,λ_=>hd,Around.frames_deeper e0.frames,.inr ⟨rfl,rfl⟩,λb z=>absurd z (noA b),e0.bs,e0.bsz,λb _ _=>noA b,λb z=>absurd z (noA b),e0.funs,e0.frf⟩,
  rfl,e0.bare,Un.kept hk,⟨_,x.toInCall.ns,λi y v h1 h2 h3=>?_⟩,λy c h=>⟨_,x.cell y c h⟩,e0.hok.fresh (Nat.le_refl _),λy c h=>?_,λp hp=>absurd (show p∈([]:List (Addr × Obj)) from hp) (by simp),e0.hok.kept hk,?_⟩
 ·exact name_of_addr x.apart (YN h1) (YN h2)
 ·have hy:scope.names.lookup y=some .cell\/scope.names.lookup y=some .free:=hy
  rcases hy with hy | hy
  ·exact ZjD hy
  ·exact absurd rfl (S.nofree _ (YN hy))
 ·exact YF (x.above y c (YN h))
 ·have hi:i < vs.length:=by
   unfold Zu at h2
   by_cases hi:i < vs.length
   ·exact hi
   ·rw [List.getElem?_append_right (by simpa using hi)] at h2
    rw [List.getElem?_replicate] at h2
    split at h2 <;> cases h2
  have ha:vs[i]?=some v:=by
   unfold Zu at h2
   rw [List.getElem?_append_left (by simpa using hi),List.getElem?_map] at h2
   cases e:vs[i]? with
   | none=>rw [e] at h2; cases h2
   | some a=>rw [e] at h2; cases h2; rfl
  obtain⟨u,hu,rv⟩:=r.get ha
  have hp:ps[i]?=some y:=by
   rw [<- S.pre,List.getElem?_take_of_lt (by omega)]; exact h1
  have ndP:ps.Nodup:=by rw [<- S.pre]; exact S.nd.sublist (List.take_sublist _ _)
  refine⟨u,rv,?_⟩
  rcases S.par y (Yx hp) with k | k
  ·exact .inl ⟨k,Zhe ndP hp hu k⟩
  ·obtain⟨c,e⟩:=ZjD (n:=s.heap.objs.size + 1) k
   refine .inr ⟨.inl k,c,e,?_⟩
   have q:=x.cell y c e
   rw [Zhl ndP hp hu (by show scope.names.lookup y ≠ _; rw [k]; decide)] at q
   exact q
 ·exact e0.hok.fresh (YF (x.above y c (YN h)))
 ·unfold Zu
  show _=N.length
  rw [YL,Yg,List.length_replicate]
  omega
def Zq8{CX:CXT}{base:Heap}{f:Addr}{name qual:Str}{params:Arguments}{body:List Stmt}{scope:Scope}{dV kV doc pm cdv ct oc:Value}{an od:Option Addr}
  {osl:Array (Option Value)}{N ps:List Str}{sp:Sp}(lk:K.lookup f=some ⟨oc,od,.func (fnOf name qual params body scope dV kV doc pm an cdv ct),osl⟩) (hcd:codeIn K cdv qual=true) (S:FnScope N ps scope)
  (len:∀ vs H Q E,sp vs H Q E->vs.length=ps.length)
  (hbody:∀ (A:Around) (outer:List Env) (s:Shared) (H:Hp) (vs:List V) (Q:VK) (E:XK),Room k (A.deeper (envOfC qual scope s.heap.objs.size f cdv))->sp vs H Q E ->
   ∃ t,PSs (ZjU CX P w K mg base N qual scope f cdv A outer s H E) body t/\t { nx:=λ_ H'=>Q .non H',rt:=Q } (Zu N vs) H) :
  FnOk P w K mg base CX (k + 1) f (fnOf name qual params body scope dV kV doc pm an cdv ct) ps sp:=by
 refine⟨len,λA outer s H args us vs Q E hr e0 hb r hsp=>?_⟩
 have hl:=len _ _ _ _ hsp
 have KX:K.In s.heap:=e0.mod.kin.keeps λb o e=>(e0.bs b o e).1
 have lim:s.heap.NoLimit:=e0.mod.nolimit.keeps λb o e=>(e0.bs b o e).1
 have hkind:∀ y∈ps.zip us,scope.names.lookup y.1=some .local\/(scope.names.lookup y.1=some .cell/\((cellsFrom (s.heap.objs.size + 1) scope.names []).lookup y.1).isSome=true):=λ⟨n,v⟩ hy=>by
  rcases S.par n (List.of_mem_zip hy).1 with q | q
  ·exact .inl q
  ·exact .inr ⟨q,cellsFrom_some _ _ _ (.inl q)⟩
 refine codeAny_call_function hr.depth (KX _ _ lk) rfl S.co S.gen rfl (PySem.W.codeRec_of KX hcd) (hb _ _ _ _ ?_)
 refine wpAny_newFunctionEnv_cells S.kind hkind λenv he s1 x=>?_
 subst he
 refine⟨lim.keeps x.toInCall.keep,codeAny_func ?_⟩
 obtain⟨t,ht,hq⟩:=hbody A outer s H vs Q E (hr.deeper _) hsp
 have I:Inv (ZjU CX P w K mg base N qual scope f cdv A outer s H E) [] (Zu N vs) H s1:=ZkW S hr.hd e0 hl r x
 refine Yk (ht [] s1 (Zu N vs) H _ I hq) (λfl s' hs=>?_) λe s' hs=>hs
 have fin:∀ {σ':St}{H':Hp}{v:V}{u:Value},Inv (ZjU CX P w K mg base N qual scope f cdv A outer s H E) [] σ' H' s'->ZH v u->Q v H'->CE outer P w H s Q u s' :=
  λ{σ' H' v u} J rv q=>⟨v,H',J.os,J.bare,J.base,J.hok,rv,q⟩
 cases fl with
 | ret u =>
  obtain⟨v,σ',H',J,rv,q⟩:=hs
  exact fin J rv q
 | next =>
  obtain⟨σ',H',J,q⟩:=hs
  exact fin (v:=V.non) (u:=Value.none) J rfl q
 | brk =>
  obtain⟨_,_,_,q⟩:=hs
  exact False.elim q
 | cont =>
  obtain⟨_,_,_,q⟩:=hs
  exact False.elim q
section
variable {X:Cx}{x:Str}{p pos:Pos}{e:Expr}{es:List Expr}{t:TA}{id T:String}{r:List V->Hp->VK->Prop}
def tCB(r:List V->Hp->VK->Prop)(t:TA):TE:=λσ H Q=>t σ H λvs H1=>r vs H1 Q
def ZcN(hc:JC X (.builtin id) r)(hg:Gl X x)(hm:X.mg x=none)(hv:bootBuiltins x=some (.builtin id))(ha:PA X (e :: es) t)(hn:x ≠ "__name__":=by decide)(hdb:(x == ("__debug__":Str))=false:=by decide)
  (he:starEach (e :: es) X.env=(false,eval e X.env) :: starEach es X.env:=by rfl) (hpl:(backTo pos (starEach es X.env)).any (·.1)=false:=by rfl):PE X (.Call (.Name x p) (e :: es) [] pos) (tCB r t):=by
 intro pins s σ H Q I h
 refine Vb (Zfc I hg hm hv ?_ hn hdb)
 exact PyProof.Rows.callWith_builtin1 (Z0 (ha pos pins s σ H _ I h) λus s1 ⟨vs,H1,I1,r1,q1⟩=>hc pins s1 σ H1 vs us Q I1 r1 q1) he hpl
def ZeL(hc:JC X (.type T) r)(hg:Gl X x)(hm:X.mg x=none)(hv:bootBuiltins x=some (.type T))(ha:PA X (e :: es) t)(hn:x ≠ "__name__":=by decide)(hdb:(x == ("__debug__":Str))=false:=by decide)
  (he:starEach (e :: es) X.env=(false,eval e X.env) :: starEach es X.env:=by rfl) (hpl:(backTo pos (starEach es X.env)).any (·.1)=false:=by rfl):PE X (.Call (.Name x p) (e :: es) [] pos) (tCB r t):=by
 intro pins s σ H Q I h
 refine Vb (Zfc I hg hm hv ?_ hn hdb)
 exact Vj (Z0 (ha pos pins s σ H _ I h) λus s1 ⟨vs,H1,I1,r1,q1⟩=>hc pins s1 σ H1 vs us Q I1 r1 q1) he hpl
end
end L2
namespace HT
open PySem PyProof.Rows
section
open PySem.SeqAt
open PySem.AutoSeq1 (wpAny_loadPart')
open PySem.MeetsSeq PySem.MeetsSeq2 PySem.MeetsSeq3
end
section
variable {prog:Program}{w:World}{A:Around}{E:VSP}{s:Shared}
def sIx(n d:Nat):Option Int->Nat
 | none=>d
 | some v=>if v < 0 then (v + (n:Int)).toNat else min v.toNat n
def ZsN(n d:Nat)(hd:d<=n)(o:Option Int):sIx n d o<=n:=by
 cases o with
 | none=>exact hd
 | some v =>
  show (if v < 0 then (v + (n:Int)).toNat else min v.toNat n)<=n
  by_cases hv:v < 0
  ·rw [if_pos hv]; omega
  ·rw [if_neg hv]; exact Nat.min_le_right _ _
def Zk8(v:Int)(n d:Nat):(if v < 0 then max (v + (n:Int)) 0 else min v (n:Int))=((sIx n d (some v):Nat):Int):=by
 show (if v < 0 then max (v + (n:Int)) 0 else min v (n:Int))=(((if v < 0 then (v + (n:Int)).toNat else min v.toNat n):Nat):Int)
 by_cases hv:v < 0
 ·simp only [if_pos hv]; omega
 ·simp only [if_neg hv]; omega
def Zkr(lo hi:Option Int)(n:Nat):Builtin.Slice.sliceAdjust lo hi 1 (n:Int)=(((sIx n 0 lo:Nat):Int),((sIx n n hi:Nat):Int)):=by
 have h1:¬ ((1:Int) < 0):=by omega
 unfold Builtin.Slice.sliceAdjust
 simp only [h1,if_false]
 refine Prod.ext ?_ ?_
 ·cases lo with
  | none=>rfl
  | some v=>exact Zk8 v n 0
 ·cases hi with
  | none=>rfl
  | some v=>exact Zk8 v n n
def Zkq(i j:Nat):Builtin.Slice.slicePlaces (i:Int) (j:Int) 1=j - i:=by
 unfold Builtin.Slice.slicePlaces
 have h1:(1:Int) > 0:=by omega
 simp only [h1,if_true,Int.ediv_one]
 split <;> omega
def ZfF{v:Value}{o:Option Int}{Q:Option Int->Shared->Prop}(p:IsPart v o)(h:Q o s):wpAny (model prog w) A (Builtin.Slice.slicePartIndex v) Q E s:=by
 cases p with
 | none=>exact slicePart_none h
 | int i t=>exact slicePart_int h
def Zeg{sl:Addr}{vl vu:Value}{lo hi:Option Int}{n:Nat}{Q:Int × Int × Nat->Shared->Prop}(hs:s.heap.IsSliceOf sl vl vu .none)(pl:IsPart vl lo)(pu:IsPart vu hi)
  (h:Q (((sIx n 0 lo:Nat):Int),1,sIx n n hi - sIx n 0 lo) s):wpAny (model prog w) A (Builtin.Slice.sliceApplied (.ref sl) (pure (n:Int))) Q E s:=by
 obtain⟨os,hos,hcs,hds⟩:=id hs
 unfold Builtin.Slice.sliceApplied Builtin.Slice.sliceFields
 refine Ya (Ya (wpAny_field hos hds (x:=vl) rfl (Ya (wpAny_field hos hds (x:=vu) rfl (Ya (wpAny_field hos hds (x:=.none) rfl (Yc ?_)))))))
 refine Ya (slicePart_none ?_)
 show wpAny _ _ (if ((1:Int) == 0)=true then _ else _) _ _ s
 rw [if_neg (by decide)]
 refine Ya (ZfF pl (Ya (ZfF pu (Ya (Yc ?_)))))
 show wpAny _ _ (match Builtin.Slice.sliceAdjust lo hi 1 (n:Int) with | (lo,hi)=>pure (lo,(1:Int),Builtin.Slice.slicePlaces lo hi 1)) _ _ s
 rw [Zkr lo hi n]
 show wpAny _ _ (pure (((sIx n 0 lo:Nat):Int),(1:Int),Builtin.Slice.slicePlaces ((sIx n 0 lo:Nat):Int) ((sIx n n hi:Nat):Int) 1)) _ _ s
 rw [Zkq]
 exact Yc h
def Znh(xs:Array Value)(i k:Nat):((List.range k).filterMap λ(m:Nat)=>xs[((i:Int) + (m:Int) * 1).toNat]?).toArray=((xs.toList.drop i).take k).toArray:=by
 have e:(λ(m:Nat)=>xs[((i:Int) + (m:Int) * 1).toNat]?)=λm=>xs[i + m]?:=by
  funext m
  have:((i:Int) + (m:Int) * 1).toNat=i + m:=by omega
  rw [this]
 rw [e]
 have:=pick_run xs i k
 rw [List.filterMap_map] at this
 have e2:((λx=>xs[x]?) ∘ λx=>i + x)=λm=>xs[i + m]?:=rfl
 rw [e2] at this
 rw [this]
def getItem_tuple_cut{t sl:Addr}{items:Array Value}{vl vu:Value}{lo hi:Option Int}{Q:VSP}(ht:IsTup s.heap t items)(hs:s.heap.IsSliceOf sl vl vu .none)(pl:IsPart vl lo)(pu:IsPart vu hi)
  (hw:¬ (sIx items.size 0 lo=0/\sIx items.size items.size hi=items.size))
  (h:Q (.ref s.heap.objs.size) { s with heap:=s.heap.push { cls:=.type "tuple",data:=.seq ((items.toList.drop (sIx items.size 0 lo)).take (sIx items.size items.size hi - sIx items.size 0 lo)).toArray } })
  (hsz:items.size<=sizeLine):wpAny (model prog w) A (getItem (.ref t) (.ref sl)) Q E s:=by
 have htake:sizeOk (.seq ((items.toList.drop (sIx items.size 0 lo)).take (sIx items.size items.size hi - sIx items.size 0 lo)).toArray):=by
  show ((items.toList.drop (sIx items.size 0 lo)).take (sIx items.size items.size hi - sIx items.size 0 lo)).toArray.size<=sizeLine
  rw [YA,YU,List.length_drop,YO]
  omega
 have hj:sIx items.size items.size hi<=items.size:=ZsN _ _ (Yd _) hi
 obtain⟨os,hos,hcs,hds⟩:=id hs
 have hTs:s.TypeIs (.ref sl) "slice":=⟨os,hos,hcs⟩
 unfold getItem
 try with_reducible refine YJ ?_
 first | refine Ya (Yc ?_) | skip
 refine Ya (wpAny_sequenceKey ht.typeIs (by decide) ?_)
 refine Ya (wpAny_callSpecial?_slot (name:=Str.ofString "__getitem__") ht.typeIs PyProof.Rows.slot_tuple_getitem
  (Vf PyProof.Rows.slot_tuple_getitem ht.typeIs entry_tuple_getitem ?_ (args_tuple_getitem _ _)))
 show wpAny _ _ (Builtin.Tuple.tupleItemsOf (.ref t) >>= _) _ _ s
 refine Ya (tupleItemsOf_ ht ?_)
 refine Ya (wpAny_typeOf hTs ?_)
 rw [if_pos (by decide)]
 refine Ya (Zeg hs pl pu ?_)
 have hno:¬ ((((sIx items.size 0 lo:Nat):Int) == 0 && (1:Int) == 1 && (sIx items.size items.size hi - sIx items.size 0 lo) == items.size)=true):=by
  intro q
  rw [Vc,Vc] at q
  have q1:((sIx items.size 0 lo:Nat):Int)=0:=eq_of_beq q.1.1
  have q2:sIx items.size items.size hi - sIx items.size 0 lo=items.size:=eq_of_beq q.2
  exact hw ⟨by omega,by omega⟩
 show wpAny _ _ (if (((sIx items.size 0 lo:Nat):Int) == 0 && (1:Int) == 1 && (sIx items.size items.size hi - sIx items.size 0 lo) == items.size)=true then _ else _) _ _ s
 rw [if_neg hno,Znh]
 first
  | exact Ya (m:=Builtin.Tuple.tupleExact _) (Y9 (Yc ⟨_,rfl,Yc h⟩) htake)
  | exact Ya (m:=Builtin.Tuple.tupleExact _) (Y9 (Ya (Yc (Yc ⟨_,rfl,Yc h⟩))) htake)
  | exact Ya (Ya (m:=Builtin.Tuple.tupleExact _) (Y9 (Yc (Yc ⟨_,rfl,Yc h⟩)) htake))
  | exact Ya (Ya (m:=Builtin.Tuple.tupleExact _) (Y9 (Yc ⟨_,rfl,Yc h⟩) htake))
end
end HT
namespace L2
open PySem PySem.Spec PyProof.Rows
abbrev TO:=St->Hp->(Option Int->Hp->Prop)->Prop
def PO(X:Cx)(e:Option Expr)(t:TO):Prop :=
 ∀ (pins:List (Addr × Obj)) (s:Shared) (σ:St) (H:Hp) (Q:Option Int->Hp->Prop),Inv X pins σ H s->t σ H Q ->
  wpAny (model X.prog X.w) X.A (evalPart e X.env) (λu s'=>∃ o H',Inv X pins σ H' s'/\IsPart u o/\Q o H') X.xe s
def Zc7:TO:=λ_ H Q=>Q none H
def Ziq(t:TE):TO:=λσ H Q=>t σ H λx H1=>∃ i,x=.int i/\Q (some i) H1
section
variable {X:Cx}{e:Expr}{te:TE}{lo hi:Option Expr}{tl th:TO}{pos p2:Pos}
def ZiP:PO X none Zc7:=by
 intro pins s σ H Q I h
 rw [evalPart_none]
 exact Yc ⟨none,H,I,.none,h⟩
def Ziv(h:PE X e te):PO X (some e) (Ziq te):=by
 intro pins s σ H Q I hw
 rw [evalPart_some]
 refine Z0 (h pins s σ H _ I hw) λu s1 ⟨x,H1,I1,r1,q1⟩=>?_
 obtain⟨i,rfl,q⟩:=q1
 obtain⟨t,rfl⟩:=r1
 exact⟨some i,H1,I1,.int i t,q⟩
def SlR(X:Cx)(r:V->Option Int->Option Int->Hp->VK->Prop):Prop :=
 ∀ (pins:List (Addr × Obj)) (s:Shared) (σ:St) (H:Hp) (x:V) (v vl vu:Value) (lo hi:Option Int) (sl:Addr) (Q:VK),Inv X pins σ H s->ZH x v->s.heap.IsSliceOf sl vl vu .none->IsPart vl lo->IsPart vu hi->r x lo hi H Q ->
  ∃ T id,typeLookup (.type T) "__getitem__"=pure (some (.builtin id))/\s.TypeIs v T/\wpAny (model X.prog X.w) X.A (getItem v (.ref sl)) (EP X pins σ Q) X.xe s
def tSl(r:V->Option Int->Option Int->Hp->VK->Prop)(te:TE)(tl th:TO):TE:=λσ H Q=>te σ H λx H1=>tl σ H1 λl H2=>th σ H2 λu H3=>r x l u H3 Q
def Zgc{r:V->Option Int->Option Int->Hp->VK->Prop}(hr:SlR X r)(he:PE X e te)(hl:PO X lo tl)(hu:PO X hi th):PE X (.Subscript e (.Slice lo hi none p2) pos) (tSl r te tl th):=by
 intro pins s σ H Q I h
 refine Subscript_ (Z0 (he pins s σ H _ I h) λv s1 ⟨x,H1,I1,r1,q1⟩=>?_)
 refine wpAny_Slice (Z0 (hl pins s1 σ H1 _ I1 q1) λvl s2 ⟨l,H2,I2,pl,q2⟩=>Z0 (hu pins s2 σ H2 _ I2 q2) λvu s3 ⟨u,H3,I3,pu,q3⟩=>?_)
 rw [evalPart_none]
 refine Yc ?_
 have I4:Inv X pins σ H3 { s3 with heap:=s3.heap.push { cls:=.type "slice",data:=.fields #[vl,vu,.none] } }:=I3.kept (t':=s3.toks) λb ob q=>Yi _ q
 obtain⟨T,id,hT,ht,hg⟩:=hr pins { s3 with heap:=s3.heap.push { cls:=.type "slice",data:=.fields #[vl,vu,.none] } } σ H3 x v vl vu l u s3.heap.objs.size Q I4 r1 (Heap.IsSliceOf.new ..) pl pu q3
 show wpAny (model X.prog X.w) X.A (subscriptTail e (.Slice lo hi none p2) v (.ref s3.heap.objs.size)) (EP X pins σ Q) X.xe { s3 with heap:=s3.heap.push { cls:=.type "slice",data:=.fields #[vl,vu,.none] } }
 exact tail_any (ops:=[.ref s3.heap.objs.size,v]) ht hT hg (by with_unfolding_all rfl)
def ZmR(xs:List V)(lo hi:Option Int):List V:=(xs.drop (HT.sIx xs.length 0 lo)).take (HT.sIx xs.length xs.length hi - HT.sIx xs.length 0 lo)
def ZeW(xs:List V)(lo hi:Option Int):(ZmR xs lo hi).length<=xs.length:=by
 unfold ZmR
 rw [YU,List.length_drop]
 omega
def ZuL(K:PySem.W.Frag):V->Option Int->Option Int->Hp->VK->Prop:=λx lo hi H Q=>∃ a xs,x=.ref a/\SqT K H a xs /\
 ¬ (HT.sIx xs.length 0 lo=0/\HT.sIx xs.length xs.length hi=xs.length)/\∀ p,H p=none->Q (.ref p) (upd H p (.tup (ZmR xs lo hi)))
def ZsE:SlR X (ZuL X.K):=by
 intro pins s σ H x v vl vu lo hi sl Q I rx hs pl pu h
 obtain⟨a,xs,rfl,hx,hw,q⟩:=h
 cases rx
 obtain⟨its,r,ht,hz⟩:=I.tuple hx
 have hlen:its.toArray.size=xs.length:=by rw [YA]; exact r.length.symm
 refine⟨"tuple",_,PyProof.Rows.slot_tuple_getitem.lookup,ht.typeIs,?_⟩
 refine HT.getItem_tuple_cut ht hs pl pu (by rw [hlen]; exact hw) ?_ (by rw [hlen]; exact hz)
 rw [hlen]
 refine⟨.ref s.heap.objs.size,_,I.laid (t':=s.toks) (o:=.tup (ZmR xs lo hi)) (λb ob q=>Yi _ q) (Yd _) ?_,rfl,q _ (I.hok.fresh (Yd _))⟩
 exact⟨Yj (ZeW xs lo hi) hz,_,(r.drop (HT.sIx xs.length 0 lo)).take (HT.sIx xs.length xs.length hi - HT.sIx xs.length 0 lo),IsTup.new _ _⟩
end
def ixN(n:Nat)(i:Int):Option Nat:=if 0<=i then (if i < n then some i.toNat else none) else if -(n:Int)<=i then some (i + n).toNat else none
def atI{α:Type}(xs:List α)(i:Int):Option α:=(ixN xs.length i).bind λj=>xs[j]?
def ZlV{n:Nat}{i:Int}{j:Nat}(h:ixN n i=some j):seqIndex? i n=some j/\j < n/\-(n:Int)<=i/\i < n:=by
 unfold ixN at h
 by_cases h0:0<=i
 ·rw [if_pos h0] at h
  by_cases h1:i < n
  ·rw [if_pos h1] at h
   have e:i.toNat=j:=YB h
   exact⟨by rw [seqIndex_of h0 h1,e],by omega,by omega,h1⟩
  ·rw [if_neg h1] at h; cases h
 ·rw [if_neg h0] at h
  by_cases h1:-(n:Int)<=i
  ·rw [if_pos h1] at h
   have e:(i + n).toNat=j:=YB h
   exact⟨by rw [seqIndex_neg (by omega) h1,e],by omega,h1,by omega⟩
  ·rw [if_neg h1] at h; cases h
def Ziy{α:Type}{xs:List α}{i:Int}{v:α}(h:atI xs i=some v):∃ j,seqIndex? i xs.length=some j/\xs[j]?=some v/\j < xs.length/\-(xs.length:Int)<=i/\i < xs.length:=by
 unfold atI at h
 cases e:ixN xs.length i with
 | none=>rw [e] at h; cases h
 | some j =>
  rw [e] at h
  obtain⟨h1,h2,h3,h4⟩:=ZlV e
  exact⟨j,h1,h,h2,h3,h4⟩
def Z5{α:Type}{xs:List α}{j:Nat}{v:α}(h:xs[j]?=some v):atI xs (j:Int)=some v:=by
 have hj:j < xs.length:=(Yf.mp h).1
 have e:ixN xs.length (j:Int)=some j:=by
  unfold ixN
  rw [if_pos (by omega),if_pos (by omega)]; simp
 unfold atI; rw [e]; exact h
theorem Zeq{α:Type}(xs:List α)(v:α):atI (xs ++ [v]) (-1)=some v:=by
 have hl:(xs ++ [v]).length=xs.length + 1:=by simp
 have e:ixN (xs ++ [v]).length (-1)=some xs.length:=by
  unfold ixN
  rw [hl,if_neg (by decide),if_pos (by omega)]
  congr 1
  omega
 unfold atI
 rw [e]
 show (xs ++ [v])[xs.length]?=some v
 simp
def Ze9(b:Expr):Prop:=∀ o i,subscripted b false o i=operate [o,i] (getItem o i)
def IxR(X:Cx)(r:R2):Prop :=
 ∀ (value slice:Expr) (pins:List (Addr × Obj)) (s:Shared) (σ:St) (H:Hp) (x y:V) (v u:Value) (Q:VK),Inv X pins σ H s->ZH x v->ZH y u->r x y H Q ->
  subscripted slice false v u=operate [v,u] (getItem v u)->wpAny (model X.prog X.w) X.A (subscriptTail value slice v u) (EP X pins σ Q) X.xe s
section
variable {X:Cx}{a b:Expr}{ta tb:TE}{pos:Pos}
def Zoa{r:R2}(hr:IxR X r)(ha:PE X a ta)(hb:PE X b tb)(hs:Ze9 b):PE X (.Subscript a b pos) (JQ r ta tb):=by
 intro pins s σ H Q I h
 exact Subscript_ (Zt8 ha hb I h λv u s2 x y H2 I2 rx ry q=>hr a b pins s2 σ H2 x y v u Q I2 rx ry q (hs _ _))
def ZtK(K:PySem.W.Frag):R2:=λx y H Q=>∃ p xs i v,x=.ref p/\y=.int i/\JP K H p xs/\atI xs i=some v/\Q v H
def ZuV(K:PySem.W.Frag):R2:=λx y H Q=>∃ p xs i v,x=.ref p/\y=.int i/\SqT K H p xs/\atI xs i=some v/\Q v H
def Ztx:R2:=λx y H Q=>∃ z i c,x=.str z/\y=.int i/\z.length<=sizeLine/\atI z.cps.toList i=some c/\Q (.str ⟨#[c]⟩) H
def Zme:IxR X (ZtK X.K):=by
 intro value slice pins s σ H x y v u Q I rx ry h hs
 obtain⟨p,xs,i,z,rfl,rfl,hq,he,q⟩:=h
 cases rx
 obtain⟨t,rfl⟩:=ry
 obtain⟨its,r,pl,hz⟩:=I.list hq
 obtain⟨j,h1,h2,h3,h4,h5⟩:=Ziy he
 obtain⟨w,ew,rw'⟩:=r.get h2
 have hl:=r.length
 have hn:=ZeR
 have fin:EP X pins σ Q w s:=⟨z,H,I,rw',q⟩
 by_cases h0:0<=i
 ·have hj:i.toNat=j:=by
   rw [seqIndex_of h0 h5] at h1
   exact YB h1
  exact item_listR pl.isList h0 (by omega) (by rw [hj]; simpa using ew) fin hs
 ·have hj:(i + (its.toArray.size:Int)).toNat=j:=by
   rw [seqIndex_neg (by omega) h4] at h1
   rw [YA,<- hl]
   exact YB h1
  exact subscriptTail_builtinR (x:=w) pl.isList.typeIs slot_list_getitem.lookup
   (wpAny_getItem_list_neg (Q:=λr s'=>r=w/\EP X pins σ Q r s') pl.isList (by omega) (by rw [List.size_toArray] <;> omega) (by omega) (by rw [hj]; simpa using ew) ⟨rfl,fin⟩) hs
def Zr0:IxR X (ZuV X.K):=by
 intro value slice pins s σ H x y v u Q I rx ry h hs
 obtain⟨p,xs,i,z,rfl,rfl,hq,he,q⟩:=h
 cases rx
 obtain⟨t,rfl⟩:=ry
 obtain⟨its,r,pl,hz⟩:=I.tuple hq
 obtain⟨j,h1,h2,h3,h4,h5⟩:=Ziy he
 obtain⟨w,ew,rw'⟩:=r.get h2
 have hl:=r.length
 have hn:=ZeR
 have fin:EP X pins σ Q w s:=⟨z,H,I,rw',q⟩
 exact subscriptTail_builtinR (x:=w) pl.typeIs slot_tuple_getitem.lookup
  (getItem_tuple (j:=j) (Q:=λr s'=>r=w/\EP X pins σ Q r s') pl (by omega) (by omega) (by rw [List.size_toArray,<- hl]; exact h1) (by simpa using ew) ⟨rfl,fin⟩) hs
def Zsg:IxR X Ztx:=by
 intro value slice pins s σ H x y v u Q I rx ry h hs
 obtain⟨z,i,c,rfl,rfl,hz,he,q⟩:=h
 obtain⟨t,rfl⟩:=rx
 obtain⟨t',rfl⟩:=ry
 obtain⟨j,h1,h2,h3,h4,h5⟩:=Ziy he
 have hl:z.cps.toList.length=z.length:=by simp [Str.length]
 rw [hl] at h1 h4 h5
 have hn:=ZeR
 exact tail_any (typeIs_str s z t) slot_str_getitem.lookup (getItem_str (c:=c) (by
  have e1:decide (i < -(2 ^ 63:Int))=false:=Yp (by omega)
  have e2:decide (i >= 2 ^ 63)=false:=Yp (by omega)
  rw [e1,e2,Bool.or_false]) (by rw [h1]; simpa using h2) ⟨.str ⟨#[c]⟩,H,I.tok _,⟨_,rfl⟩,q⟩) hs
def Zki(its:List Value)(n j:Nat)(u:Value):Obj.mapSeq (·.setIfInBounds j u) { cls:=.type "list",data:=.seq its.toArray n }={ cls:=.type "list",data:=.seq (its.set j u).toArray n }:=by
 simp [Obj.mapSeq]
theorem Inv.lst{pins:List (Addr × Obj)}{σ:St}{H:Hp}{s:Shared}{p:Addr}{xs:List V}(I:Inv X pins σ H s)(h:H p=some (.lst xs)) :
  ∃ (its:List Value) (n:Nat),ZB xs its/\s.heap.get? p=some { cls:=.type "list",data:=.seq its.toArray n }/\xs.length<=sizeLine:=by
 obtain⟨z,its,n,r,e⟩:=I.hok p _ h
 exact⟨its,n,r,e,z⟩
def Inv.lstUpd{pins:List (Addr × Obj)}{σ:St}{H:Hp}{s:Shared}{p:Addr}{xs ys:List V}{its its':List Value}{n n':Nat}{f:Obj->Obj}(I:Inv X pins σ H s)(h:H p=some (.lst xs))
  (ho:s.heap.get? p=some { cls:=.type "list",data:=.seq its.toArray n }) (hf:f { cls:=.type "list",data:=.seq its.toArray n }={ cls:=.type "list",data:=.seq its'.toArray n' }) (r:ZB ys its') (hz:ys.length<=sizeLine) (t:Nat) :
  Inv X pins σ (upd H p (.lst ys)) { s with heap:=s.heap.update p f,toks:=t }:=by
 have e:(s.heap.update p f).get? p=some { cls:=.type "list",data:=.seq its'.toArray n' }:=by
  rw [Heap.get?_update_self f ho (by rw [hf] <;> rfl),hf]
 refine I.write (x:=p) (e:=p) (by rw [h]; trivial) (.inl rfl) (λb u hb q=>(Vm _ _ (Ne.symm hb)).trans q) ⟨_,e⟩ ?_
 exact⟨hz,its',n',r,e⟩
def Zm9:V->V->V->Hp->(Hp->Prop)->Prop:=λo i v H Q=>∃ p xs k j,o=.ref p/\i=.int k/\H p=some (.lst xs)/\ixN xs.length k=some j/\Q (upd H p (.lst (xs.set j v)))
def Zos:ZuQ X Zm9:=by
 intro pins s σ H o i v ov iv u Q I ro ri rv h
 obtain⟨p,xs,k,j,rfl,rfl,hp,hj,q⟩:=h
 cases ro
 obtain⟨t,rfl⟩:=ri
 obtain⟨its,n,r,ho,hz⟩:=I.lst hp
 obtain⟨h1,h2,h3,h4⟩:=ZlV hj
 have hl:=r.length
 have hn:=ZeR
 have I':Inv X pins σ (upd H p (.lst (xs.set j v))) { s with heap:=s.heap.update p (Obj.mapSeq (·.setIfInBounds j u)) } :=
  I.lstUpd hp ho (Zki its n j u) (r.set rv j) (by rw [List.length_set]; exact hz) s.toks
 by_cases h0:0<=k
 ·have hk:k.toNat=j:=by
   rw [seqIndex_of h0 h4] at h1
   exact YB h1
  exact PySem.W.ki_setAt ho h0 (by omega) (by rw [YA,<- hl]; exact h4) (by rw [hk]; exact⟨_,I',q⟩)
 ·have hk:(k + (its.toArray.size:Int)).toNat=j:=by
   rw [seqIndex_neg (by omega) h3] at h1
   rw [YA,<- hl]
   exact YB h1
  exact PySem.W.ki_setBack ho (by omega) (by rw [YA,<- hl]; exact h3) (by omega) (by rw [hk]; exact⟨_,I',q⟩)
def Zhb(lo hi:Option Int)(n:Nat):(sliceBounds lo hi none n).1=((HT.sIx n 0 lo:Nat):Int)/\(sliceBounds lo hi none n).2.1=((HT.sIx n n hi:Nat):Int)/\(sliceBounds lo hi none n).2.2=1:=by
 refine⟨?_,?_,rfl⟩
 ·cases lo with
  | none=>simp [sliceBounds,HT.sIx]
  | some i =>
   simp only [sliceBounds,HT.sIx,Option.getD_none,show (1:Int) > 0 by decide,if_true]
   by_cases h:i < 0
   ·simp only [h,if_true] <;> omega
   ·simp only [h,if_false] <;> omega
 ·cases hi with
  | none=>simp [sliceBounds,HT.sIx]
  | some i =>
   simp only [sliceBounds,HT.sIx,Option.getD_none,show (1:Int) > 0 by decide,if_true]
   by_cases h:i < 0
   ·simp only [h,if_true] <;> omega
   ·simp only [h,if_false] <;> omega
def Zgj(its:List Value)(lo hi:Option Int):slicePick its.toArray lo hi none=((its.drop (HT.sIx its.length 0 lo)).take (HT.sIx its.length its.length hi - HT.sIx its.length 0 lo)).toArray:=by
 obtain⟨h1,h2,h3⟩:=Zhb lo hi its.toArray.size
 unfold slicePick
 rw [h1,h2,h3]
 simp only [sliceRange_one,pick_run,List.size_toArray] <;> rfl
def ZuK(K:PySem.W.Frag):V->Option Int->Option Int->Hp->VK->Prop:=λx lo hi H Q=>∃ a xs,x=.ref a/\JP K H a xs/\∀ p,H p=none->Q (.ref p) (upd H p (.lst (ZmR xs lo hi)))
def ZqN:SlR X (ZuK X.K):=by
 intro pins s σ H x v vl vu lo hi sl Q I rx hs pl pu h
 obtain⟨a,xs,rfl,hx,q⟩:=h
 cases rx
 obtain⟨its,r,ht,hz⟩:=I.list hx
 have hlen:=r.length
 refine⟨"list",_,slot_list_getitem.lookup,ht.isList.typeIs,?_⟩
 refine wpAny_getItem_list_slice ht.isList hs pl pu .none (by simp) ?_ (by rw [List.size_toArray] <;> omega)
 rw [Zgj,<- hlen]
 refine⟨.ref s.heap.objs.size,_,I.laid (t':=s.toks) (o:=.lst (ZmR xs lo hi)) (λb ob q=>Yi _ q) (Yd _) ?_,rfl,q _ (I.hok.fresh (Yd _))⟩
 exact⟨Yj (ZeW xs lo hi) hz,_,0,(r.drop (HT.sIx xs.length 0 lo)).take (HT.sIx xs.length xs.length hi - HT.sIx xs.length 0 lo),Yv _ rfl⟩
def Zmy:V->Bool
 | .non=>true
 | .bl _=>true
 | .int _=>true
 | .str _=>true
 | _=>false
def eqV:V->V->Bool
 | .non,.non=>true
 | .bl a,.bl b=>a == b
 | .bl a,.int b=>(if a then 1 else 0) == b
 | .int a,.bl b=>a == (if b then 1 else 0)
 | .int a,.int b=>a == b
 | .str a,.str b=>a == b
 | _,_=>false
def ZsB{A:Around}{s:Shared}{y x:V}{u v:Value}(ry:ZH y u)(rx:ZH x v)(fy:Zmy y=true)(fx:Zmy x=true):SeqAt.EqAt A s u v (eqV y x):=by
 cases y with
 | non =>
  cases ry
  cases x with
  | non=>cases rx; exact SeqAt.EqAt.same _
  | bl b=>cases rx; exact SeqAt.EqAt.none_bool b
  | int b=>obtain⟨t,rfl⟩:=rx; exact SeqAt.EqAt.none_int b t
  | str b=>obtain⟨t,rfl⟩:=rx; exact SeqAt.EqAt.none_str b t
  | _=>exact absurd (show false=true from fx) Yr
 | bl a =>
  cases ry
  cases x with
  | non=>cases rx; exact SeqAt.EqAt.bool_none a
  | bl b=>cases rx; exact SeqAt.EqAt.bool_bool a b
  | int b=>obtain⟨t,rfl⟩:=rx; exact SeqAt.EqAt.bool_int a b t
  | str b=>obtain⟨t,rfl⟩:=rx; exact SeqAt.EqAt.bool_str a b t
  | _=>exact absurd (show false=true from fx) Yr
 | int a =>
  obtain⟨t',rfl⟩:=ry
  cases x with
  | non=>cases rx; exact SeqAt.EqAt.int_none a t'
  | bl b=>cases rx; exact SeqAt.EqAt.int_bool a t' b
  | int b=>obtain⟨t,rfl⟩:=rx; exact SeqAt.EqAt.int_int a t' b t
  | str b=>obtain⟨t,rfl⟩:=rx; exact SeqAt.EqAt.int_str a t' b t
  | _=>exact absurd (show false=true from fx) Yr
 | str a =>
  obtain⟨t',rfl⟩:=ry
  cases x with
  | non=>cases rx; exact SeqAt.EqAt.str_none a t'
  | bl b=>cases rx; exact SeqAt.EqAt.str_bool a t' b
  | int b=>obtain⟨t,rfl⟩:=rx; exact SeqAt.EqAt.str_int a t' b t
  | str b=>obtain⟨t,rfl⟩:=rx; exact SeqAt.EqAt.str_str a t' b t
  | _=>exact absurd (show false=true from fx) Yr
 | _=>exact absurd (show false=true from fy) Yr
def Zeb:JC X (.builtin "len") (λxs H Q=>∃ p ys,xs=[.ref p]/\(JP X.K H p ys\/SqT X.K H p ys)/\Q (.int ys.length) H):=by
 intro pins s σ H xs us Q I r h
 obtain⟨p,ys,rfl,hq,q⟩:=h
 obtain⟨u,rfl,rx⟩:=JZ r
 cases rx
 have hn:=ZeR
 rcases hq with hq | hq
 ·obtain⟨its,r',pl,hz⟩:=I.list hq
  have hlen:=r'.length
  exact Calls.call_len_list pl.isList (by simp only [List.size_toArray] <;> omega) ⟨.int ys.length,H,I.tok _,⟨s.toks + 1,by rw [List.size_toArray,hlen]⟩,q⟩
 ·obtain⟨its,r',pl,hz⟩:=I.tuple hq
  have hlen:=r'.length
  exact len_tuple pl (by simp only [List.size_toArray] <;> omega) ⟨.int ys.length,H,I.tok _,⟨s.toks + 1,by rw [List.size_toArray,hlen]⟩,q⟩
def ZgZ:JC X (.builtin "len") (λxs H Q=>∃ z,xs=[.str z]/\z.length<=sizeLine/\Q (.int z.length) H):=by
 intro pins s σ H xs us Q I r h
 obtain⟨z,rfl,hz,q⟩:=h
 obtain⟨u,rfl,t,rfl⟩:=JZ r
 have hn:=ZeR
 exact len_str (by omega) ⟨.int z.length,H,I.tok _,⟨_,rfl⟩,q⟩
def Zea:JC X (.type "list") (λxs H Q=>∃ p ys,xs=[.ref p]/\(JP X.K H p ys\/SqT X.K H p ys)/\∀ l,H l=none->Q (.ref l) (upd H l (.lst ys))):=by
 intro pins s σ H xs us Q I r h
 obtain⟨p,ys,rfl,hq,q⟩:=h
 obtain⟨u,rfl,rx⟩:=JZ r
 cases rx
 have fin:∀ (its:List Value),ZB ys its->ys.length<=sizeLine->∀ (h':Heap) (c':Nat),(∀ b o',s.heap.get? b=some o'->h'.get? b=some o') ->
   h'.get? s.heap.objs.size=some { cls:=.type "list",dict:=none,data:=.seq its.toArray c',slots:=#[] }->EP X pins σ Q (.ref s.heap.objs.size) { s with heap:=h' }:=λits r' hz h' c' kp e =>
  ⟨.ref s.heap.objs.size,_,I.laid (t':=s.toks) kp (Yd _) (show Ja X.prog X.w _ h' _ (.lst ys) from ⟨hz,its,c',r',e⟩),rfl,q _ (I.hok.fresh (Yd _))⟩
 rcases hq with hq | hq
 ·obtain⟨its,r',pl,hz⟩:=I.list hq
  have hlen:=r'.length
  obtain⟨o,ho,hc,n,hd⟩:=pl.isList
  exact call_list_seq p (.inl rfl) ho hc hd (λh' c' kp e=>fin its r' hz h' c' kp e) (by simp only [List.size_toArray] <;> omega)
 ·obtain⟨its,r',pl,hz⟩:=I.tuple hq
  have hlen:=r'.length
  obtain⟨o,ho,hc,n,hd⟩:=pl
  exact call_list_seq p (.inr rfl) ho hc hd (λh' c' kp e=>fin its r' hz h' c' kp e) (by simp only [List.size_toArray] <;> omega)
def tyV(K:PySem.W.Frag)(T:String)(x:V)(H:Hp):Prop:=match x with
 | .str _=>T="str"
 | .int _=>T="int"
 | .ref p=>(T="list"/\∃ xs,JP K H p xs)\/(T="tuple"/\∃ o,K.lookup p=some o/\o.cls=.type "tuple"/\o.dict=none) \/
   (T="dict"/\((∃ kvs,H p=some (.dK kvs))\/∃ kvs,H p=some (.dT kvs)))\/(T="set"/\∃ S n,H p=some (.set S n))
 | _=>False
def Zpa{pins:List (Addr × Obj)}{σ:St}{H:Hp}{s:Shared}{T:String}{x:V}{v:Value}(I:Inv X pins σ H s)(r:ZH x v)(ty:tyV X.K T x H) :
  s.TypeIs v T/\∀ a,v=.ref a->∃ ob,s.heap.get? a=some ob/\ob.dict=none:=by
 cases x with
 | str z =>
  obtain⟨t,rfl⟩:=r
  cases (show T="str" from ty)
  exact⟨typeIs_str s z t,λ_ e=>nomatch e⟩
 | int i =>
  obtain⟨t,rfl⟩:=r
  cases (show T="int" from ty)
  exact⟨typeIs_int s i t,λ_ e=>nomatch e⟩
 | ref p =>
  cases r
  rcases ty with ⟨rfl,xs,hq⟩ | ⟨rfl,o,hk,hc,hd⟩ | ⟨rfl,hk⟩ | ⟨rfl,S,n,hk⟩
  ·obtain⟨its,_,pl,_⟩:=I.list hq
   refine⟨pl.isList.typeIs,λa e=>?_⟩
   cases e
   obtain⟨o,n,e,c,hd,_⟩:=pl
   exact⟨o,e,hd⟩
  ·refine⟨⟨o,I.kIn p o hk,hc⟩,λa e=>?_⟩
   cases e
   exact⟨o,I.kIn _ o hk,hd⟩
  ·have z:∃ o,s.heap.get? p=some o/\o.ExactDict:=by
    rcases hk with ⟨kvs,hk⟩ | ⟨kvs,hk⟩
    ·obtain⟨_,_,_,_,o,_,_,e,ex,_⟩:=I.hok p _ hk
     exact⟨o,e,ex⟩
    ·obtain⟨_,_,_,_,o,_,_,e,ex,_⟩:=I.hok p _ hk
     exact⟨o,e,ex⟩
   obtain⟨o,e,ex⟩:=z
   refine⟨⟨o,e,ex.1⟩,λa e2=>?_⟩
   cases e2
   exact⟨o,e,ex.2.1⟩
  ·obtain⟨o,_,_,_,e,ex,_⟩:=I.hok p _ hk
   refine⟨⟨o,e,ex.1⟩,λa e2=>?_⟩
   cases e2
   exact⟨o,e,ex.2.1⟩
 | _=>exact False.elim ty
def tBM(K:PySem.W.Frag)(T:String)(r:V->List V->Hp->VK->Prop)(to:TE)(t:TA):TE:=λσ H Q=>to σ H λx H1=>tyV K T x H1/\t σ H1 λxs H2=>r x xs H2 Q
variable {o e:Expr}{es:List Expr}{to:TE}{t:TA}{name:Str}{apos cpos:Pos}{T id:String}{r:V->List V->Hp->VK->Prop}
end
def MtM(X:Cx)(id:String)(r:V->List V->Hp->VK->Prop):Prop :=
 ∀ (pins:List (Addr × Obj)) (s:Shared) (σ:St) (H:Hp) (x:V) (xs:List V) (v:Value) (us:List Value) (Q:VK),Inv X pins σ H s->ZH x v->ZB xs us->r x xs H Q ->
  wpAny (model X.prog X.w) X.A (call (.builtin id) (v :: us)) (EP X pins σ Q) X.xe s
theorem ZB.one:∀ {x:V}{us:List Value},ZB [x] us->∃ u,us=[u]/\ZH x u
 | _,_,.cons r .nil=>⟨_,rfl,r⟩
theorem ZB.zero:∀ {us:List Value},ZB [] us->us=[]
 | _,.nil=>rfl
theorem ZB.dropLast{xs:List V}{us:List Value}(h:ZB xs us):ZB xs.dropLast us.dropLast:=by
 induction h with
 | nil=>exact .nil
 | cons r t ih =>
  cases t with
  | nil=>exact .nil
  | cons q t'=>exact .cons r ih
def ZB.eraseIdx:∀ {xs:List V}{us:List Value}(i:Nat),ZB xs us->ZB (xs.eraseIdx i) (us.eraseIdx i)
 | _,_,_,.nil=>.nil
 | _,_,0,.cons _ t=>t
 | _,_,i + 1,.cons r t=>.cons r (ZB.eraseIdx i t)
def ZB.reverse{xs:List V}{us:List Value}(h:ZB xs us):ZB xs.reverse us.reverse:=by
 induction h with
 | nil=>exact .nil
 | cons r t ih=>rw [List.reverse_cons,List.reverse_cons]; exact ZB.append ih (.cons r .nil)
def Zkm{α:Type}(l:List α):l.eraseIdx (l.length - 1)=l.dropLast:=by
 induction l with
 | nil=>rfl
 | cons a r ih =>
  cases r with
  | nil=>rfl
  | cons b r =>
   have e:(a :: b :: r).length - 1=((b :: r).length - 1) + 1:=by
    have h1:(a :: b :: r).length=r.length + 2:=rfl
    have h2:(b :: r).length=r.length + 1:=rfl
    omega
   rw [e,List.eraseIdx_cons_succ,ih]
   all_goals rfl
section
variable {X:Cx}{pins:List (Addr × Obj)}{σ:St}{H:Hp}{s:Shared}{l b:Addr}{xs ys zs:List V}
theorem Inv.lset{its its':List Value}{n:Nat}{f:Array Value->Array Value}{t':Nat}(I:Inv X pins σ H s)(hH:H l=some (.lst xs))
  (e:s.heap.get? l=some { cls:=.type "list",data:=.seq its.toArray n }) (hf:f its.toArray=its'.toArray) (hv:ZB ys its') (hz:ys.length<=sizeLine) :
  Inv X pins σ (upd H l (.lst ys)) { s with heap:=s.heap.update l (Obj.mapSeq f),toks:=t' }:=by
 have q:=PySem.IsL.update e f
 rw [hf] at q
 refine I.write (x:=l) (e:=l) (by rw [hH]; exact trivial) (.inl rfl) (λb' u hb hu=>(Vm s.heap (Obj.mapSeq f) (Ne.symm hb)).trans hu) ⟨_,q⟩ ?_
 exact⟨hz,its',_,hv,q⟩
def Inv.lnew{its:List Value}{t':Nat}(I:Inv X pins σ H s)(hv:ZB ys its)(hz:ys.length<=sizeLine) :
  Inv X pins σ (upd H s.heap.objs.size (.lst ys)) { s with heap:=s.heap.push { cls:=.type "list",data:=.seq its.toArray },toks:=t' } :=
 I.laid (λ_ _ q=>Yi _ q) (Yd _) ⟨hz,its,0,hv,Yv _ rfl⟩
theorem Inv.fresh(I:Inv X pins σ H s):H s.heap.objs.size=none:=I.hok.fresh (Yd _)
def Inv.lstM(I:Inv X pins σ H s)(hH:H l=some (.lst xs)):xs.length<=sizeLine/\∃ (its:List Value) (n:Nat),ZB xs its/\xs.length=its.length/\s.heap.get? l=some { cls:=.type "list",data:=.seq its.toArray n }:=by
 obtain⟨z,its,n,r,e⟩:=I.hok l _ hH
 exact⟨z,its,n,r,r.length,e⟩
end
section
variable {X:Cx}
def ZiQ:V->List V->Hp->VK->Prop:=λx vs H Q=>∃ l xs y,x=.ref l/\vs=[y]/\H l=some (.lst xs)/\xs.length < sizeLine/\Q .non (upd H l (.lst (xs ++ [y])))
def Zhy:MtM X "list.append" ZiQ:=by
 intro pins s σ H x vs v us Q I rx rv h
 obtain⟨l,xs,y,rfl,rfl,hH,hz,q⟩:=h
 cases rx
 obtain⟨u,rfl,ru⟩:=rv.one
 obtain⟨z,its,n,r,hl,e⟩:=I.lstM hH
 refine call_meets F.slot_list_append ⟨_,e,rfl⟩ F.entry_list_append (F.args_list_append_2 _ _) (PySem.list_append l its.toArray n u (by rw [YA]; omega)) ⟨e,?_⟩
 refine⟨.non,_,I.lset (its':=its ++ [u]) hH e (by simp) (r.append (.cons ru .nil)) ?_,rfl,q⟩
 rw [YL,List.length_singleton]
 omega
def ZmA:V->List V->Hp->VK->Prop:=λx vs H Q=>∃ l b xs zs,x=.ref l/\vs=[.ref b]/\H l=some (.lst xs)/\H b=some (.lst zs)/\xs.length + zs.length<=sizeLine/\Q .non (upd H l (.lst (xs ++ zs)))
def Ztu:V->List V->Hp->VK->Prop:=λx vs H Q=>∃ l xs y,x=.ref l/\vs=[]/\H l=some (.lst xs)/\xs[xs.length - 1]?=some y/\Q y (upd H l (.lst xs.dropLast))
def ZsA:MtM X "list.pop" Ztu:=by
 intro pins s σ H x vs v us Q I rx rv h
 obtain⟨l,xs,y,rfl,rfl,hH,hy,q⟩:=h
 cases rx
 have hus:=rv.zero
 subst hus
 obtain⟨z,its,n,r,hl,e⟩:=I.lstM hH
 obtain⟨u,hu,ru⟩:=r.get hy
 have hy':its.toArray[its.toArray.size - 1]?=some u:=by
  show its.toArray[its.length - 1]?=some u
  rw [<- Array.getElem?_toList,<- hl]
  exact hu
 refine call_meets F.slot_list_pop ⟨_,e,rfl⟩ F.entry_list_pop (F.args_list_pop_1 _) (MeetsSeq.list_pop_last l its.toArray n u hy' (by rw [YA]; omega)) ⟨e,?_⟩
 refine⟨y,_,I.lset (its':=its.dropLast) hH e ?_ r.dropLast ?_,ru,q⟩
 ·show its.toArray.eraseIdxIfInBounds (its.toArray.size - 1)=its.dropLast.toArray
  rw [YA,List.eraseIdxIfInBounds_toArray,Zkm]
 ·rw [List.length_dropLast]
  omega
def Zjk:V->List V->Hp->VK->Prop:=λx vs H Q=>∃ l xs,x=.ref l/\vs=[]/\H l=some (.lst xs)/\Q .non (upd H l (.lst xs.reverse))
def Zo6:V->List V->Hp->VK->Prop:=λx vs H Q=>∃ l xs,x=.ref l/\vs=[]/\H l=some (.lst xs)/\Q .non (upd H l (.lst []))
def ZtJ:R2:=λx y H Q=>∃ l b xs zs,x=.ref l/\y=.ref b/\H l=some (.lst xs)/\H b=some (.lst zs)/\xs.length + zs.length<=sizeLine/\∀ p,H p=none->Q (.ref p) (upd H p (.lst (xs ++ zs)))
def ZsW:OpR X (binaryOp .Add) ZtJ:=by
 intro pins s σ H x y v u Q I rx ry h
 obtain⟨l,b,xs,zs,rfl,rfl,hH,hB,hz,q⟩:=h
 cases rx
 cases ry
 obtain⟨z,its,n,r,hl,e⟩:=I.lstM hH
 obtain⟨z2,its2,n2,r2,hl2,e2⟩:=I.lstM hB
 refine PySem.P.add_list e e2 ?_ (by rw [YA,YA]; omega)
 have ea:its.toArray ++ its2.toArray=(its ++ its2).toArray:=by simp
 rw [ea]
 exact⟨.ref _,_,I.lnew (t':=s.toks) (r.append r2) (by rw [YL]; omega),rfl,q _ I.fresh⟩
end
section
variable {prog:Program}{w:World}{A:Around}{E:VSP}{s:Shared}
end
section
variable {X:Cx}
end
end L2
namespace Att
open PySem PySem.W PySem.Calls PyProof.Rows
def ZeJ{P:Params}{h:Heap}:∀ (ns:List Int) (vs:List Value),WellAll P h vs (ns.map WData.int)->IntsAre vs ns:=by
 intro ns
 induction ns with
 | nil =>
  intro vs w
  rw [List.map_nil] at w
  cases w
  exact .nil
 | cons n ns ih =>
  intro vs w
  rw [Yq] at w
  cases w with
  | cons a b =>
   cases a
   exact .cons _ _ (ih _ b)
def ZlG{l:OpenLaw}{n:Nat}(hn:l.most=some n){P:Params}{h:Heap}{args:List WData}{vals:List Value}
  (hpre:l.row.toRowW.claim.pre args=true) (hwl:WellAll P h vals args) :
  ∃ a vs ns,vals=[Value.ref a]/\args=[WData.list (ns.map WData.int)]/\h.get? a=some { cls:=.type "list",data:=.seq vs.toArray }/\IntsAre vs ns/\ns.length<=n:=by
 have hsh:WShape.hasAll [] args [.list .int]=true:=(pre_splitW hpre).1
 have hc:l.pre.holds [] { args:=args }=true:=(pre_splitW hpre).2
 obtain⟨d,r,rfl,h1,h2⟩:=hasAllW_cons hsh
 obtain rfl:=hasAllW_nil h2
 obtain⟨xs,rfl,h3⟩:=hasW_list h1
 obtain⟨ns,rfl⟩:=items_int h3
 have hlen:ns.length<=n:=by
  unfold OpenLaw.pre at hc
  have h4:(WTm.not (.lt (.lit (.int (n:Int))) (.len (.arg 0)))).holds [] { args:=[.list (ns.map .int)] }=true:=by
   have h4:=(holds_andW hc).1
   rw [hn] at h4
   exact h4
  have h5:=condW_of h4 (w_not (w_lt w_lit (w_len_list (w_arg rfl))))
  rw [Yg] at h5
  refine Nat.le_of_not_lt λq=>?_
  have q':(n:Int) < ((ns.length:Nat):Int):=by omega
  first
   | (rw [Yt q'] at h5; exact absurd h5 (by decide))
   | (simp at h5; omega)
 cases hwl with
 | cons w1 w2 =>
  cases w2
  cases w1 with
  | list ho hall=>exact⟨_,_,ns,rfl,rfl,ho,ZeJ ns _ hall,hlen⟩
def ZmF(l:OpenLaw)(args:List WData):l.row.toRowW.claim.post args (.bool true) args=true :=
 postW_of (r:=l.row.toRowW) (X:=(true == true))
  (show WShape.has [] (.bool true) .bool=true by first | rfl | decide | simp [WShape.has,WShape.arms,WShape.armsAll])
  (show (WTm.eq .res (.lit (.bool true))).value [] { args:=args,res:=some (.bool true),after:=args }=some (.bool (true == true)) from w_eq_bool (w_res rfl) w_lit) rfl
section
variable {prog:Program}{w:World}{A:Around}{E:VSP}{s:Shared}{K:Frag}
end
end Att
namespace L2
open PySem PySem.Spec PyProof.Rows
def Zdh:∀ {vs:List Value}{ns:List Int},IntsAre vs ns->ZB (ns.map V.int) vs
 | _,_,.nil=>.nil
 | _,_,.cons n t h=>.cons ⟨t,rfl⟩ (Zdh h)
def Zuy(H:Hp):Prop:=∀ b,H b=none\/∃ o xs,H b=some (.frz o (.lst xs))
def Znm{P:Program}{w:World}{K:PySem.W.Frag}{mg mb:Str->Option Value}{CX:CXT}{k:Nat}{fa a:Addr}{fd:FuncData}{x:Str}{sp:Sp}{s₁:Shared}{vs:List Value}{ns:List Int}
  (KX:K.In s₁.heap) (hns:s₁.heap.Ns mainGlobals mg) (hb:s₁.heap.Ns builtinsNs mb) (hbb:∀ x:Str,x ≠ "__name__"->mb x=bootBuiltins x) (hlim:s₁.heap.NoLimit) (hg:s₁.gens=#[])
  (ha:s₁.heap.get? a=some { cls:=.type "list",data:=.seq vs.toArray }) (hi:IntsAre vs ns) (hl:ns.length<=sizeLine) (hr:Room k callerA)
  (F:∀ base:Heap,K.In base->base.Ns mainGlobals mg->FnOk P w K mg base CX k fa fd [x] sp) (hbind:∀ (s:Shared) (u:Value),BindsTo s fd ⟨[u],[]⟩ [(x,u)])
  (hsp:∀ H:Hp,Zuy H->JP K H a (ns.map V.int)->sp [.ref a] H (λv _=>v=.bl true) λ_ _ _=>False)
  (hCX:∀ H e s',CX [] H s₁ (λ_ _ _=>False) e s'->False) :
  codeAny (model P w) callerA (.call (.ref fa) ⟨[.ref a],[]⟩) (λr s'=>r=.ok (.ret (.bool true))/\OldK s₁.heap s'.heap/\s'.os=s₁.os/\AllBare s'.gens) s₁:=by
 have rv:=Zdh hi
 have lenV:=hi.length
 -- from an abstract heap in which nothing but the script may be tracked
 have core:∀ H:Hp,Zuy H->JP K H a (ns.map V.int)->HOk P w H s₁.heap->(∀ b,H b ≠ none->b=a)->(H a ≠ none->K.lookup a=none) ->
   codeAny (model P w) callerA (.call (.ref fa) ⟨[.ref a],[]⟩) (λr s'=>r=.ok (.ret (.bool true))/\OldK s₁.heap s'.heap/\s'.os=s₁.os/\AllBare s'.gens) s₁:=by
  intro H hO hS hok hA hK
  have base_of:∀ {b:Addr}{o:Obj},s₁.heap.get? b=some o->H b=none->(Zm1 s₁.heap H).get? b=some o:=λe n=>ZoV e n
  have noA:∀ {b:Addr}{o:Obj}{es:Array DictEntry}{ep:Nat},s₁.heap.get? b=some o->o.data=.dict es ep->H b=none:=λ{b o es ep} e d=>by
   cases q:H b with
   | none=>rfl
   | some u =>
    have e':b=a:=hA b (by rw [q]; simp)
    subst e'
    rw [ha] at e; cases e
    have d':Data.seq vs.toArray _=Data.dict es ep:=d
    cases d'
  have nsK:∀ {b:Addr}{m:Str->Option Value},s₁.heap.Ns b m->(Zm1 s₁.heap H).Ns b m:=λ{b m} ⟨o,es,ep,e,d,r⟩=>⟨o,es,ep,base_of e (noA e d),d,r⟩
  have hKb:K.In (Zm1 s₁.heap H):=λb o e=>base_of (KX b o e) (by
   cases q:H b with
   | none=>rfl
   | some u =>
    have e':b=a:=hA b (by rw [q]; simp)
    subst e'
    rw [hK (by rw [q]; simp)] at e; cases e)
  have hM:Mod K mg (Zm1 s₁.heap H):=⟨hKb,nsK hns,⟨mb,nsK hb,hbb⟩,let ⟨mc,h1,h2⟩:=hlim; ⟨mc,nsK h1,h2⟩⟩
  have e0:Env0 P w K mg (Zm1 s₁.heap H) callerA [] s₁ H:=⟨rfl,hM,λb o e=>ZqR e,Nat.le_of_eq (ZkS _ _),trivial,λb hb=>absurd (show b∈([]:List Addr) from hb) (by simp),hok,.of_eq hg⟩
  refine YR ((F _ hKb (nsK hns)).run callerA [] s₁ H ⟨[.ref a],[]⟩ [.ref a] [.ref a] _ _ hr e0 (hbind s₁ (.ref a)) (.cons rfl .nil) (hsp H hO hS)) λr s' h=>?_
  cases r with
  | error e=>exact (hCX H e s' h).elim
  | ok fl =>
   cases fl with
   | next=>exact False.elim h
   | brk=>exact False.elim h
   | cont=>exact False.elim h
   | ret u =>
    obtain⟨v,H',os,bare,un,hok',r',q⟩:=h
    have q':v=.bl true:=q
    subst q'
    obtain rfl:u=Value.bool true:=r'
    refine⟨rfl,OldK.of_keep λb o e=>?_,os,bare⟩
    cases q:H b with
    | none=>exact un.keep b o e q (by intro z; exact absurd (show b∈([]:List Addr) from z) (by simp)) (by simp)
    | some u =>
     rcases hO b with z | ⟨ob,xs,z⟩
     ·rw [q] at z; cases z
     ·have z2:=un.frzs b ob _ z
      obtain⟨e1,_⟩:=hok b _ z
      obtain⟨e2,_⟩:=hok' b _ z2
      rw [e] at e1; cases e1
      exact e2
 cases hk:K.lookup a with
 | some o =>
  -- the script is one of the module's own objects
  have e:=KX a o hk
  rw [ha] at e
  cases e
  refine core (λ_=>none) (λ_=>.inl rfl) (.inr ⟨_,vs.toArray,_,hk,rfl,rfl,rfl,by rw [List.size_toArray,lenV]; exact hl,by simpa using rv⟩) (λb u z=>by have z':(none:Option HO)=some u:=z; cases z') (λb z=>absurd rfl z) λz=>absurd rfl z
 | none =>
  refine core (λb=>if b=a then some (.frz { cls:=.type "list",data:=.seq vs.toArray } (.lst (ns.map V.int))) else none) (λb=>?_) (.inl (.inr ⟨{ cls:=.type "list",data:=.seq vs.toArray },if_pos rfl⟩)) (λb u z=>?_) (λb z=>?_) λ_=>hk
  ·by_cases hb:b=a
   ·exact .inr ⟨_,_,if_pos hb⟩
   ·exact .inl (if_neg hb)
  ·by_cases hb:b=a
   ·have z':=(if_pos hb).symm.trans z
    cases z'
    subst hb
    exact⟨ha,by rw [Yg]; exact hl,vs,_,rv,ha⟩
   ·have z':=(if_neg hb).symm.trans z
    cases z'
  ·by_cases hb:b=a
   ·exact hb
   ·exact absurd (if_neg hb) z
def Z1(s:Stmt)(j:Nat):Stmt:=match s with
 | .ClassDef _ _ _ body _ _ _ _ _ _ _=>body.getD j (.Pass ⟨0,0,0,0⟩)
 | _=>.Pass ⟨0,0,0,0⟩
def Zi(s:Stmt):Arguments:=match s with
 | .FunctionDef _ a _ _ _ _ _ _ _ _=>a
 | _=>{ posonlyargs:=[],args:=[],vararg:=none,kwonlyargs:=[],kw_defaults:=[],kwarg:=none,defaults:=[] }
def Zh(s:Stmt):List Stmt:=match s with
 | .FunctionDef _ _ b _ _ _ _ _ _ _=>b
 | _=>[]
def Za(s:Stmt):Scope:=match s with
 | .FunctionDef _ _ _ _ _ _ sc _ _ _=>sc
 | _=>{ kind:=.function,names:=[],isGenerator:=false,isCoroutine:=false }
abbrev Zx:CXT:=λ_ _ _ _ _ _=>False
abbrev E0:XK:=λ_ _ _=>False
def ZmZ{X:Cx}:Zd4 Zx X E0:=λ_ _ _ _ _ _ _ h=>h.elim
structure Fun(K:PySem.W.Frag)(x qual:Str)(st:Stmt)(f:Addr)(fd:FuncData):Prop where
 ex:∃ (oc:Value) (od:Option Addr) (kV doc pm:Value) (an:Option Addr) (cdv ct:Value) (osl:Array (Option Value)),
  fd=fnOf x qual (Zi st) (Zh st) (Za st) .none kV doc pm an cdv ct/\K.lookup f=some ⟨oc,od,.func fd,osl⟩/\codeIn K cdv qual=true
 kp:keepIn K (.ref f)=true
section
variable {P:Program}{w:World}{K:PySem.W.Frag}{mg:Str->Option Value}{base:Heap}
theorem Fun.ok{x qual:Str}{st:Stmt}{f:Addr}{fd:FuncData}{N ps:List Str}{k:Nat}{sp:Sp}(F:Fun K x qual st f fd)(S:FnScope N ps (Za st))(len:∀ vs H Q E,sp vs H Q E->vs.length=ps.length)
  (hbody:∀ (cdv:Value) (A:Around) (outer:List Env) (s:Shared) (H:Hp) (vs:List V) (Q:VK) (E:XK),Room k (A.deeper (envOfC qual (Za st) s.heap.objs.size f cdv))->sp vs H Q E ->
   ∃ t,PSs (ZjU Zx P w K mg base N qual (Za st) f cdv A outer s H E).nox (Zh st) t/\t { nx:=λ_ H'=>Q .non H',rt:=Q } (Zu N vs) H):FnOk P w K mg base Zx (k + 1) f fd ps sp:=by
 obtain⟨oc,od,kV,doc,pm,an,cdv,ct,osl,rfl,lk,hcd⟩:=F.ex
 refine Zq8 lk hcd S len λA outer s H vs Q E hr hsp=>?_
 obtain⟨t,h,q⟩:=hbody cdv A outer s H vs Q E hr hsp
 exact⟨t,h.nox,q⟩
def Fun.binds{x qual:Str}{st:Stmt}{f:Addr}{fd:FuncData}{ps:List Str}(F:Fun K x qual st f fd)
  (h:∀ (kV doc pm:Value) (an:Option Addr) (cdv ct:Value) (us:List Value),us.length=ps.length->bindArgs (fnOf x qual (Zi st) (Zh st) (Za st) .none kV doc pm an cdv ct) ⟨us,[]⟩=pure (ps.zip us)):ZA K fd ps []:=by
 obtain⟨oc,od,kV,doc,pm,an,cdv,ct,osl,rfl,lk,hcd⟩:=F.ex
 exact .all (h kV doc pm an cdv ct)
def Zq{x qual:Str}{st:Stmt}{f:Addr}{oc:Value}{od an:Option Addr}{osl:Array (Option Value)}{kV doc pm cdv ct:Value}(l:K.lookup f=some ⟨oc,od,.func (fnOf x qual (Zi st) (Zh st) (Za st) .none kV doc pm an cdv ct),osl⟩)
  (c:codeIn K cdv qual=true) (k:keepIn K (.ref f)=true):Fun K x qual st f (fnOf x qual (Zi st) (Zh st) (Za st) .none kV doc pm an cdv ct):=⟨⟨oc,od,kV,doc,pm,an,cdv,ct,osl,rfl,l,c⟩,k⟩
end
def Zl3{A:Around}{k:Nat}(hr:Room k A):A.units + 1 < cLine:=YZ (Nat.add_le_add_left (by decide:1<=64) _) hr.units
def ZhD{n:Nat}(h:n<=1000):n < sizeLine:=YZ h (by decide)
section
variable {X:Cx}
theorem pv(i:Nat){x:Str}{pos:Pos}(hN:X.N[i]?=some x:=by rfl)(hv:Vis X.env.scope x:=by first | exact Or.inl rfl | exact Or.inr (Or.inl rfl) | exact Or.inr (Or.inr rfl))(hd:(x == ("__debug__":Str))=false:=by decide)
  (hcd:(x == ("__classdict__":Str))=false:=by decide):PE X (.Name x pos) (J2 i):=Zpd hN hv hd hcd
end
theorem JF{c A B:Prop}[Decidable c](h1:c->A)(h2:¬ c->B):if c then A else B:=by
 by_cases h:c
 ·rw [if_pos h]
  exact h1 h
 ·rw [if_neg h]
  exact h2 h
def Zn(H H':Hp):Prop:=∀ b o,H b=some o->H' b=some o
def Zn.refl(H:Hp):Zn H H:=λ_ _ h=>h
theorem Zn.trans{H H1 H2:Hp}(a:Zn H H1)(b:Zn H1 H2):Zn H H2:=λc o h=>b c o (a c o h)
theorem Zn.free{H H':Hp}(e:Zn H H'){l:Addr}(h:H' l=Option.none):H l=Option.none:=by
 cases q:H l with
 | none=>rfl
 | some o =>
  rw [e l o q] at h
  cases h
def Zn.seq{K:PySem.W.Frag}{H H':Hp}{a:Addr}{xs:List V}(e:Zn H H')(h:JP K H a xs):JP K H' a xs:=by
 rcases h with (h | ⟨o,h⟩) | h
 ·exact .inl (.inl (e _ _ h))
 ·exact .inl (.inr ⟨o,e _ _ h⟩)
 ·exact .inr h
section
variable {κ:Type}[DecidableEq κ]
def Ji(kvs:List (κ × V))(k:κ):Option V:=(kvs.find? λkv=>decide (kv.1=k)).map (·.2)
def JL(kvs:List (κ × V))(k:κ)(v:V):List (κ × V) :=
 if (kvs.any λkv=>decide (kv.1=k))=true then kvs.map (λkv=>if kv.1=k then (kv.1,v) else kv) else kvs ++ [(k,v)]
def Zfm(kvs:List (κ × V))(k:κ):List (κ × V):=kvs.filter λkv=>decide (kv.1 ≠ k)
def Zep{k:κ}:Ji ([]:List (κ × V)) k=none:=rfl
theorem Zdj{p:κ × V}{r:List (κ × V)}{k:κ}(e:p.1=k):Ji (p :: r) k=some p.2:=by simp [Ji,List.find?_cons,e]
theorem Zds{p:κ × V}{r:List (κ × V)}{k:κ}(e:¬ p.1=k):Ji (p :: r) k=Ji r k:=by simp [Ji,List.find?_cons,e]
def Zer(k:κ):∀ kvs:List (κ × V),(kvs.any λkv=>decide (kv.1=k))=(Ji kvs k).isSome
 | []=>rfl
 | p :: r=>by
  rw [List.any_cons]
  by_cases e:p.1=k
  ·simp only [Zdj e,decide_eq_true e,Bool.true_or,Option.isSome_some]
  ·rw [Zds e,Yp e,Bool.false_or]; exact Zer k r
def Zc1(kvs:List (κ × V))(k:κ)(v:V):(JL kvs k v).length<=kvs.length + 1:=by
 unfold JL
 split
 ·rw [Yg]; omega
 ·rw [YL,YH,List.length_nil]; omega
def J1.isSome_eq{o:Option V}{u:Option Value}(r:J1 o u):o.isSome=u.isSome:=by
 cases o with
 | none=>cases u with
  | none=>rfl
  | some _=>exact (show False from r).elim
 | some _=>cases u with
  | none=>exact (show False from r).elim
  | some _=>rfl
theorem J1.getD{o:Option V}{u:Option Value}{d:V}{d':Value}(r:J1 o u)(rd:ZH d d'):ZH (o.getD d) (u.getD d'):=by
 cases o with
 | none=>cases u with
  | none=>exact rd
  | some _=>exact (show False from r).elim
 | some _=>cases u with
  | none=>exact (show False from r).elim
  | some _=>exact r
def KV.val{kvs:List (κ × V)}{vs:List (κ × Value)}(r:KV kvs vs)(k:κ):J1 (Ji kvs k) (valueAt vs k):=by
 unfold KV at r
 induction r with
 | nil=>exact True.intro
 | @cons p q ps qs h t ih =>
  obtain⟨h1,h2⟩:=h
  by_cases e:p.1=k
  ·have e':q.1=k:=h1.symm.trans e
   have b:valueAt (q :: qs) k=some q.2:=by simp [valueAt,List.find?_cons,e']
   rw [Zdj e,b]; exact h2
  ·have e':¬ q.1=k:=λz=>e (h1.trans z)
   have b:valueAt (q :: qs) k=valueAt qs k:=by simp [valueAt,List.find?_cons,e']
   rw [Zds e,b]; exact ih
theorem KV.any{kvs:List (κ × V)}{vs:List (κ × Value)}(r:KV kvs vs)(k:κ):(kvs.any λkv=>decide (kv.1=k))=vs.any λkv=>decide (kv.1=k):=by
 unfold KV at r
 induction r with
 | nil=>rfl
 | cons h t ih=>rw [List.any_cons,List.any_cons,ih,h.1]
def KV.repl{kvs:List (κ × V)}{vs:List (κ × Value)}(r:KV kvs vs)(k:κ){y:V}{u:Value}(ry:ZH y u) :
  KV (kvs.map λkv=>if kv.1=k then (kv.1,y) else kv) (vs.map λkv=>if kv.1=k then (kv.1,u) else kv):=by
 unfold KV at r ⊢
 induction r with
 | nil=>exact .nil
 | @cons p q ps qs h t ih =>
  rw [Yq,Yq]
  refine .cons ?_ ih
  obtain⟨h1,h2⟩:=h
  by_cases e:p.1=k
  ·rw [if_pos e,if_pos (h1.symm.trans e)]; exact⟨h1,ry⟩
  ·rw [if_neg e,if_neg (λz=>e (h1.trans z))]; exact⟨h1,h2⟩
def KV.put{kvs:List (κ × V)}{vs:List (κ × Value)}(r:KV kvs vs)(k:κ){y:V}{u:Value}(ry:ZH y u):KV (JL kvs k y) (stored vs k u):=by
 unfold JL stored
 rw [r.any k]
 by_cases e:(vs.any λkv=>decide (kv.1=k))=true
 ·rw [if_pos e,if_pos e]; exact r.repl k ry
 ·rw [if_neg e,if_neg e]; exact Paired.snoc r ⟨rfl,ry⟩
def KV.drop{kvs:List (κ × V)}{vs:List (κ × Value)}(r:KV kvs vs)(k:κ):KV (Zfm kvs k) (without vs k):=by
 unfold KV at r ⊢
 unfold Zfm without
 induction r with
 | nil=>exact .nil
 | @cons p q ps qs h t ih =>
  obtain⟨h1,h2⟩:=h
  rw [List.filter_cons,List.filter_cons]
  by_cases e:p.1=k
  ·have a:¬ decide (p.1 ≠ k)=true:=by simp [e]
   have b:¬ decide (q.1 ≠ k)=true:=by simp [h1.symm.trans e]
   rw [if_neg a,if_neg b]; exact ih
  ·have e':¬ q.1=k:=λz=>e (h1.trans z)
   have a:decide (p.1 ≠ k)=true:=by simp [e]
   have b:decide (q.1 ≠ k)=true:=by simp [e']
   rw [if_pos a,if_pos b]; exact .cons ⟨h1,h2⟩ ih
def KV.keys{kvs:List (κ × V)}{vs:List (κ × Value)}(r:KV kvs vs):kvs.map (·.1)=vs.map (·.1):=by
 unfold KV at r
 induction r with
 | nil=>rfl
 | cons h t ih=>rw [Yq,Yq,ih,h.1]
theorem KV.length{kvs:List (κ × V)}{vs:List (κ × Value)}(r:KV kvs vs):kvs.length=vs.length:=Paired.length r
def Zjz(kvs:List (κ × V))(k:κ):(Zfm kvs k).length<=kvs.length:=List.length_filter_le _ _
end
def Zfp{P:Program}{w:World}{k:Z7}{u:Value}(r:ZH (kV k) u):(ZU P w).is k u=true:=by
 cases k with
 | inl i=>obtain⟨t,e⟩:=(show ∃ t,u=Value.int i t from r); subst e; exact ZiZ P w i t
 | inr x=>obtain⟨t,e⟩:=(show ∃ t,u=Value.str x t from r); subst e; exact Zic P w x t
theorem Zg4{P:Program}{w:World}:∀ {ks:List Z7}{us:List Value},ZB (ks.map kV) us->ItemsAre (ZU P w) ks us
 | [],_,r=>by rw [List.map_nil] at r; cases r; exact .nil
 | k :: ks,_,r=>by
  rw [Yq] at r
  cases r with
  | cons h t=>exact .cons (Zfp h) (Zg4 t)
abbrev KT(H:Hp):List (List Z7 × V)->List (List Z7 × Addr × Value)->Prop:=Paired λp q=>p.1=q.1/\H q.2.1=some (.tup (p.1.map kV))/\ZH p.2 q.2.2
variable {H:Hp}{kvs:List (List Z7 × V)}{xs:List (List Z7 × Addr × Value)}
def KT.val(r:KT H kvs xs)(k:List Z7):J1 (Ji kvs k) ((atKey xs k).map (·.2)):=by
 induction r with
 | nil=>exact True.intro
 | @cons p q ps qs h t ih =>
  obtain⟨h1,_,h2⟩:=h
  by_cases e:p.1=k
  ·have e':q.1=k:=h1.symm.trans e
   have b:atKey (q :: qs) k=some q.2:=by simp [atKey,List.find?_cons,e']
   rw [Zdj e,b]; exact h2
  ·have e':¬ q.1=k:=λz=>e (h1.trans z)
   have b:atKey (q :: qs) k=atKey qs k:=by simp [atKey,List.find?_cons,e']
   rw [Zds e,b]; exact ih
def KT.repl(r:KT H kvs xs)(k:List Z7){y:V}{u:Value}(ry:ZH y u) :
  KT H (kvs.map λkv=>if kv.1=k then (kv.1,y) else kv) (xs.map (putAt k u)):=by
 induction r with
 | nil=>exact .nil
 | @cons p q ps qs h t ih =>
  rw [Yq,Yq]
  refine .cons ?_ ih
  obtain⟨h1,h2,h3⟩:=h
  unfold putAt
  by_cases e:p.1=k
  ·rw [if_pos e,if_pos (h1.symm.trans e)]; exact⟨h1,h2,ry⟩
  ·rw [if_neg e,if_neg (λz=>e (h1.trans z))]; exact⟨h1,h2,h3⟩
def KT.put(r:KT H kvs xs)(k:List Z7){b:Addr}{y:V}{u:Value}(hb:H b=some (.tup (k.map kV)))(ry:ZH y u) :
  KT H (JL kvs k y) (storedH xs k b u):=by
 have e:(kvs.any λkv=>decide (kv.1=k))=(atKey xs k).isSome:=by
  rw [Zer,(r.val k).isSome_eq,Option.isSome_map]
 unfold JL storedH
 rw [e]
 by_cases q:(atKey xs k).isSome=true
 ·rw [if_pos q,if_pos q]; exact r.repl k ry
 ·rw [if_neg q,if_neg q]; exact Paired.snoc r ⟨rfl,hb,ry⟩
def KT.keeps{H H':Hp}(r:KT H kvs xs)(ht:∀ b ys,H b=some (.tup ys)->H' b=some (.tup ys)):KT H' kvs xs :=
 Paired.mapP r λ_ _ z=>⟨z.1,ht _ _ z.2.1,z.2.2⟩
section
variable {P:Program}{w:World}{H:Hp}{h:Heap}{a:Addr}
def Zs2{u:HO}(ok:HOk P w H h)(e:Rd H a u):Ja P w H h a u:=e.ok ok
def Zdq{kvs:List (Z7 × V)}(ok:HOk P w H h)(e:Rd H a (.dK kvs)):kvs.length<=sizeLine/\(a == sysModules)=false/\∃ vs,KV kvs vs/\h.DictOf (ZU P w) a vs :=
 show Ja P w H h a (.dK kvs) from Zs2 ok e
def Zss{kvs:List (Z7 × V)}(ok:HOk P w H h)(e:H a=some (.dK kvs)):kvs.length<=sizeLine/\(a == sysModules)=false/\∃ vs,KV kvs vs/\h.DictOf (ZU P w) a vs:=Zdq ok (.inl e)
def Zg7{ks:List Z7}(ok:HOk P w H h)(e:H a=some (.tup (ks.map kV))):(tupleKind (ZU P w)).is h ks a:=by
 obtain⟨_,its,r,o,h1,h2,n,h3⟩:=(show Ja P w H h a (.tup (ks.map kV)) from ok a _ e)
 exact⟨o,its.toArray,n,h1,h2,h3,by simpa using Zg4 r⟩
def Zkk(ok:HOk P w H h)(e:Rd H a (.dT kvs)):kvs.length<=sizeLine/\(a == sysModules)=false /\
  ∃ xs,KT H kvs xs/\h.DictOfH (tupleKind (ZU P w)) a xs:=by
 obtain⟨z,y,xs,r,o,es,ep,h1,h2,h3,h4,h5⟩:=(show Ja P w H h a (.dT kvs) from Zs2 ok e)
 refine⟨z,y,xs,r,o,es,ep,h1,h2,h3,h4,λx hx=>?_,h5⟩
 have all:∀ {l:List (List Z7 × V)}{m:List (List Z7 × Addr × Value)},KT H l m->∀ x∈m,(tupleKind (ZU P w)).is h x.1 x.2.1:=by
  intro l m q
  induction q with
  | nil=>intro x hx; exact nomatch hx
  | @cons p q ps qs hq t ih =>
   intro x hx
   rcases Ym.mp hx with e | hx
   ·subst e
    exact Zg7 ok (by rw [<- hq.1]; exact hq.2.1)
   ·exact ih x hx
 exact all r x hx
def Zul(ok:HOk P w H h)(e:H a=some (.dT kvs)):kvs.length<=sizeLine/\(a == sysModules)=false /\
  ∃ xs,KT H kvs xs/\h.DictOfH (tupleKind (ZU P w)) a xs:=Zkk ok (.inl e)
end
def ZmQ(H:Hp)(a:Addr)(y:V)(r:Option V):Prop :=
 (∃ kvs k,Rd H a (.dK kvs)/\y=kV k/\r=Ji kvs k)\/∃ kvs k b,Rd H a (.dT kvs)/\y=.ref b/\H b=some (.tup (k.map kV))/\r=Ji kvs k
def Zrq(H:Hp)(a:Addr)(y v:V)(H':Hp):Prop :=
 (∃ kvs k,H a=some (.dK kvs)/\y=kV k/\kvs.length < sizeLine/\H'=upd H a (.dK (JL kvs k v))) \/
 ∃ kvs k b,H a=some (.dT kvs)/\y=.ref b/\H b=some (.tup (k.map kV))/\kvs.length < sizeLine/\H'=upd H a (.dT (JL kvs k v))
theorem ZmQ.k{a:Addr}{kvs:List (Z7 × V)}{k:Z7}(e:H a=some (.dK kvs)):ZmQ H a (kV k) (Ji kvs k):=.inl ⟨kvs,k,.inl e,rfl,rfl⟩
theorem ZmQ.t{a b:Addr}{k:List Z7}(e:H a=some (.dT kvs))(eb:H b=some (.tup (k.map kV))):ZmQ H a (.ref b) (Ji kvs k):=.inr ⟨kvs,k,b,.inl e,rfl,eb,rfl⟩
theorem Zrq.k{a:Addr}{kvs:List (Z7 × V)}{k:Z7}{v:V}(e:H a=some (.dK kvs))(hl:kvs.length < sizeLine):Zrq H a (kV k) v (upd H a (.dK (JL kvs k v))):=.inl ⟨kvs,k,e,rfl,hl,rfl⟩
theorem Zrq.t{a b:Addr}{k:List Z7}{v:V}(e:H a=some (.dT kvs))(eb:H b=some (.tup (k.map kV)))(hl:kvs.length < sizeLine) :
  Zrq H a (.ref b) v (upd H a (.dT (JL kvs k v))):=.inr ⟨kvs,k,b,e,rfl,eb,hl,rfl⟩
section
variable {X:Cx}{pins:List (Addr × Obj)}{σ:St}{H:Hp}{s:Shared}{a:Addr}{y v:V}{u r:Value}{o:Option V}{A:Around}{E:VSP}
def Inv.big(I:Inv X pins σ H s):sysModules < s.heap.objs.size:=by
 have h:mainGlobals < s.heap.objs.size:=(I.mod.glob.keeps I.bk).lt
 exact Nat.lt_trans (by decide) h
def ZlL{Q:VSP}(hu:A.units + 1 < cLine)(I:Inv X pins σ H s)(g:ZmQ H a y (some v))(ry:ZH y u)(h:∀ w' s',Inv X pins σ H s'->ZH v w'->Q w' s') :
  wpAny (model X.prog X.w) A (getItem (.ref a) u) Q E s:=by
 rcases g with ⟨kvs,k,e,ey,l⟩ | ⟨kvs,k,b,e,ey,eb,l⟩
 ·subst ey
  obtain⟨z,hd,vs,rel,dd⟩:=Zdq I.hok e
  obtain⟨w',hw,rw'⟩:=J1.some_of (v:=v) (o:=valueAt vs k) (by rw [l]; exact rel.val k)
  exact wpAny_getItem_of (Zfp ry) dd.mapOf hw (h w' _ (I.tok _) rw')
 ·subst ey
  cases (show u=Value.ref b from ry)
  obtain⟨z,hd,xs,rel,dd⟩:=Zkk I.hok e
  obtain⟨w',hw,rw'⟩:=J1.some_of (v:=v) (o:=(atKey xs k).map (·.2)) (by rw [l]; exact rel.val k)
  obtain⟨p,hp,hp2⟩:=YS.mp hw
  refine wpAny_getItem_heap (tupleKind_room_in1 hu) (Zg7 I.hok eb) dd hp ?_
  rw [hp2]
  exact h w' _ (I.tok _) rw'
theorem Zu7{Q:VSP}(hu:A.units + 1 < cLine)(I:Inv X pins σ H s)(g:ZmQ H a y o)(ry:ZH y u)(h:∀ s',Inv X pins σ H s'->Q (.bool o.isSome) s') :
  wpAny (model X.prog X.w) A (compareOp .In u (.ref a)) Q E s:=by
 rcases g with ⟨kvs,k,e,ey,l⟩ | ⟨kvs,k,b,e,ey,eb,l⟩
 ·subst ey
  obtain⟨z,hd,vs,rel,dd⟩:=Zdq I.hok e
  refine wpAny_in_of (Zfp ry) hd dd.mapOf ?_
  rw [<- (rel.val k).isSome_eq,<- l]
  exact h _ (I.tok _)
 ·subst ey
  cases (show u=Value.ref b from ry)
  obtain⟨z,hd,xs,rel,dd⟩:=Zkk I.hok e
  refine wpAny_in_heap (tupleKind_room_in1 hu) (Zg7 I.hok eb) hd dd ?_
  have q:=(rel.val k).isSome_eq
  rw [Option.isSome_map] at q
  rw [<- q,<- l]
  exact h _ (I.tok _)
theorem Zq4{Q:VSP}(hu:A.units + 1 < cLine)(I:Inv X pins σ H s)(g:ZmQ H a y o)(ry:ZH y u)(h:∀ s',Inv X pins σ H s'->Q (.bool (!o.isSome)) s') :
  wpAny (model X.prog X.w) A (compareOp .NotIn u (.ref a)) Q E s:=by
 rcases g with ⟨kvs,k,e,ey,l⟩ | ⟨kvs,k,b,e,ey,eb,l⟩
 ·subst ey
  obtain⟨z,hd,vs,rel,dd⟩:=Zdq I.hok e
  refine wpAny_notIn_of (Zfp ry) hd dd.mapOf ?_
  rw [<- (rel.val k).isSome_eq,<- l]
  exact h _ (I.tok _)
 ·subst ey
  cases (show u=Value.ref b from ry)
  obtain⟨z,hd,xs,rel,dd⟩:=Zkk I.hok e
  refine wpAny_notIn_heap (tupleKind_room_in1 hu) (Zg7 I.hok eb) hd dd ?_
  have q:=(rel.val k).isSome_eq
  rw [Option.isSome_map] at q
  rw [<- q,<- l]
  exact h _ (I.tok _)
def ZiA{h':Heap}{t':Nat}{ob:HO}(I:Inv X pins σ H s)(mu:Mut (H a))(hs:Heap.SameBut a s.heap h')(he:∃ q,h'.get? a=some q)(new:Ja X.prog X.w (upd H a ob) h' a ob) :
  Inv X pins σ (upd H a ob) { s with heap:=h',toks:=t' } :=
 I.write (x:=a) (e:=a) mu (.inl rfl) (λb q hb z=>(hs.2 b hb).trans z) he new
def ZkQ{P:Program}{w:World}{H':Hp}{h':Heap}{kvs:List (Z7 × V)}{vs:List (Z7 × Value)}(z:kvs.length<=sizeLine)(hd:(a == sysModules)=false)(rel:KV kvs vs)(dd:h'.DictOf (ZU P w) a vs) :
  Ja P w H' h' a (.dK kvs):=⟨z,hd,vs,rel,dd⟩
def Zl5{H':Hp}{Q:Unit->Shared->Prop}(hu:A.units + 1 < cLine)(I:Inv X pins σ H s)(g:Zrq H a y v H')(ry:ZH y u)(rv:ZH v r)(h:∀ s',Inv X pins σ H' s'->Q () s') :
  wpAny (model X.prog X.w) A (setItem (.ref a) u r) Q E s:=by
 rcases g with ⟨kvs,k,e,ey,l,eH⟩ | ⟨kvs,k,b,e,ey,eb,l,eH⟩
 ·subst ey eH
  obtain⟨z,hd,vs,rel,dd⟩:=Zss I.hok e
  have hz:vs.length<=sizeLine:=by rw [<- rel.length]; exact z
  have hl:(JL kvs k v).length<=sizeLine:=by have:=Zc1 kvs k v; omega
  refine wpAny_setItem_pairs (hsz:=hz) (Zfp ry) dd λh' dd' hs=>h _ ?_
  have he:∃ q,h'.get? a=some q:=let ⟨q,_,_,hq,_⟩:=dd'; ⟨q,hq⟩
  exact ZiA I (by rw [e]; exact True.intro) hs he (ZkQ hl hd (rel.put k rv) dd')
 ·subst ey eH
  cases (show u=Value.ref b from ry)
  obtain⟨z,hd,xs,rel,dd⟩:=Zul I.hok e
  have hz:xs.length<=sizeLine:=by rw [<- Paired.length rel]; exact z
  have hl:(JL kvs k v).length<=sizeLine:=by have:=Zc1 kvs k v; omega
  refine wpAny_setItem_heap (hsz:=hz) (tupleKind_room_in1 hu) (Zg7 I.hok eb) dd λh' dd' hs=>h _ ?_
  obtain⟨q,es,ep,hq,h2,h3,h4,_,h5⟩:=dd'
  refine ZiA I (by rw [e]; exact True.intro) hs ⟨q,hq⟩ ⟨hl,hd,_,(rel.put k eb rv).keeps λc ys ec=>?_,q,es,ep,hq,h2,h3,h4,h5⟩
  rw [Zj (JD ec e (λz=>nomatch z))]
  exact ec
end
section
variable {X:Cx}{pins:List (Addr × Obj)}{σ:St}{H:Hp}{s:Shared}{a:Addr}{kvs:List (Z7 × V)}{k:Z7}{u:Value}{A:Around}{E:VSP}
def ZuF{v:V}{more:List Value}{Q:VSP}(I:Inv X pins σ H s)(e:H a=some (.dK kvs))(ry:ZH (kV k) u)(l:Ji kvs k=some v)(hm:more=[]\/∃ x,more=[x])
  (h:∀ w' s',Inv X pins σ (upd H a (.dK (Zfm kvs k))) s'->ZH v w'->Q w' s'):wpAny (model X.prog X.w) A (call (.builtin "dict.pop") (.ref a :: u :: more)) Q E s:=by
 obtain⟨z,hd,vs,rel,dd⟩:=Zss I.hok e
 obtain⟨w',hw,rw'⟩:=J1.some_of (v:=v) (o:=valueAt vs k) (by rw [<- l]; exact rel.val k)
 have hp:(keyPart u).isSome=true:=by
  cases k with
  | inl i=>obtain⟨t,q⟩:=(show ∃ t,u=Value.int i t from ry); subst q; rfl
  | inr x=>obtain⟨t,q⟩:=(show ∃ t,u=Value.str x t from ry); subst q; rfl
 have ha:argsOk "dict.pop" ⟨.ref a :: u :: more,[]⟩:=by
  rcases hm with q | ⟨x,q⟩
  ·subst q; exact PySem.F.args_dict_pop_2 _ _
  ·subst q; exact PySem.F.args_dict_pop_3 _ _ _
 refine call_meetsIn PySem.F.slot_dict_pop dd.typeIs PySem.F.entry_dict_pop ha (meets_dict_pop_there (ZU X.prog X.w) a (Zfp ry) more hm hp)
  ⟨vs,w',dd,by rw [<- rel.length]; exact z,hw,λh' dd' hs=>h w' _ ?_ rw'⟩
 have he:∃ q,h'.get? a=some q:=let ⟨q,_,_,hq,_⟩:=dd'; ⟨q,hq⟩
 exact ZiA I (by rw [e]; exact True.intro) hs he (ZkQ (Yj (Zjz kvs k) z) hd (rel.drop k) dd')
def Zuw{Q:VSP}(I:Inv X pins σ H s)(e:Rd H a (.dK kvs))(h:∀ t s',Inv X pins σ H s'->Q (.int kvs.length t) s'):wpAny (model X.prog X.w) A (call (.builtin "len") [.ref a]) Q E s:=by
 obtain⟨z,hd,vs,rel,dd⟩:=Zdq I.hok e
 refine call_len_dict hd dd (by rw [<- rel.length]; rw [Y2] at z; omega) ?_
 rw [<- rel.length]
 exact h _ _ (I.tok _)
end
def ZuH(i:Expr):Prop:=∀ ov iv,subscripted i false ov iv=operate [ov,iv] (getItem ov iv)
def Zqr{prog:Program}{w:World}{A:Around}{E:VSP}{s:Shared}{env:Env}{value slice:Expr}{pos:Pos}{T id:String}{Q:VSP}
  (hl:typeLookup (.type T) "__getitem__"=pure (some (.builtin id))) (hs:ZuH slice)
  (h:wpAny (model prog w) A (eval value env) (λo s₁=>wpAny (model prog w) A (eval slice env) (λi s₂=>s₂.TypeIs o T/\wpAny (model prog w) A (getItem o i) Q E s₂) E s₁) E s) :
  wpAny (model prog w) A (eval (.Subscript value slice pos) env) Q E s:=by
 refine Subscript_ (Yk h (λo s₁ h₁=>Yk h₁ (λi s₂ h₂=>?_) λ_ _ x=>x) λ_ _ x=>x)
 obtain⟨hT,h₂⟩:=h₂
 unfold subscriptTail
 refine Ya ?_
 rw [getitemInPython_of_ne hT.not_modules]
 refine Ya (wpAny_specialOf hT hl ?_)
 have fin:wpAny (model prog w) A (subscripted slice false o i) (λr s₃=>wpAny (model prog w) A (letTemporaryGo value o r >>= λ_=>pure r) Q E s₃) E s₂:=by
  rw [hs o i]
  exact wpAny_operating (Yk h₂ (λr s₃ h₃=>Ya (wpAny_letTemporaryGo (Yc h₃))) λ_ _ x=>x)
 first
  | exact Yc (Ya fin)
  | exact Ya (Yc (Ya fin))
  | exact Ya fin
def ZhS{X:Cx}{pins:List (Addr × Obj)}{σ:St}{s:Shared}{a:Addr}{y:V}{o:Option V}(I:Inv X pins σ H s)(g:ZmQ H a y o):s.TypeIs (.ref a) "dict":=by
 rcases g with ⟨kvs,k,e,_,_⟩ | ⟨kvs,k,b,e,_,_,_⟩
 ·obtain⟨_,_,vs,_,dd⟩:=Zdq I.hok e
  exact dd.typeIs
 ·obtain⟨_,_,xs,_,dd⟩:=Zkk I.hok e
  exact dd.typeIs
section
variable {X:Cx}{o i e value:Expr}{pos pos' tpos:Pos}{td ty tv:TE}
end
def Znu{P:Program}{w:World}(h:Heap)(hb:sysModules < h.objs.size):Ja P w H (h.push { cls:=.type "dict",data:=.dict #[] }) h.objs.size (.dK []) :=
 ⟨YC _,Y5.mpr (Ne.symm (Yn hb)),[],.nil,Heap.DictOf.new h⟩
def Zsp:TE:=λ_ H Q=>∀ p,H p=none->Q (.ref p) (upd H p (.dK []))
section
variable {X:Cx}{pos:Pos}
def Znd:PE X (.Dict [] [] pos) Zsp:=λpins s σ H Q I h =>
 wpAny_Dict_empty ⟨.ref s.heap.objs.size,_,I.laid (a:=s.heap.objs.size) (o:=.dK []) (t':=s.toks) (λ_ _ q=>Yi _ q) (Yd _) (Znu s.heap I.big),rfl,h _ (I.hok.fresh (Yd _))⟩
end
structure M1(X:Cx)(o:Expr)(m:Str)(apos:Pos)(e:Expr)(cpos:Pos):Prop where
 base:attributeBase o m X.env (eval o X.env)=eval o X.env
 few:((backTo cpos (starEach [e] X.env)).all (λx=>!x.1) && (backToKw cpos (keywordEach [] X.env)).all (λx=>x.1.isSome)
  && decide (([e]:List Expr).length + ([]:List Keyword).length + (if ([]:List Keyword).isEmpty then 0 else 1) < 30))=true
 line:(apos.endLine == cpos.line)=true
 trees:backTo cpos (starEach [e] X.env)=[(false,eval e X.env)]
structure M2(X:Cx)(o:Expr)(m:Str)(apos:Pos)(e f:Expr)(cpos:Pos):Prop where
 base:attributeBase o m X.env (eval o X.env)=eval o X.env
 few:((backTo cpos (starEach [e,f] X.env)).all (λx=>!x.1) && (backToKw cpos (keywordEach [] X.env)).all (λx=>x.1.isSome)
  && decide (([e,f]:List Expr).length + ([]:List Keyword).length + (if ([]:List Keyword).isEmpty then 0 else 1) < 30))=true
 line:(apos.endLine == cpos.line)=true
 trees:backTo cpos (starEach [e,f] X.env)=[(false,eval e X.env),(false,eval f X.env)]
def IsD(H:Hp)(a:Addr):Prop:=(∃ kvs,Rd H a (.dK kvs))\/∃ kvs,Rd H a (.dT kvs)
def Zpt{X:Cx}{pins:List (Addr × Obj)}{σ:St}{s:Shared}{a:Addr}(I:Inv X pins σ H s)(d:IsD H a) :
  s.TypeIs (.ref a) "dict"/\(∀ b,Value.ref a=.ref b->∃ ob,s.heap.get? b=some ob/\ob.dict=none)/\(a == sysModules)=false:=by
 rcases d with ⟨kvs,e⟩ | ⟨kvs,e⟩
 ·obtain⟨_,hd,vs,_,dd⟩:=Zdq I.hok e
  refine⟨dd.typeIs,λb q=>?_,hd⟩
  cases q
  obtain⟨ob,_,_,h1,h2,_⟩:=dd
  exact⟨ob,h1,h2.2.1⟩
 ·obtain⟨_,hd,xs,_,dd⟩:=Zkk I.hok e
  refine⟨dd.typeIs,λb q=>?_,hd⟩
  cases q
  obtain⟨ob,_,_,h1,h2,_⟩:=dd
  exact⟨ob,h1,h2.2.1⟩
section
variable {X:Cx}{pins:List (Addr × Obj)}{σ:St}{H:Hp}{s:Shared}{a:Addr}{y d:V}{u r:Value}{o:Option V}{A:Around}{E:VSP}
end
def Zph(td ty tx:TE):TE:=λσ H Q=>td σ H λx H1=>∃ a,x=.ref a/\IsD H1 a/\ty σ H1 λy H2=>tx σ H2 λz H3=>∃ o,ZmQ H3 a y o/\Q (o.getD z) H3
def ZjL(td ty:TE):TE:=λσ H Q=>td σ H λx H1=>∃ a,x=.ref a/\IsD H1 a/\ty σ H1 λy H2=>∃ kvs k v,H2 a=some (.dK kvs)/\y=kV k/\Ji kvs k=some v/\Q v (upd H2 a (.dK (Zfm kvs k)))
section
variable {X:Cx}{o e f:Expr}{apos cpos:Pos}{td ty tx:TE}
def ZnT(ho:PE X o td)(he:PE X e ty)(m:M1 X o "pop" apos e cpos):PE X (.Call (.Attribute o "pop" apos) [e] [] cpos) (ZjL td ty):=by
 intro pins s σ H Q I h
 refine wpAny_Call_method m.base m.few m.line PySem.F.plainAttrs_dict PySem.F.slot_dict_pop PySem.F.type_dict_pop (Z0 (ho pins s σ H _ I h) λu s1 ⟨x,H1,I1,rx,a,ex,d,q1⟩=>?_)
 subst ex
 obtain rfl:u=Value.ref a:=rx
 obtain⟨t1,t2,_⟩:=Zpt I1 d
 refine⟨t1,t2,?_⟩
 rw [m.trees]
 refine YX rfl (Y6 (Y8 (Z0 (he pins s1 σ H1 _ I1 q1) λiv s2 ⟨y,H2,I2,ry,kvs,k,v,ea,ey,l,q2⟩=>Vd ?_)))
 subst ey
 exact ZuF I2 ea ry l (.inl rfl) λw' s3 I3 rw'=>⟨v,_,I3,rw',q2⟩
end
section
variable {X:Cx}{pins:List (Addr × Obj)}{σ:St}{H:Hp}{s:Shared}{a:Addr}{kvs:List (Z7 × V)}{A:Around}{E:VSP}
def Zoc{Q:VSP}(I:Inv X pins σ H s)(e:Rd H a (.dK kvs))(h:∀ p s',H p=none->Inv X pins σ (upd H p (.dK kvs)) s'->Q (.ref p) s'):wpAny (model X.prog X.w) A (call (.type "dict") [.ref a]) Q E s:=by
 obtain⟨z,hd,vs,rel,dd⟩:=Zdq I.hok e
 refine kt_call_dict hd dd (by rw [<- rel.length]; exact z) λh' dd' hs=>?_
 refine h _ _ (I.hok.fresh (Yd _)) (I.laid (a:=s.heap.objs.size) (o:=.dK kvs) (t':=s.toks) (λb q hq=>?_) (Yd _) (ZkQ z (Y5.mpr (Ne.symm (Yn I.big))) rel dd'))
 exact (hs.2 b (Yn (Ye hq))).trans (Yi _ hq)
end
section
variable {X:Cx}{pins:List (Addr × Obj)}{σ:St}{H:Hp}{s:Shared}{a:Addr}{y:V}{u:Value}{A:Around}{E:VSP}
end
end L2
namespace My
def ZmV{a b:Int}:Int.gcd b (a % b)=Int.gcd a b:=by
 rw [Int.emod_def,Int.gcd_comm a b]
 exact Int.gcd_sub_mul_left_right b a (a / b)
def Zms{a b:Int}:Int.gcd b (a.fmod b)=Int.gcd a b:=by
 rw [Int.fmod_def,Int.gcd_comm a b]
 exact Int.gcd_sub_mul_left_right b a (a.fdiv b)
def ZiD{a b:Int}(hb:b ≠ 0):(a.fmod b).natAbs < b.natAbs:=by
 rcases Int.lt_or_gt_of_ne hb with h | h
 ·have e:a.fmod b=-((-a).fmod (-b)):=by rw [Int.neg_fmod_neg,Int.neg_neg]
  have h1:=Int.fmod_nonneg_of_pos (-a) (b:=-b) (by omega)
  have h2:=Int.fmod_lt_of_pos (-a) (b:=-b) (by omega)
  omega
 ·have h1:=Int.fmod_nonneg_of_pos a h
  have h2:=Int.fmod_lt_of_pos a h
  omega
def ZiW{a b:Int}(hb:0 < b):(a % b).toNat < b.toNat:=by
 have h1:=Ys a (Int.ne_of_gt hb)
 have h2:=Yu a hb
 omega
theorem ZkU(i:Int):(if i < 0 then -i else i)=(i.natAbs:Int):=by
 split <;> omega
def ZpU(a b:Int):Int.gcd (a.natAbs:Int) (b.natAbs:Int)=Int.gcd a b:=by
 simp [Int.gcd]
def Jg(t b:Int):Int:=if b < 0 then -(Int.gcd t b:Int) else (Int.gcd t b:Int)
def ZiI{t b:Int}(hb:b ≠ 0):Jg t b ≠ 0:=by
 have h:=Vi t hb
 unfold Jg
 split <;> omega
def Zby(t b:Int):Jg t b ∣ t:=by
 unfold Jg
 split
 ·exact Int.neg_dvd.mpr (Int.gcd_dvd_left t b)
 ·exact Int.gcd_dvd_left t b
def Za2(t b:Int):Jg t b ∣ b:=by
 unfold Jg
 split
 ·exact Int.neg_dvd.mpr (Int.gcd_dvd_right t b)
 ·exact Int.gcd_dvd_right t b
def Zjn(t b:Int):(Jg t b).natAbs=Int.gcd t b:=by
 unfold Jg
 split <;> simp
def Zcp{a d:Int}(h:d ∣ a):a.fdiv d=a / d:=by
 rw [Int.fdiv_eq_ediv_of_dvd h]
def ZnG{t b:Int}(hb:b ≠ 0):0 < b / Jg t b:=by
 have hg:=Vi t hb
 obtain⟨k,hk⟩:=Za2 t b
 have e:b / Jg t b=k:=Int.ediv_eq_of_eq_mul_right (ZiI hb) hk
 rw [e]
 unfold Jg at hk
 generalize hG:(Int.gcd t b:Int)=g at hk
 have hg':0 < g:=by omega
 by_cases h:0 < k
 ·exact h
 ·exfalso
  have h2:0<=g * (-k):=Int.mul_nonneg (by omega) (by omega)
  have h3:g * (-k)=-(g * k):=Int.mul_neg g k
  split at hk
  ·have h4:-g * k=-(g * k):=Int.neg_mul g k
   omega
  ·omega
def ZuW{t b:Int}(hb:b ≠ 0):Int.gcd (t / Jg t b) (b / Jg t b)=1:=by
 rw [Int.gcd_ediv (Zby t b) (Za2 t b),Zjn]
 exact Nat.div_self (Vi t hb)
def ZbU{t b:Int}(hb:b ≠ 0):t / Jg t b=(Rat.divInt t b).num/\b / Jg t b=((Rat.divInt t b).den:Int):=by
 have hp:=ZnG (t:=t) hb
 have hc:=ZuW (t:=t) hb
 have hn:=ZiI (t:=t) hb
 have e1:t=Jg t b * (t / Jg t b):=(Int.mul_ediv_cancel' (Zby t b)).symm
 have e2:b=Jg t b * (b / Jg t b):=(Int.mul_ediv_cancel' (Za2 t b)).symm
 have hden:(b / Jg t b).toNat ≠ 0:=by omega
 have hcop:(t / Jg t b).natAbs.Coprime (b / Jg t b).toNat:=by
  have:(b / Jg t b).natAbs=(b / Jg t b).toNat:=by omega
  rw [<- this]; exact hc
 have key:Rat.divInt t b=⟨t / Jg t b,(b / Jg t b).toNat,hden,hcop⟩:=by
  have:Rat.divInt (t / Jg t b) (((b / Jg t b).toNat:Nat):Int)=⟨t / Jg t b,(b / Jg t b).toNat,hden,hcop⟩:=by
   rw [Rat.divInt_ofNat]
   exact Rat.mkRat_self ⟨t / Jg t b,(b / Jg t b).toNat,hden,hcop⟩
  rw [<- this]
  rw [Rat.divInt_eq_divInt_iff hb (by omega)]
  have e3:(((b / Jg t b).toNat:Nat):Int)=b / Jg t b:=by omega
  rw [e3]
  conv=>lhs; rw [e1]
  conv=>rhs; rw [e2]
  grind
 constructor
 ·rw [key]
 ·rw [key]; show b / Jg t b=(((b / Jg t b).toNat:Nat):Int); omega
def ZfO{x y:Int}{a b:Nat}(hx:x.natAbs < 2 ^ a)(hy:y.natAbs < 2 ^ b):(x * y).natAbs < 2 ^ (a + b):=by
 rw [Int.natAbs_mul,Nat.pow_add]
 exact Nat.mul_lt_mul'' hx hy
def ZcR{a c n:Nat}(h:n < 2 ^ a)(hac:a<=c):n < 2 ^ c:=Yl h (Nat.pow_le_pow_right (by decide) hac)
def ZgL{t b:Int}(hb:b ≠ 0):(Rat.divInt t b).num.natAbs<=t.natAbs:=by
 rw [<- (ZbU hb).1]
 exact Int.natAbs_ediv_le_natAbs _ _
def Zf9{t b:Int}(hb:b ≠ 0):(Rat.divInt t b).den<=b.natAbs:=by
 have h:((Rat.divInt t b).den:Int).natAbs<=b.natAbs:=by
  rw [<- (ZbU (t:=t) hb).2]
  exact Int.natAbs_ediv_le_natAbs _ _
 simpa using h
def ZdU{n k:Nat}(h:n < 2 ^ k)(hk:0 < k):n.log2 < k:=by
 by_cases h0:n=0
 ·rw [h0]; simpa using hk
 ·exact (Nat.log2_lt h0).mpr h
def ZfB{t b:Int}(hb:b ≠ 0):Int.gcd t b<=b.natAbs:=Nat.le_of_dvd (by omega) (Nat.gcd_dvd_right _ _)
def SzQ(n:Nat)(q:Rat):Prop:=q.num.natAbs < 2 ^ n/\q.den < 2 ^ n
theorem SzQ.mono{n m:Nat}{q:Rat}(h:SzQ n q)(hm:n<=m):SzQ m q:=⟨ZcR h.1 hm,ZcR h.2 hm⟩
theorem SzQ.of{n:Nat}{t b:Int}(hb:b ≠ 0)(ht:t.natAbs < 2 ^ n)(hb2:b.natAbs < 2 ^ n):SzQ n (Rat.divInt t b) :=
 ⟨YZ (ZgL hb) ht,YZ (Zf9 hb) hb2⟩
def Zca(q:Rat):(q.den:Int) ≠ 0:=by have:=q.den_pos; omega
def ZfL(p q:Rat):p - q=Rat.divInt (p.num * q.den - q.num * p.den) (p.den * q.den):=by
 conv=>lhs; rw [<- Vn p,<- Vn q]
 exact Rat.divInt_sub_divInt _ _ (Zca p) (Zca q)
def Zog(p q:Rat):p < q ↔ p.num * q.den < q.num * p.den:=Rat.lt_iff p q
def Zj0(p q:Rat):(p.den:Int) * q.den ≠ 0:=Int.mul_ne_zero (Zca p) (Zca q)
end My
set_option Elab.async false
set_option maxRecDepth 100000
namespace My
open PySem PySem.Spec L2
open PyProof.Rows hiding St
def ZF:Expr->Bool
 | .Starred ..=>false
 | _=>true
def ZG{e:Expr}{es:List Expr}{env:Env}(h:ZF e=true):starEach (e :: es) env=(false,eval e env) :: starEach es env:=by
 cases e <;> first | rfl | cases h
def Zdp{env:Env}{pos:Pos}:∀ {es:List Expr},es.all ZF=true->(backTo pos (starEach es env)).any (·.1)=false
 | [],_=>rfl
 | e :: es,h=>by
  rw [List.all_cons,Vc] at h
  rw [ZG h.1]
  have:=Zdp (env:=env) (pos:=pos) h.2
  unfold backTo at this ⊢
  simpa using this
section
variable {X:Cx}{e:Expr}{es:List Expr}{te:TE}{t:TA}{pos p:Pos}{x:Str}{id T:String}{r:List V->Hp->VK->Prop}
def Zu8(ha:PE X e te)(hr:PA X es t)(hp:ZF e=true:=by rfl):PA X (e :: es) (Zhq te t):=Zqy ha hr (ZG hp)
def Jc{e:Expr}{es:List Expr}(h:(e :: es).all ZF=true):ZF e=true/\es.all ZF=true:=by
 rw [List.all_cons,Vc] at h
 exact h
def ZjY(hc:JC X (.builtin id) r)(hg:Gl X x)(hm:X.mg x=none)(hv:bootBuiltins x=some (.builtin id))(ha:PA X (e :: es) t)(hp:(e :: es).all ZF=true:=by rfl)(hn:x ≠ "__name__":=by decide)(hdb:(x == ("__debug__":Str))=false:=by decide) :
  PE X (.Call (.Name x p) (e :: es) [] pos) (tCB r t):=ZcN hc hg hm hv ha hn hdb (ZG (Jc hp).1) (Zdp (Jc hp).2)
def Zlh(hc:JC X (.type T) r)(hg:Gl X x)(hm:X.mg x=none)(hv:bootBuiltins x=some (.type T))(ha:PA X (e :: es) t)(hp:(e :: es).all ZF=true:=by rfl)(hn:x ≠ "__name__":=by decide)(hdb:(x == ("__debug__":Str))=false:=by decide) :
  PE X (.Call (.Name x p) (e :: es) [] pos) (tCB r t):=ZeL hc hg hm hv ha hn hdb (ZG (Jc hp).1) (Zdp (Jc hp).2)
end
structure Fn(P:Program)(w:World)(K:PySem.W.Frag)(mg:Str->Option Value)(base:Heap)(CX:CXT)(k:Nat)(x:Str)(ps:List Str)(sp:Sp):Prop where
 ex:∃ (f:Addr) (fd:FuncData),FnOk P w K mg base CX k f fd ps sp/\ZA K fd ps []/\keepIn K (.ref f)=true/\mg x=some (.ref f)
section
variable {X:Cx}{CX:CXT}{j k:Nat}{x:Str}{ps:List Str}{sp:Sp}{p pos:Pos}{e:Expr}{es:List Expr}{t:TA}
def Zus(F:Fn X.prog X.w X.K X.mg X.base Zx j x ps sp)(hr:Room k X.A)(hj:j<=k)(hg:Gl X x)(ha:PA X (e :: es) t)(hp:(e :: es).all ZF=true:=by rfl)(hdb:(x == ("__debug__":Str))=false:=by decide) :
  PE X (.Call (.Name x p) (e :: es) [] pos) (ZiF sp [] E0 t):=by
 obtain⟨f,fd,G,b,kp,m⟩:=F.ex
 exact Zma G (hr.mono hj) hg m kp b .nil ZmZ ha hdb (ZG (Jc hp).1) (Zdp (Jc hp).2)
end
section
variable {X:Cx}
def ZoU:OpR X (binaryOp .FloorDiv) (rI (λ_ j=>j ≠ 0/\j.natAbs.log2 < 9000) λi j=>.int (i.fdiv j)) :=
 opI λ_ _ _ _ _ _ _ hc q=>floordiv_int hc.1 q (.inl (PyProof.noPylong_of_log2 hc.2))
def ZqB:OpR X (binaryOp .Mult) (rI IntMulOk λi j=>.int (i * j)):=opI λ_ _ _ _ _ _ _ hc q=>mul_int q hc
end
def Zdt(H:Hp):V->Option String
 | .non=>some "NoneType"
 | .bl _=>some "bool"
 | .int _=>some "int"
 | .str _=>some "str"
 | .ref a=>match H a with
  | some (.lst _)=>some "list"
  | some (.tup _)=>some "tuple"
  | some (.dK _)=>some "dict"
  | _=>none
 | _=>none
def Zqv:List String:=["NoneType","bool","int","str","list","tuple","dict"]
def Zlz:List String:=["bool","int","str","list","tuple","dict"]
def isA(t n:String):Bool:=t == n || (t == "bool" && n == "int")
def Zp1(H:Hp)(x:Bool):Zdt H (.bl x)=some "bool":=rfl
def ZnO(H:Hp)(i:Int):Zdt H (.int i)=some "int":=rfl
theorem Zgy{H:Hp}{a:Addr}{xs:List V}(h:H a=some (.tup xs)):Zdt H (.ref a)=some "tuple":=by unfold Zdt; dsimp only; rw [h]
theorem Znx{H:Hp}{a:Addr}{xs:List V}(h:H a=some (.lst xs)):Zdt H (.ref a)=some "list":=by unfold Zdt; dsimp only; rw [h]
def ZpI:("int"∈Zlz)=True:=eq_true (by decide)
def Zoz:("bool"∈Zlz)=True:=eq_true (by decide)
def ZlZ:("tuple"∈Zlz)=True:=eq_true (by decide)
def Znv:("list"∈Zlz)=True:=eq_true (by decide)
def Zq2:("str"∈Zlz)=True:=eq_true (by decide)
def Zsv:isA "bool" "bool"=true:=by decide
def ZsO:isA "bool" "int"=true:=by decide
def ZrT:isA "int" "int"=true:=by decide
def ZsU:isA "int" "bool"=false:=by decide
def Zsw:isA "tuple" "tuple"=true:=by decide
def ZrV:isA "list" "list"=true:=by decide
def Zol{K:PySem.W.Frag}{H:Hp}{x:V}{t:String}(e:Zdt H x=some t):TyOf K H x (.type t)/\t∈Zqv:=by
 unfold Zdt at e
 split at e
 ·cases e; exact⟨.non,by decide⟩
 ·cases e; exact⟨.bl _,by decide⟩
 ·cases e; exact⟨.int _,by decide⟩
 ·cases e; exact⟨.str _,by decide⟩
 ·split at e
  ·cases e; exact⟨.lst (by assumption),by decide⟩
  ·cases e; exact⟨.tup (by assumption),by decide⟩
  ·cases e; exact⟨.dK (by assumption),by decide⟩
  ·cases e
 ·cases e
def ZlT(K:PySem.W.Frag):∀ t∈Zqv,∀ n∈Zlz,kitOne K (.type t) (.type n)=some (isA t n):=by
 intro t ht n hn
 simp only [Zqv,Zlz,List.mem_cons,List.not_mem_nil,or_false] at ht hn
 rcases ht with rfl | rfl | rfl | rfl | rfl | rfl | rfl <;> rcases hn with rfl | rfl | rfl | rfl | rfl | rfl <;> rfl
section
variable {X:Cx}
def ZlI:JC X (.builtin "isinstance") (λxs H Q=>∃ x n t,xs=[x,.ty n]/\Zdt H x=some t/\n∈Zlz/\Q (.bl (isA t n)) H):=by
 intro pins s σ H xs us Q I r h
 obtain⟨x,n,t,rfl,e,hn,q⟩:=h
 obtain⟨u,v,rfl,ru,rv⟩:=ZlS r
 cases (show v=Value.type n from rv)
 obtain⟨ty,ht⟩:=Zol (K:=X.K) e
 exact Zmk I ru ty (ZlT X.K t ht n hn) λtk=>⟨.bl (isA t n),H,I.tok tk,rfl,q⟩
def ZtU{x:Str}{T:String}{pos:Pos}(hg:Gl X x)(hm:X.mg x=none)(hv:bootBuiltins x=some (.type T))(hn:x ≠ "__name__":=by decide)(hd:(x == ("__debug__":Str))=false:=by decide):PE X (.Name x pos) (tC (.ty T)) :=
 Zrg hg hm hv rfl hn hd
end
section
variable {X:Cx}{e:Expr}{es:List Expr}{te:TE}{t:TA}{pos:Pos}
theorem ZS{H:Hp}{p:Addr}(h:H p=none)(o:HO):Zn H (upd H p o):=λb u q=>by rw [Zj (Ze q h)]; exact q
def Zox(t:TA):TE:=λσ H Q=>t σ H λxs H1=>xs.length<=1000/\∀ p H2,H1 p=none->Zn H1 H2->H2 p=some (.tup xs)->Q (.ref p) H2
def ZoI(t:TA):TE:=λσ H Q=>t σ H λxs H1=>xs.length<=1000/\∀ p H2,H1 p=none->Zn H1 H2->H2 p=some (.lst xs)->Q (.ref p) H2
def ZgU{n:Nat}(h:n<=1000):n<=sizeLine:=YF (ZhD h)
def Zrm{x1}(h:PA X es t):PE X (.Tuple es x1 pos) (Zox t):=by
 intro pins s σ H Q I hq
 refine wpAny_Tuple_spliced (Z0 (h pos pins s σ H _ I hq) λus s1 ⟨xs,H1,I1,r,z,q⟩=>⟨by rw [<- r.length]; exact ZgU z,?_⟩)
 have hf:H1 s1.heap.objs.size=none:=I1.hok.fresh (Yd _)
 refine⟨.ref s1.heap.objs.size,upd H1 s1.heap.objs.size (.tup xs),I1.laid (t':=s1.toks) (λb u e=>Yi _ e) (Yd _) ?_,rfl,q _ _ hf (ZS hf _) Zl⟩
 exact⟨ZgU z,us,r,⟨_,Yv _ rfl,rfl,_,rfl⟩⟩
def ZpM(h:PA X es t):PE X (.List es pos) (ZoI t):=by
 intro pins s σ H Q I hq
 refine wpAny_List_spliced (Z0 (h pos pins s σ H _ I hq) λus s1 ⟨xs,H1,I1,r,z,q⟩=>⟨by rw [<- r.length]; exact ZgU z,?_⟩)
 have hf:H1 s1.heap.objs.size=none:=I1.hok.fresh (Yd _)
 refine⟨.ref s1.heap.objs.size,upd H1 s1.heap.objs.size (.lst xs),I1.laid (t':=s1.toks) (λb u e=>Yi _ e) (Yd _) ?_,rfl,q _ _ hf (ZS hf _) Zl⟩
 exact⟨ZgU z,us,0,r,Yv _ rfl⟩
def Zpz{r r':R2}(h:IxR X r)(i:∀ x y H Q,r' x y H Q->r x y H Q):IxR X r' :=
 λvalue slice pins s σ H x y v u Q I rx ry q hs=>h value slice pins s σ H x y v u Q I rx ry (i x y H Q q) hs
def ZdI:R2:=λx y H Q=>∃ p xs i v,x=.ref p/\y=.int i/\H p=some (.tup xs)/\atI xs i=some v/\Q v H
def Zod:R2:=λx y H Q=>∃ p xs i v,x=.ref p/\y=.int i/\H p=some (.lst xs)/\atI xs i=some v/\Q v H
def Zp5:IxR X ZdI:=Zpz Zr0 λ_ _ _ _ ⟨p,xs,i,v,h1,h2,h3,h4,q⟩=>⟨p,xs,i,v,h1,h2,SqT.of h3,h4,q⟩
def Zqx:IxR X Zod:=Zpz Zme λ_ _ _ _ ⟨p,xs,i,v,h1,h2,h3,h4,q⟩=>⟨p,xs,i,v,h1,h2,JP.of h3,h4,q⟩
def ZkX:JC X (.builtin "len") (λxs H Q=>∃ p ys,xs=[.ref p]/\(H p=some (.lst ys)\/H p=some (.tup ys))/\Q (.int ys.length) H) :=
 λpins s σ H xs us Q I r ⟨p,ys,h1,h2,q⟩=>Zeb pins s σ H xs us Q I r ⟨p,ys,h1,h2.imp JP.of SqT.of,q⟩
def ZtF(to:TE)(t:TA):TE:=λσ H Q=>to σ H λx H1=>∃ l zs,x=.ref l/\H1 l=some (.lst zs)/\t σ H1 λvs H2=>∃ y xs,vs=[y]/\H2 l=some (.lst xs)/\xs.length < 1000000/\Q .non (upd H2 l (.lst (xs ++ [y])))
def ZuT{n:Nat}(h:n < 1000000):n < sizeLine:=Nat.lt_trans h (by decide)
def ZlH{o:Expr}{to:TE}{apos cpos:Pos}(ho:PE X o to)(ha:PA X (e :: es) t)
  (hbase:attributeBase o "append" X.env (eval o X.env)=eval o X.env:=by rfl)
  (hfew:((backTo cpos (starEach (e :: es) X.env)).all (λx=>!x.1) && (backToKw cpos (keywordEach [] X.env)).all (λx=>x.1.isSome)
   && decide ((e :: es).length + ([]:List Keyword).length + (if ([]:List Keyword).isEmpty then 0 else 1) < 30))=true:=by rfl)
  (hline:(apos.endLine == cpos.line)=true:=by rfl) (hs:starEach (e :: es) X.env=(false,eval e X.env) :: starEach es X.env:=by rfl) (hplain:(backTo cpos (starEach es X.env)).any (·.1)=false:=by rfl) :
  PE X (.Call (.Attribute o "append" apos) (e :: es) [] cpos) (ZtF to t):=by
 intro pins s σ H Q I h
 refine wpAny_Call_method_late hbase hfew hline rfl (Z0 (ho pins s σ H _ I h) λv s1 ⟨x,H1,I1,r1,l,zs,e1,e2,q1⟩=>?_)
 obtain⟨h1,h2⟩:=Zpa (T:="list") I1 r1 (by rw [e1]; exact .inl ⟨rfl,zs,JP.of e2⟩)
 refine⟨"list","list.append",PySem.F.plainAttrs_list,PySem.F.slot_list_append,PySem.F.type_list_append,h1,h2,?_⟩
 have hA:=ha cpos pins s1 σ H1 _ I1 q1
 rw [hs] at hA ⊢
 refine YX (by show (false || (backTo cpos (starEach es X.env)).any (·.1))=false; rw [hplain] <;> rfl) (Y6 ?_)
 exact Z0 hA λus s2 ⟨vs,H2,I2,r2,y,xs,e3,e4,z,q2⟩=>Zhy pins s2 σ H2 x vs v us Q I2 r1 r2 ⟨l,xs,y,e1,e3,e4,ZuT z,q2⟩
theorem ZW{H H':Hp}{p:Addr}{o:HO}(hp:H p=none)(hs:Zn H H'):Zn H (upd H' p o):=λb u q=>by rw [Zj (Ze q hp)]; exact hs b u q
def ZnA(n:Nat)(t:TGs):TG:=λv σ H Q=>∃ a xs,v=.ref a/\H a=some (.tup xs)/\xs.length=n/\t xs σ H Q
def ZpW{es:List Expr}{k:Nat}{t:TGs}{n:Nat}(hc:X.calm=true)(h:PGs X es t)
  (hn:(assignEach es X.env).length=n:=by rfl) (hst:(assignEach es X.env).findIdx? (·.1)=none:=by rfl):PG X (.Tuple es k pos) (ZnA n t) :=
 λpins s σ H v u Q I r ⟨a,xs,h1,h2,h3,q⟩=>ZrA hc h hn hst pins s σ H v u Q I r ⟨a,xs,h1,SqT.of h2,h3,q⟩
end
def Zsa{α:Type}(x:α)(xs:List α):atI (x :: xs) 0=some x:=Z5 (j:=0) rfl
def Zu9{α:Type}(x y:α)(xs:List α):atI (x :: y :: xs) 1=some y:=Z5 (j:=1) rfl
def Zu6{α:Type}(x y z:α)(xs:List α):atI (x :: y :: z :: xs) 2=some z:=Z5 (j:=2) rfl
def Zu2{α:Type}(x y z u:α)(xs:List α):atI (x :: y :: z :: u :: xs) 3=some u:=Z5 (j:=3) rfl
def cellOf(ns:List Int)(k:Nat):Int:=ns.getD k (2 * (k:Int) + 1)
def Zqi{ns:List Int}{k:Nat}(h:k < ns.length):atI (ns.map V.int) (k:Int)=some (.int (cellOf ns k)):=by
 refine Z5 ?_
 rw [Yh,Yb h]
 simp [cellOf,List.getD,List.getElem?_eq_getElem h]
def Zm5{ns:List Int}{k:Nat}(h:¬ k < ns.length):cellOf ns k=2 * (k:Int) + 1:=by
 unfold cellOf
 rw [List.getD,YW (by omega)]
 rfl
def Zrf(σ:St)(i:Nat):Int:=match σ[i]? with
 | some (some (.int m))=>m
 | _=>0
def Zir{c:TT}{tb:TS}{D:Ends}{σ:St}{H:Hp}(Pv:St->Hp->Prop)(μ:St->Hp->Nat)(h0:Pv σ H)
  (hs:∀ σ H,Pv σ H->c σ H λb H1=>if b=true then ∃ N:St->Hp->Prop,(∀ σ' H',N σ' H'->∃ m',m' < μ σ H/\(m'=μ σ' H'/\Pv σ' H'))/\tb { D with nx:=N,ct:=N,bk:=D.nx } σ H1 else D.nx σ H1):ZmC c tb D σ H:=by
 refine⟨λm σ H=>m=μ σ H/\Pv σ H,⟨_,rfl,h0⟩,?_⟩
 rintro m σ H ⟨rfl,p⟩
 exact hs σ H p
structure QE(X:Cx)(e:Expr)(t:TE):Prop where
 h:PE X e t
structure QT(X:Cx)(e:Expr)(t:TT):Prop where
 h:PT X e t
structure QW(X:Cx)(e:Expr)(t:TT):Prop where
 h:PW X e t
structure QA(X:Cx)(es:List Expr)(t:TA):Prop where
 h:PA X es t
structure QS(X:Cx)(st:Stmt)(t:TS):Prop where
 h:PS X st t
structure QB(X:Cx)(sts:List Stmt)(t:TS):Prop where
 h:PSs X sts t
structure QI(X:Cx)(tg it:Expr)(t:TI):Prop where
 h:PI X tg it t
structure QG(X:Cx)(tg:Expr)(t:TG):Prop where
 h:PG X tg t
structure QGs(X:Cx)(tgs:List Expr)(t:TGs):Prop where
 h:PGs X tgs t
section
variable {X:Cx}{a b c e:Expr}{es Jf:List Expr}{ta tb tc te:TE}{tA tB':TT}{t:TA}{pos p:Pos}{x:Str}
def Zf(i:Nat)(hN:X.N[i]?=some x:=by rfl)(hv:Vis X.env.scope x:=by first | exact Or.inl rfl | exact Or.inr (Or.inl rfl) | exact Or.inr (Or.inr rfl))(hd:(x == ("__debug__":Str))=false:=by decide)
  (hcd:(x == ("__classdict__":Str))=false:=by decide):QE X (.Name x pos) (J2 i):=⟨Zpd hN hv hd hcd⟩
def Zb{i j}:QE X (.Constant (.int i) j pos) (tC (.int i)):=⟨ZrO⟩
def ZnR{k j}:QE X (.Constant (.bool k) j pos) (tC (.bl k)):=⟨Zui⟩
def ZqS{j}:QE X (.Constant .none j pos) (tC .non):=⟨ZsK⟩
def Zv{y j}:QE X (.Constant (.str y) j pos) (tC (.str y)):=⟨ZsF⟩
def ZmN{T:String}(hg:Gl X x)(hm:X.mg x=none)(hv:bootBuiltins x=some (.type T))(hn:x ≠ "__name__":=by decide)(hd:(x == ("__debug__":Str))=false:=by decide):QE X (.Name x pos) (tC (.ty T)):=⟨ZtU hg hm hv hn hd⟩
def ZmI{a:Addr}(hg:Gl X x)(hm:X.mg x=some (.ref a))(hd:(x == ("__debug__":Str))=false:=by decide):QE X (.Name x pos) (tC (.ref a)):=⟨ZhN hg hm rfl hd⟩
def Z4(ha:QE X a ta)(hb:QE X b tb):QE X (.BinOp a .Add b pos) (JQ (rI0 λi j=>.int (i + j)) ta tb):=⟨ZeV Zs9 ha.h hb.h⟩
def JS(ha:QE X a ta)(hb:QE X b tb):QE X (.BinOp a .Sub b pos) (JQ (rI0 λi j=>.int (i - j)) ta tb):=⟨ZeV ZsY ha.h hb.h⟩
def JW(ha:QE X a ta)(hb:QE X b tb):QE X (.BinOp a .Mult b pos) (JQ (rI Zru λi j=>.int (i * j)) ta tb):=⟨ZeV ZrQ ha.h hb.h⟩
def Zdo(ha:QE X a ta)(hb:QE X b tb):QE X (.BinOp a .Mult b pos) (JQ (rI IntMulOk λi j=>.int (i * j)) ta tb):=⟨ZeV ZqB ha.h hb.h⟩
def ZX(ha:QE X a ta)(hb:QE X b tb):QE X (.BinOp a .Mod b pos) (JQ (rI (λ_ j=>0 < j) λi j=>.int (i % j)) ta tb):=⟨ZeV Zs4 ha.h hb.h⟩
def ZrJ(ha:QE X a ta)(hb:QE X b tb):QE X (.BinOp a .Mod b pos) (JQ (rI (λ_ j=>j ≠ 0) λi j=>.int (i.fmod j)) ta tb):=⟨ZeV Zq1 ha.h hb.h⟩
def Zdi(ha:QE X a ta)(hb:QE X b tb):QE X (.BinOp a .FloorDiv b pos) (JQ (rI Ztl λi j=>.int (i / j)) ta tb):=⟨ZeV ZqO ha.h hb.h⟩
def ZgH(ha:QE X a ta)(hb:QE X b tb):QE X (.BinOp a .FloorDiv b pos) (JQ (rI (λ_ j=>j ≠ 0/\j.natAbs.log2 < 9000) λi j=>.int (i.fdiv j)) ta tb):=⟨ZeV ZoU ha.h hb.h⟩
def Ziz(ha:QE X a ta)(hb:QE X b tb):QE X (.BinOp a .Pow b pos) (JQ (rI Ztt λi j=>.int (i ^ j.toNat)) ta tb):=⟨ZeV Zr2 ha.h hb.h⟩
def Zqd(ha:QE X a ta)(hb:QE X b tb):QE X (.BinOp a .Add b pos) (JQ ZtJ ta tb):=⟨ZeV ZsW ha.h hb.h⟩
def ZeO(ha:QE X a ta)(hb:QE X b tb):QE X (.BinOp a .Add b pos) (JQ (λx y H Q=>∃ i j,x=.str i/\y=.str j/\i.length + j.length<=sizeLine/\Q (.str (i ++ j)) H) ta tb):=⟨ZeV Zkn ha.h hb.h⟩
def Zmq(ha:QE X a ta):QE X (.UnaryOp .USub a pos) (tUn (rU λi=>.int (-i)) ta):=⟨Zt6 Zr5 ha.h⟩
def Zt7(ha:QE X a ta):QE X (.UnaryOp .Not a pos) (Zoh ta):=⟨Zsm ha.h⟩
def Zix{op}(ha:QE X a ta):QE X (.BoolOp op [a] pos) ta:=⟨Zsu ha.h⟩
def ZhF(ha:QE X a ta)(hb:QE X (.BoolOp .And (b :: Jf) pos) tb):QE X (.BoolOp .And (a :: b :: Jf) pos) (Zm6 ta tb):=⟨ZsS ha.h hb.h⟩
def Zh2(hc:QT X c tA)(ha:QE X a ta)(hb:QE X b tb):QE X (.IfExp c a b pos) (tIf tA ta tb):=⟨Zni hc.h ha.h hb.h⟩
def Ztd(ha:QE X a ta)(hb:QE X b tb):QE X (.Compare a [.Eq] [b] pos) (JQ rEq ta tb):=⟨ZdN ZsT ha.h hb.h (Zb1 _)⟩
def Zu4(ha:QE X a ta)(hb:QE X b tb):QE X (.Compare a [.Lt] [b] pos) (JQ (rI0 λi j=>.bl (decide (i < j))) ta tb):=⟨ZdN ZqP ha.h hb.h (Zb1 _)⟩
def ZuN(ha:QE X a ta)(hb:QE X b tb):QE X (.Compare a [.GtE] [b] pos) (JQ (rI0 λi j=>.bl (decide (j<=i))) ta tb):=⟨ZdN ZrK ha.h hb.h (Zb1 _)⟩
def Jk(ha:QE X e te)(he:∀ whole,isTrue e X.env whole=(do let v <- whole; standAt e.pos; holding [v] (truthy v)):=by intro _; rfl):QT X e (tB te):=⟨Zst ha.h he⟩
def Jr(ha:QT X a tA):QT X (.UnaryOp .Not a pos) (ZtD tA):=⟨Zti ha.h⟩
def ZfQ(ha:QT X a tA):QW X (.BoolOp .And [a] pos) tA:=⟨ZqG ha.h⟩
def JV(ha:QT X a tA):QW X (.BoolOp .Or [a] pos) tA:=⟨Zr4 ha.h⟩
def Zka(ha:QT X a tA)(hb:QW X (.BoolOp .And (b :: Jf) pos) tB'):QW X (.BoolOp .And (a :: b :: Jf) pos) (Zto tA tB'):=⟨Zsd ha.h hb.h⟩
def J3(ha:QT X a tA)(hb:QW X (.BoolOp .Or (b :: Jf) pos) tB'):QW X (.BoolOp .Or (a :: b :: Jf) pos) (tOr tA tB'):=⟨Zt1 ha.h hb.h⟩
def t_w(h:QW X e tA):QT X e tA:=⟨h.h.pt⟩
def Jq(ha:QE X a ta)(hb:QE X b tb):QT X (.Compare a [.Eq] [b] pos) (Jt (JQ rEq ta tb)):=⟨Zcr ZsT ha.h hb.h (Zb1 _)⟩
def ZlN(ha:QE X a ta)(hb:QE X b tb):QT X (.Compare a [.NotEq] [b] pos) (Jt (JQ rNe ta tb)):=⟨Zcr Zuc ha.h hb.h (Zb1 _)⟩
def Zrz(ha:QE X a ta)(hb:QE X b tb):QT X (.Compare a [.Lt] [b] pos) (Jt (JQ (rI0 λi j=>.bl (decide (i < j))) ta tb)):=⟨Zcr ZqP ha.h hb.h (Zb1 _)⟩
def Zse(ha:QE X a ta)(hb:QE X b tb):QT X (.Compare a [.Gt] [b] pos) (Jt (JQ (rI0 λi j=>.bl (decide (j < i))) ta tb)):=⟨Zcr Zuo ha.h hb.h (Zb1 _)⟩
def Ztv(ha:QE X a ta)(hb:QE X b tb):QT X (.Compare a [.GtE] [b] pos) (Jt (JQ (rI0 λi j=>.bl (decide (j<=i))) ta tb)):=⟨Zcr ZrK ha.h hb.h (Zb1 _)⟩
def ZrN(ha:QE X a ta)(hb:QE X b tb):QT X (.Compare a [.Is] [b] pos) (Jt (JQ (λx y H Q=>y=.non/\Q (.bl (decide (x=.non))) H) ta tb)):=⟨Zcr Zsr ha.h hb.h (Zb1 _)⟩
def Zc:QA X [] Zpg:=⟨ZrP⟩
def Zm(ha:QE X e te)(hr:QA X es t)(hp:ZF e=true:=by rfl):QA X (e :: es) (Zhq te t):=⟨Zu8 ha.h hr.h hp⟩
def Jo{x1}(h:QA X es t):QE X (.Tuple es x1 pos) (Zox t):=⟨Zrm h.h⟩
def JK(h:QA X es t):QE X (.List es pos) (ZoI t):=⟨ZpM h.h⟩
def ZD(ha:QE X a ta)(hb:QE X b tb)(hs:Ze9 b:=by intro _ _; rfl):QE X (.Subscript a b pos) (JQ ZdI ta tb):=⟨Zoa Zp5 ha.h hb.h hs⟩
def ZE(ha:QE X a ta)(hb:QE X b tb)(hs:Ze9 b:=by intro _ _; rfl):QE X (.Subscript a b pos) (JQ Zod ta tb):=⟨Zoa Zqx ha.h hb.h hs⟩
def ZtY(ha:QE X a ta)(hb:QE X b tb)(hs:Ze9 b:=by intro _ _; rfl):QE X (.Subscript a b pos) (JQ (ZtK X.K) ta tb):=⟨Zoa Zme ha.h hb.h hs⟩
def JE(hg:Gl X "len")(hm:X.mg "len"=none)(ha:QA X (e :: es) t)(hp:(e :: es).all ZF=true:=by rfl) :
  QE X (.Call (.Name "len" p) (e :: es) [] pos) (tCB (λxs H Q=>∃ p ys,xs=[.ref p]/\(H p=some (.lst ys)\/H p=some (.tup ys))/\Q (.int ys.length) H) t):=⟨ZjY ZkX hg hm PySem.boot_len ha.h hp⟩
def ZlU(hg:Gl X "len")(hm:X.mg "len"=none)(ha:QA X (e :: es) t)(hp:(e :: es).all ZF=true:=by rfl) :
  QE X (.Call (.Name "len" p) (e :: es) [] pos) (tCB (λxs H Q=>∃ p ys,xs=[.ref p]/\(JP X.K H p ys\/SqT X.K H p ys)/\Q (.int ys.length) H) t):=⟨ZjY Zeb hg hm PySem.boot_len ha.h hp⟩
def Zrl(hg:Gl X "abs")(hm:X.mg "abs"=none)(ha:QA X (e :: es) t)(hp:(e :: es).all ZF=true:=by rfl) :
  QE X (.Call (.Name "abs" p) (e :: es) [] pos) (tCB (λxs H Q=>∃ i,xs=[.int i]/\Q (.int (if i < 0 then -i else i)) H) t):=⟨ZjY Znl hg hm (by rfl) ha.h hp⟩
def ZcY(hg:Gl X "isinstance")(hm:X.mg "isinstance"=none)(ha:QA X (e :: es) t)(hp:(e :: es).all ZF=true:=by rfl) :
  QE X (.Call (.Name "isinstance" p) (e :: es) [] pos) (tCB (λxs H Q=>∃ x n t,xs=[x,.ty n]/\Zdt H x=some t/\n∈Zlz/\Q (.bl (isA t n)) H) t):=⟨ZjY ZlI hg hm (by rfl) ha.h hp⟩
variable {j k:Nat}{ps:List Str}{sp:Sp}
def Zu1(F:Fn X.prog X.w X.K X.mg X.base Zx j x ps sp)(hr:Room k X.A)(hj:j<=k)(hg:Gl X x)(ha:QA X (e :: es) t)(hp:(e :: es).all ZF=true:=by rfl)(hdb:(x == ("__debug__":Str))=false:=by decide) :
  QE X (.Call (.Name x p) (e :: es) [] pos) (ZiF sp [] E0 t):=⟨Zus F hr hj hg ha.h hp hdb⟩
theorem Jp(F:Fn X.prog X.w X.K X.mg X.base Zx j x ps sp)(hr:Room k X.A)(ha:QA X (e :: es) t)(hj:j<=k:=by decide)(hg:Gl X x:=by rfl)(hp:(e :: es).all ZF=true:=by rfl)(hdb:(x == ("__debug__":Str))=false:=by decide):QE X (.Call (.Name x p) (e :: es) [] pos) (ZiF sp [] E0 t):=Zu1 F hr hj hg ha hp hdb
def Zgf{o:Expr}{to:TE}{apos cpos:Pos}(ho:QE X o to)(ha:QA X [e] t)(hbase:attributeBase o "append" X.env (eval o X.env)=eval o X.env:=by rfl)(hline:(apos.endLine == cpos.line)=true:=by rfl)(hp:ZF e=true:=by rfl) :
  QE X (.Call (.Attribute o "append" apos) [e] [] cpos) (ZtF to t) :=
 ⟨ZlH ho.h ha.h hbase (by rw [ZG hp]; rfl) hline (ZG hp) rfl⟩
end
section
variable {X:Cx}{st:Stmt}{Jf a b body:List Stmt}{t u tb:TS}{e c tg it:Expr}{te:TE}{tc:TT}{pos:Pos}{g:TG}{wi:TI}
def Zy:QB X [] Zf6:=⟨Zqs⟩
def Zd(h1:QS X st t)(h2:QB X Jf u):QB X (st :: Jf) (Znk t u):=⟨ZoO h1.h h2.h⟩
def Zk(h1:QS X st t):QB X [st] t:=⟨ZpN h1.h⟩
def Z6:QS X st ZpB:=⟨ZoN⟩
def Zr(he:QE X e te):QS X (.Return (some e) pos) (Zrx te):=⟨ZsH he.h⟩
def ZN(hc:QT X c tc)(ha:QB X a t)(hb:QB X b u):QS X (.If c a b pos) (ZnI tc t u):=⟨Zud hc.h ha.h hb.h⟩
def ZL(he:QE X e te)(hs:swapsWith e none pos.line X.env=pure false:=by rfl):QS X (.Expr e pos) (Zny te):=⟨Zqu he.h hs⟩
def Zt{x:Str}{pos':Pos}(i:Nat)(hN:X.N.Nodup)(he:QE X e te)(hi:X.N[i]?=some x:=by rfl)(hx:Loc X.env.scope x:=by first | exact Or.inl rfl | exact Or.inr rfl)(hs:swapsWith e (some (.Name x pos')) pos.line X.env=pure false:=by rfl)
  (hf:X.fn x=true\/X.env.scope.names.lookup x=some .local:=by first | exact .inl rfl | exact .inr rfl | assumption):QS X (.Assign [.Name x pos'] e pos) (ZmT te (Zef i)):=⟨ZsQ hN hi hx he.h hs hf⟩
def ZuE{x y:Str}{c d:Expr}{ta:TA}{px py pt:Pos}{kt k2 pt2}(i j:Nat)(hN:X.N.Nodup)(ha:QA X [c,d] ta)(hc:X.calm=true:=by rfl)(hi:X.N[i]?=some x:=by rfl)(hj:X.N[j]?=some y:=by rfl)(hij:i ≠ j:=by decide)
  (hx:X.env.scope.names.lookup x=some .local:=by rfl) (hy:X.env.scope.names.lookup y=some .local:=by rfl)
  (hw:swappedStores [.Tuple [.Name x px,.Name y py] kt pt] (.Tuple [c,d] k2 pt2) X.env=pure (some [x,y]):=by rfl)
  (hs:swapsWithSole [.Tuple [.Name x px,.Name y py] kt pt] (.Tuple [c,d] k2 pt2) pos.line X.env=pure false:=by rfl) :
  QS X (.Assign [.Tuple [.Name x px,.Name y py] kt pt] (.Tuple [c,d] k2 pt2) pos) (ZtM i j ta):=⟨Zr9 hc hN hi hj hij hx hy ha.h hw hs⟩
def Zky(he:QE X e te)(hg:QG X tg g)(hs:swapsWithSole [tg] e pos.line X.env=pure false:=by rfl)(hw:swappedStores [tg] e X.env=pure none:=by rfl)(h1:(assignEach [tg] X.env).map (·.2)=[assign tg X.env]:=by rfl):QS X (.Assign [tg] e pos) (ZmT te g):=⟨ZsD he.h hg.h hs hw h1⟩
def Z3{x:Str}(i:Nat)(hN:X.N.Nodup)(hi:X.N[i]?=some x:=by rfl)(hx:Loc X.env.scope x:=by first | exact Or.inl rfl | exact Or.inr rfl)(hf:X.fn x=true\/X.env.scope.names.lookup x=some .local:=by first | exact .inl rfl | exact .inr rfl | assumption) :
  QG X (.Name x pos) (Zef i):=⟨ZpS hN hi hx hf⟩
def ZgT:QGs X [] ZtH:=⟨ZqU⟩
def Zb5{es:List Expr}{v:TGs}(h1:QG X e g)(h2:QGs X es v)(hs:(assignEach (e :: es) X.env).map (·.2)=assign e X.env :: (assignEach es X.env).map (·.2):=by rfl):QGs X (e :: es) (Zom g v):=⟨ZnP h1.h h2.h hs⟩
def ZlW{es:List Expr}{k:Nat}{v:TGs}{n:Nat}(h:QGs X es v)(hc:X.calm=true:=by rfl)(hn:(assignEach es X.env).length=n:=by rfl)(hst:(assignEach es X.env).findIdx? (·.1)=none:=by rfl) :
  QG X (.Tuple es k pos) (ZnA n v):=⟨ZpW hc h.h hn hst⟩
def Zh8(hp:PassesOwn (model X.prog X.w) X.A X.env X.xe)(hc:QT X c tc)(hb:QB X body tb):QS X (.While c body [] pos) (ZmC tc tb):=⟨Zot hp hc.h hb.h⟩
def ZhP(hp:PassesOwn (model X.prog X.w) X.A X.env X.xe)(hi:QI X tg it wi)(hg:QG X tg g)(hb:QB X body tb)(hc:X.calm=true:=by rfl)(hs:∀ x,foldedSetIterable it X.env x=pure x:=by intro _; rfl) :
  QS X (.For tg it body [] pos) (Zrr wi g tb):=⟨ZrZ hp hc hi.h hg.h hb.h hs⟩
def Zfd(hl:QE X e te):QI X tg e (Zfo X.K te):=⟨ZpQ hl.h⟩
def ZtN(hl:QE X e te):QI X tg e (Zuz X.K te):=⟨Zs6 hl.h⟩
def Zg6{c:Expr}{ta:TA}{p:Pos}(hg:Gl X "range")(hm:X.mg "range"=none)(ha:QA X [c] ta)(hp:ZF c=true:=by rfl):QI X tg (.Call (.Name "range" p) [c] [] pos) (Zk1 ta):=⟨ZkM hg hm ha.h (ZG hp)⟩
def Zps{c d:Expr}{ta:TA}{p:Pos}(hg:Gl X "range")(hm:X.mg "range"=none)(ha:QA X [c,d] ta)(hp:ZF c=true:=by rfl)(hq:ZF d=true:=by rfl) :
  QI X tg (.Call (.Name "range" p) [c,d] [] pos) (Zqt ta):=⟨Zly hg hm ha.h (by rw [ZG hp,ZG hq]; rfl) (ZG hq)⟩
end
def okQ{P:Program}{w:World}{K:PySem.W.Frag}{mg:Str->Option Value}{base:Heap}{x qual:Str}{st:Stmt}{f:Addr}{fd:FuncData}{N ps:List Str}{k:Nat}{sp:Sp}(F:Fun K x qual st f fd)(S:FnScope N ps (Za st))(len:∀ vs H Q E,sp vs H Q E->vs.length=ps.length)
  (hbody:∀ (cdv:Value) (A:Around) (outer:List Env) (s:Shared) (H:Hp) (vs:List V) (Q:VK) (E:XK),Room k (A.deeper (envOfC qual (Za st) s.heap.objs.size f cdv))->sp vs H Q E ->
   ∃ t,QB (ZjU Zx P w K mg base N qual (Za st) f cdv A outer s H E).nox (Zh st) t/\t { nx:=λ_ H'=>Q .non H',rt:=Q } (Zu N vs) H):FnOk P w K mg base Zx (k + 1) f fd ps sp :=
 F.ok S len λcdv A outer s H vs Q E hr h=>by
  obtain⟨t,q,r⟩:=hbody cdv A outer s H vs Q E hr h
  exact⟨t,q.h,r⟩
def Zns{P:Program}{w:World}{H:Hp}{h:Heap}{a:Addr}{o:HO}(x:Ja P w H h a o):∃ u,h.get? a=some u:=by
 cases o with
 | lst xs=>obtain⟨_,_,_,_,e⟩:=x; exact⟨_,e⟩
 | tup xs=>obtain⟨_,_,_,u,e,_⟩:=x; exact⟨_,e⟩
 | dK kvs=>obtain⟨_,_,_,_,u,_,_,e,_⟩:=x; exact⟨u,e⟩
 | dT kvs=>obtain⟨_,_,_,_,u,_,_,e,_⟩:=x; exact⟨u,e⟩
 | set S n=>obtain⟨u,_,_,_,e,_⟩:=x; exact⟨_,e⟩
 | ins C dx fs=>obtain⟨_,_,_,e,_⟩:=x; exact⟨_,e⟩
 | own y=>exact x
 | xd fs=>obtain⟨_,⟨u,_,_,e,_⟩,_⟩:=x; exact⟨_,e⟩
 | rng lo hi=>obtain⟨_,_,_,e⟩:=x; exact⟨_,e⟩
 | frz ob u=>exact⟨_,x.1⟩
 | tbl ps=>obtain⟨_,e,_⟩:=x; exact⟨_,e⟩
 | met f y=>exact⟨_,x⟩
 | ext φ=>exact x.2.1
structure Cv(X:Cx)(pins:List (Addr × Obj))(B:Heap)(H:Hp):Prop where
 old:∀ b o,X.s₀.heap.get? b=some o->b ∉ frs X.stack->∃ o',B.get? b=some o'
 trk:∀ b o,H b=some o->∃ o',B.get? b=some o'
 cel:∀ x c,X.env.cells.lookup x=some c->∃ o',B.get? c=some o'
 pin:∀ p∈X.pn ++ pins,∃ o',B.get? p.1=some o'
section
variable {X:Cx}{pins:List (Addr × Obj)}{σ:St}{H:Hp}{s:Shared}
def Zt4{h':Heap}{t':Nat}{ch:List Addr}(I:Inv X pins σ H s)
  (hch:∀ b∈ch,(∀ o,X.s₀.heap.get? b=some o->b∈X.ex)/\b ≠ X.env.locals/\(∀ x c,X.env.cells.lookup x=some c->c ≠ b)/\∀ p∈X.pn ++ pins,p.1 ≠ b)
  (keep:∀ b o,b ≠ X.env.locals->b ∉ X.fs->b ∉ ch->s.heap.get? b=some o->h'.get? b=some o)
  (slot:∀ b o,b∈X.fs->s.heap.get? b=some o->∃ sl,h'.get? b=some { o with slots:=sl })
  (ns:∀ m,s.heap.Ns X.env.locals m->h'.Ns X.env.locals m) (hok:HOk X.prog X.w H h') :
  Inv X pins σ H { s with heap:=h',toks:=t' }:=by
 have neL:∀ b o,X.s₀.heap.get? b=some o->b ≠ X.env.locals:=λb o e=>Yn (Yl (Ye e) I.ok.above)
 have neC:∀ b o,X.s₀.heap.get? b=some o->b ∉ X.ex->b ∉ ch:=λb o e hx hb=>hx ((hch b hb).1 o e)
 have cellK:∀ x c,X.env.cells.lookup x=some c->∀ v,s.heap.IsCell c v->h'.IsCell c v:=λx c e v ⟨o,ho,hd⟩=>by
  have nch:c ∉ ch:=λz=>(hch c z).2.2.1 x c e rfl
  by_cases hc:c∈X.fs
  ·obtain⟨sl,q⟩:=slot c o hc ho
   exact⟨_,q,hd⟩
  ·exact⟨o,keep c o (I.cne x c e) hc nch ho,hd⟩
 refine⟨I.ok,I.os,I.bare,⟨λb o e n hb hx=>?_,λb o e n hb hx=>?_,I.base.free,λb o e hx=>?_,I.base.tups,I.base.frzs,I.base.tbls⟩,?_,λx c e=>?_,I.free,I.freeC,λp hp=>?_,hok,I.len⟩
 ·exact keep b o (neL b o e) hb (neC b o e hx) (I.base.keep b o e n hb hx)
 ·obtain⟨sl,e1⟩:=I.base.slot b o e n hb hx
  obtain⟨sl',e2⟩:=slot b _ hb e1
  exact⟨sl',e2⟩
 ·obtain⟨o',e1⟩:=I.base.there b o e hx
  by_cases hb:b∈X.fs
  ·obtain⟨sl,e2⟩:=slot b _ hb e1
   exact⟨_,e2⟩
  ·exact⟨o',keep b o' (neL b o e) hb (neC b o e hx) e1⟩
 ·obtain⟨m,hn,hl⟩:=I.loc
  refine⟨m,ns m hn,λi x v e1 e2 e3=>?_⟩
  obtain⟨u,r,l⟩:=hl i x v e1 e2 e3
  refine⟨u,r,?_⟩
  rcases l with l | ⟨k,c,e,z⟩
  ·exact .inl l
  ·exact .inr ⟨k,c,e,cellK x c e _ z⟩
 ·obtain⟨v,z⟩:=I.cell x c e
  exact⟨v,cellK x c e v z⟩
 ·obtain⟨e,n,ne,nf,d⟩:=I.pin p hp
  have nch:p.1 ∉ ch:=λz=>(hch p.1 z).2.2.2 p hp rfl
  exact⟨keep p.1 p.2 ne nf nch e,n,ne,nf,d⟩
def fly{B h':Heap}{t':Nat}(I:Inv X pins σ H s)(hst:X.stack=X.env :: X.outer)(hfr:X.env.frame=some X.env.locals)(c:Cv X pins B H)
  (k0:B.StaysIn s.heap) (k:B.StaysIn h') (u:s.heap.UpToSlots h'):Inv X pins σ H { s with heap:=h',toks:=t' }:=by
 have mem:∀ b,b∈frs X.stack ↔ b=X.env.locals\/b∈X.fs:=λb=>by
  show b∈frs X.stack ↔ b=X.env.locals\/b∈frs X.outer
  rw [hst]
  unfold frs
  rw [List.filterMap_cons_some hfr,Ym]
 let ch:List Addr:=(List.range s.heap.objs.size).filter λb=>(B.get? b).isNone && (s.heap.get? b).isSome && !decide (b∈frs X.stack)
 have hc:∀ b,b∈ch->B.get? b=none/\b ∉ frs X.stack:=λb hb=>by
  have z:=(Vr.mp hb).2
  simp only [Bool.and_eq_true,Option.isNone_iff_eq_none,Bool.not_eq_true',decide_eq_false_iff_not] at z
  exact⟨z.1.1,z.2⟩
 have inB:∀ b o,s.heap.get? b=some o->b ∉ ch->b ∉ frs X.stack->B.get? b=some o:=λb o e nc nf=>by
  cases q:B.get? b with
  | none =>
   refine absurd (Vr.mpr ⟨YI.mpr (Ye e),?_⟩) nc
   simp only [q,e,Option.isNone_none,Option.isSome_some,Bool.true_and,Bool.and_true,Bool.not_eq_true',decide_eq_false_iff_not]
   exact nf
  | some o' =>
   have z:=k0 b o' q
   rw [e] at z
   exact z.symm ▸ rfl
 refine Zt4 (ch:=ch) I (λb hb=>?_) (λb o n1 n2 n3 e=>?_) (λb o hb e=>?_) (λm hm=>u.ns hm) (λb o e=>?_)
 ·obtain⟨n,nf⟩:=hc b hb
  refine⟨λo e=>?_,λz=>nf ((mem b).mpr (.inl z)),λx a e z=>?_,λp hp z=>?_⟩
  ·obtain⟨o',q⟩:=c.old b o e nf
   rw [n] at q; cases q
  ·obtain⟨o',q⟩:=c.cel x a e
   rw [z,n] at q; cases q
  ·obtain⟨o',q⟩:=c.pin p hp
   rw [z,n] at q; cases q
 ·exact k b o (inB b o e n3 λz=>((mem b).mp z).elim n1 n2)
 ·obtain⟨_,o',e',nd⟩:=I.funs.mem hb
  rw [e] at e'; cases e'
  exact u b o e nd
 ·refine (I.hok b o e).stay (λa v ha q=>?_) (λ_ q=>q) λ_ _ q=>q
  have tr:∃ o',H a=some o':=by
   rcases ha with rfl | z
   ·exact⟨_,e⟩
   ·exact⟨_,z⟩
  obtain⟨o',z⟩:=tr
  obtain⟨o2,z2⟩:=c.trk a o' z
  have z3:=k0 a o2 z2
  rw [q] at z3
  cases z3
  exact k a v z2
end
def CX1(P:Program)(w:World):CXT:=λouter H s E e s'=>∃ (ea C:Addr) (a0:Value) (B:Heap) (H':Hp),e=.ref ea/\s'.os=s.os/\AllBare s'.gens/\Un (frs outer) [] H H' s.heap s'.heap/\HOk P w H' s'.heap /\
 Heap.FlyingW B outer ea (.ref C) a0 s'.heap/\(∀ b o,s.heap.get? b=some o->b ∉ frs outer->∃ o',B.get? b=some o')/\(∀ b o,H' b=some o->∃ o',B.get? b=some o')/\E (.ref C) none H'
structure Body(X:Cx):Prop where
 st:X.stack=X.env :: X.outer
 fr:X.env.frame=some X.env.locals
 ex:X.ex=[]
 fn:∀ x,X.fn x=true
structure Goes(X:Cx)(E:XK):Prop extends Body X where
 xe:∀ e s',wpAny (model X.prog X.w) X.A (leaving X.env e) (λ_ s''=>CX1 X.prog X.w X.outer X.H₀ X.s₀ E e s'') (λe' s''=>CX1 X.prog X.w X.outer X.H₀ X.s₀ E e' s'') s'->X.xe e s'
section
variable {X:Cx}{E:XK}{pins:List (Addr × Obj)}{σ:St}{H:Hp}{s:Shared}
def Body.apart(b:Body X)(I:Inv X pins σ H s):(∀ x c,X.env.cells.lookup x=some c->(∃ o,s.heap.get? c=some o)/\c ∉ frs X.stack)/\(∀ p∈X.pn ++ pins,s.heap.get? p.1=some p.2/\p.1 ∉ frs X.stack) /\
  (∀ a o,X.s₀.heap.get? a=some o->∃ o',s.heap.get? a=some o')/\(∀ a o,H a=some o->(∃ o',s.heap.get? a=some o')/\a ∉ frs X.stack):=by
 refine⟨λx c e=>?_,λp hp=>?_,λa o e=>?_,λa o e=>?_⟩
 ·obtain⟨v,o,ho,hd⟩:=I.cell x c e
  refine⟨⟨o,ho⟩,λz=>?_⟩
  rcases Ym.mp (I.stkSub c z) with q | q
  ·exact I.cne x c e q
  ·obtain⟨_,o',e',_⟩:=I.ok.funs.mem q
   exact absurd (Yl (Ye e') (I.ok.cab x c (b.fn x) e)) (YE _)
 ·obtain⟨e,n,ne,nf,d⟩:=I.pin p hp
  exact⟨e,λz=>(Ym.mp (I.stkSub _ z)).elim ne nf⟩
 ·exact I.base.there a o e (by rw [b.ex]; exact List.not_mem_nil)
 ·exact⟨Zns (I.hok a o e),λz=>by rw [I.stkFree a z] at e; cases e⟩
def Body.cv(b:Body X)(I:Inv X pins σ H s){B:Heap}{H':Hp}(cov:∀ a o,s.heap.get? a=some o->a ∉ frs X.stack->∃ o',B.get? a=some o')(trk:∀ a o,H' a=some o->∃ o',B.get? a=some o'):Cv X pins B H':=by
 obtain⟨h1,h2,h3,_⟩:=b.apart I
 refine⟨λa o e n=>?_,trk,λx c e=>?_,λp hp=>?_⟩
 ·obtain⟨o',e'⟩:=h3 a o e
  exact cov a o' e' n
 ·obtain⟨⟨o,e'⟩,n⟩:=h1 x c e
  exact cov c o e' n
 ·obtain⟨e',n⟩:=h2 p hp
  exact cov p.1 p.2 e' n
def Goes.raise(b:Goes X E)(I:Inv X pins σ H s){h':Heap}{e C:Addr}{vs:List Value}(hx:Heap.MadeExcOf s.heap h' e (.ref C) vs)(q:E (.ref C) none H):X.xe (.ref e) { s with heap:=h' }:=by
 refine b.xe _ _ ?_
 have hB:(hideAll s.heap (frs X.stack)).StaysIn s.heap:=λa o z=>of_hideAll _ z
 have hl:s.heap.FunFrames (hideAll s.heap (frs X.stack)) (X.env :: X.outer):=by
  have z:=PySem.W.funFrames_hide (as:=frs X.stack) I.stack λenv he a ha=>List.mem_filterMap.mpr ⟨env,he,ha⟩
  rw [b.st] at z ⊢
  exact z
 have hfr:X.A.frames=some (X.env :: X.outer):=by rw [I.ok.frames,b.st]
 have cov:∀ a o,s.heap.get? a=some o->a ∉ frs X.stack->∃ o',(hideAll s.heap (frs X.stack)).get? a=some o':=λa o z n=>⟨o,hideAll_get _ z n⟩
 have cv:Cv X pins (hideAll s.heap (frs X.stack)) H:=b.toBody.cv I cov λa o z=>by
  obtain⟨⟨o',z'⟩,n⟩:=(b.toBody.apart I).2.2.2 a o z
  exact cov a o' z' n
 refine wpAny_leaves_madeW (s:={ s with heap:=h' }) hfr b.fr hB hl hx λh'' t fl tp bt us=>?_
 have us':s.heap.UpToSlots h'':=(Heap.UpToSlots.of_keeps hx.keeps).trans us
 have I':=fly (t':=s.toks) I b.st b.fr cv hB fl.1 us'
 refine⟨e,C,.ref t,_,H,rfl,I'.os,I'.bare,?_,I'.hok,fl,λa o z n=>?_,cv.trk,q⟩
 ·have z:=I'.base
  rw [b.ex] at z
  exact z
 ·obtain⟨o',z'⟩:=(b.toBody.apart I).2.2.1 a o z
  refine cov a o' z' λm=>?_
  rcases Ym.mp (I.stkSub a m) with w | w
  ·exact absurd (Yl (Ye z) (w ▸ I.ok.above)) (YE _)
  ·exact n w
def Goes.pass(b:Goes X E):Zd4 (CX1 X.prog X.w) X E:=by
 intro pins σ H s e s' I h
 obtain⟨ea,C,a0,B,H',rfl,ho,hg,un,hok,fl,cov,trk,q⟩:=h
 refine b.xe _ _ ?_
 have I1:Inv X pins σ H' s':=I.call' (ch:=[]) ho un hok hg λ_ z=>nomatch z
 have hfr:X.A.frames=some (X.env :: X.outer):=by rw [I.ok.frames,b.st]
 have cv:Cv X pins B H':=b.toBody.cv I cov trk
 rw [b.st] at fl
 refine wpAny_leaves_onW hfr b.fr fl λh'' fl' us=>?_
 have I':=fly (t':=s'.toks) I1 b.st b.fr cv fl.1 fl'.1 us
 refine⟨ea,C,a0,B,H',rfl,I'.os,I'.bare,?_,I'.hok,fl',λa o z n=>?_,trk,q⟩
 ·have z:=I'.base
  rw [b.ex] at z
  exact z
 ·obtain⟨o',z'⟩:=(b.toBody.apart I).2.2.1 a o z
  refine cov a o' z' λm=>?_
  rcases Ym.mp (I.stkSub a m) with w | w
  ·exact absurd (Yl (Ye z) (w ▸ I.ok.above)) (YE _)
  ·exact n w
end
def ZiH{P:Program}{w:World}{K:PySem.W.Frag}{mg:Str->Option Value}{base:Heap}{N:List Str}{qual:Str}{scope:Scope}{f:Addr}{cd:Value}{A:Around}{outer:List Env}{s:Shared}{H:Hp}{E:XK} :
  Goes (ZjU (CX1 P w) P w K mg base N qual scope f cd A outer s H E) E:=⟨⟨rfl,rfl,rfl,λ_=>rfl⟩,λ_ _ h=>h⟩
def Ztj:List Value:=[.type "ValueError",.type "Exception",.type "BaseException",.type "object"]
def Zrp(K:PySem.W.Frag)(C:Addr):Prop:=excIn K C Ztj "ValueError.__new__"=true
def ZqF{K:PySem.W.Frag}{h:Heap}{mg:Str->Option Value}{x:Str}{C:Addr}(X:K.In h)(m:mg x=some (.ref C))(q:Zrp K C):OwnCls x C Ztj "ValueError.__new__" mg h:=by
 refine⟨m,?_⟩
 have q:=q
 unfold Zrp excIn at q
 split at q
 ·rename_i dd cd sl look
  split at q
  ·rename_i C1 bm1 z0 z1 z2 z3 n1 z5 mro1 sl1
   simp only [Bool.and_eq_true,beq_iff_eq,Bool.not_eq_true'] at q
   obtain⟨⟨⟨⟨⟨rfl,rfl⟩,nodel⟩,tl⟩,nsok⟩,noinit⟩:=q
   obtain⟨nm,bs,mro,ns,qn,hd,sn,sub,ab,col,del⟩:=cd
   dsimp only at mro1 nodel nsok noinit
   subst mro1 nodel
   have e2:sl=#[z0,z1,z2,z3,some (.builtin "ValueError.__new__"),z5]:=by
    cases sl with
    | mk l=>exact congrArg Array.mk sl1
   subst e2
   exact⟨bm1,ns,nm,qn,bs,hd,sn,sub,ab,col,dd,z0,z1,z2,z3,z5,_,X _ _ look,.of_isNs (PySem.W.isNs_of_in X nsok),PySem.W.nsMap_none_of_in X nsok noinit,PySem.W.tail_of_in X tl⟩
  ·cases q
 ·cases q
section
variable {X:Cx}{E:XK}{x:Str}{C:Addr}{np cpos pos:Pos}{e₀:Expr}{Jf:List Expr}{t:TA}
def Zjl(C:Addr)(E:XK)(t:TA):TS:=λ_ σ H=>t σ H λvs H1=>vs.length<=1000/\E (.ref C) none H1
def Zn8(b:Goes X E)(hc:X.calm=true)(hg:Gl X x)(hm:X.mg x=some (.ref C))(q:Zrp X.K C)(ha:PA X (e₀ :: Jf) t)(hdb:(x == ("__debug__":Str))=false:=by decide)
  (he:starEach (e₀ :: Jf) X.env=(false,eval e₀ X.env) :: starEach Jf X.env:=by rfl) (hpl:(backTo cpos (starEach Jf X.env)).any (·.1)=false:=by rfl) :
  PS X (.Raise (some (.Call (.Name x np) (e₀ :: Jf) [] cpos)) none pos) (Zjl C E t):=by
 intro pins s σ H D I h
 obtain⟨bm,N,nm,qn,bs,hdct,sn,sub,ab,col,dd,k0,k1,k2,k3,k5,mN,hC,hN,hni,T⟩:=(ZqF (x:=x) I.ok.mod.kin hm q).obj
 refine wpAny_Raise_call_subT (C:=C) (nm:=nm) (q:=qn) (N:=N) (bs:=bs) (bm:=bm) (hdct:=hdct) (sn:=sn) (sub:=sub) (ab:=ab) (col:=col) (dd:=dd) (k0:=k0) (k1:=k1) (k2:=k2) (k3:=k3) (k5:=k5) (mN:=mN)
  PySem.F.excBase_ValueError (T.hasType (by decide +kernel)) (I.ok.hd hc) (by rw [he]; show (false || (backTo cpos (starEach Jf X.env)).any (·.1))=false; rw [hpl]; rfl) hni (ZeN I hg hm ⟨rfl,?_⟩ hdb)
 have h2:=ha cpos pins s σ H _ I h
 rw [he] at h2 ⊢
 refine Y6 (Z0 h2 λus s1 ⟨vs,H1,I1,r,z,qE⟩=>?_)
 exact⟨rfl,by show us.length<=sizeLine; rw [<- r.length]; exact ZgU z,I1.bk _ _ hC,hN.keeps I1.bk,T.keeps I1.bk,λh' e hx=>b.raise I1 hx qE⟩
end
def XP(X:Cx)(pins:List (Addr × Obj))(σ:St)(EX:XK)(e:Value)(s':Shared):Prop :=
 ∃ (ea C:Addr) (a0:Value) (B:Heap) (H':Hp),e=.ref ea/\Inv X pins σ H' s'/\Heap.FlyingW B X.stack ea (.ref C) a0 s'.heap/\Cv X pins B H'/\EX (.ref C) none H'
abbrev TEX:=St->Hp->VK->XK->Prop
def PEX(X:Cx)(e:Expr)(t:TEX):Prop :=
 ∀ (pins:List (Addr × Obj)) (s:Shared) (σ:St) (H:Hp) (Q:VK) (EX:XK),Inv X pins σ H s->t σ H Q EX->wpAny (model X.prog X.w) X.A (eval e X.env) (EP X pins σ Q) (XP X pins σ EX) s
abbrev TSX:=Ends->(St->XK)->St->Hp->Prop
def Zuv(X:Cx)(sts:List Stmt)(t:TSX):Prop :=
 ∀ (pins:List (Addr × Obj)) (s:Shared) (σ:St) (H:Hp) (D:Ends) (EX:St->XK),Inv X pins σ H s->t D EX σ H ->
  wpAny (model X.prog X.w) X.A (execs sts X.env) (SP X pins D) (λe s'=>∃ σ',XP X pins σ' (EX σ') e s') s
def PSX(X:Cx)(st:Stmt)(t:TSX):Prop :=
 ∀ (pins:List (Addr × Obj)) (s:Shared) (σ:St) (H:Hp) (D:Ends) (EX:St->XK),Inv X pins σ H s->t D EX σ H ->
  wpAny (model X.prog X.w) X.A (exec st X.env) (SP X pins D) (λe s'=>∃ σ',XP X pins σ' (EX σ') e s') s
section
variable {X:Cx}{j k:Nat}{x:Str}{ps:List Str}{sp:Sp}{p pos:Pos}{e:Expr}{es:List Expr}{t:TA}{f:Addr}{fd:FuncData}{ds:List Value}{dvs:List V}
def ZoZ(sp:Sp)(dvs:List V)(t:TA):TEX:=λσ H Q EX=>t σ H λvs H1=>sp (vs ++ dvs) H1 Q EX
def ZuZ(b:Body X)(F:FnOk X.prog X.w X.K X.mg X.base (CX1 X.prog X.w) k f fd ps sp)(hr:Room k X.A)(hb:ZA X.K fd ps ds)(hd:ZB dvs ds){pins:List (Addr × Obj)}{σ:St}{H:Hp}{s:Shared}{Q:VK}{EX:XK}{us:List Value}{vs:List V}
  (I:Inv X pins σ H s) (r:ZB vs us) (h:sp (vs ++ dvs) H Q EX):wpAny (model X.prog X.w) X.A (call (.ref f) us) (EP X pins σ Q) (XP X pins σ EX) s:=by
 have r2:ZB (vs ++ dvs) (us ++ ds):=r.append hd
 have hl:(us ++ ds).length=ps.length:=by rw [<- r2.length]; exact F.len _ _ _ _ h
 refine wpAny_call (YR (F.run X.A X.stack s H ⟨us,[]⟩ (us ++ ds) (vs ++ dvs) Q EX hr I.env0 (hb s us I.kIn hl) r2 h) λr s' hq=>?_)
 cases r with
 | error e =>
  obtain⟨ea,C,a0,B,H',rfl,ho,hg,un,hok,fl,cov,trk,q⟩:=hq
  exact⟨ea,C,a0,B,H',rfl,I.call' (ch:=[]) ho un hok hg (λ_ z=>nomatch z),fl,b.cv I cov trk,q⟩
 | ok w =>
  cases w with
  | ret u=>exact I.after hq
  | next=>exact False.elim hq
  | brk=>exact False.elim hq
  | cont=>exact False.elim hq
def Zqg{i:Nat}{y:Str}{te:TEX}{pos':Pos}(hN:X.N.Nodup)(hi:X.N[i]?=some y)(hx:Loc X.env.scope y)(he:PEX X e te)(hs:swapsWith e (some (.Name y pos')) pos.line X.env=pure false:=by rfl)
  (hf:X.fn y=true\/X.env.scope.names.lookup y=some .local:=by first | exact .inl rfl | exact .inr rfl | assumption) :
  PSX X (.Assign [.Name y pos'] e pos) (λD EX σ H=>te σ H (λv H1=>D.nx (σ.set i (some v)) H1) (EX σ)):=by
 intro pins s σ H D EX I h
 refine wpAny_Assign_Name (Yk (he pins s σ H _ _ I h) (λv s1 ⟨z,H1,I1,r1,q1⟩=>?_) λ_ _ z=>⟨σ,z⟩) hs
 exact ZcP I1 hN hi hx r1 (λs2 I2=>⟨_,H1,I2,q1⟩) hf
def Zou{st:Stmt}{u:TSX}(h:PSX X st u):Zuv X [st] u:=by
 intro pins s σ H D EX I hq
 refine wpAny_execs_cons (Yk (h pins s σ H D EX I hq) (λfl s1 q=>?_) λ_ _ z=>z)
 cases fl with
 | next=>exact Va q
 | brk=>exact q
 | cont=>exact q
 | ret v=>exact q
end
abbrev Xh(X:Cx)(ea:Addr):Cx:={ X with A:=X.A.mark (some (.ref ea)),calm:=false,xe:=λ_ _=>False }
section
variable {X:Cx}{pins:List (Addr × Obj)}{σ:St}{H:Hp}{s:Shared}{ea:Addr}
def okH(ok:X.Ok):(Xh X ea).Ok:=⟨ok.mod,ok.kind,ok.glob,ok.blt,ok.above,ok.inj,ok.has,ok.cab,(λz=>nomatch z),ok.frames,ok.stk,ok.exf,ok.bs,ok.bsz,ok.noex,ok.exfs,ok.funs,ok.frf⟩
def toH(I:Inv X pins σ H s):Inv (Xh X ea) pins σ H s:=⟨okH I.ok,I.os,I.bare,I.base,I.loc,I.cell,I.free,I.freeC,I.pin,I.hok,I.len⟩
def ofH(ok:X.Ok)(I:Inv (Xh X ea) pins σ H s):Inv X pins σ H s:=⟨ok,I.os,I.bare,I.base,I.loc,I.cell,I.free,I.freeC,I.pin,I.hok,I.len⟩
def ZoF(C ea:Addr)(h:Heap):Prop:=∃ o,h.get? ea=some o/\o.cls=.ref C
def Zls(C ea:Addr):HO:=.ext (ZoF C ea)
def ZtW{o:HO}(I:Inv X pins σ H s)(hn:H ea=none)(h0:∀ u,X.s₀.heap.get? ea=some u->False)(hL:ea ≠ X.env.locals)(hc:∀ x c,X.env.cells.lookup x=some c->c ≠ ea)
  (hp:∀ p∈X.pn ++ pins,p.1 ≠ ea) (new:Ja X.prog X.w (upd H ea o) s.heap ea o):Inv X pins σ (upd H ea o) s:=by
 have ne:∀ b u,H b=some u->b ≠ ea:=λb u e z=>by rw [z,hn] at e; cases e
 refine⟨I.ok,I.os,I.bare,⟨I.base.keep,I.base.slot,λb u e n hx=>?_,I.base.there,λb xs e=>?_,λb u v e=>?_,λb qs e=>?_⟩,I.loc,I.cell,?_,λx c e=>?_,λp h=>?_,λb u e=>?_,I.len⟩
 ·rw [Zj (λ(z:b=ea)=>h0 u (by rw [<- z]; exact e))]
  exact I.base.free b u e n hx
 ·have z:=I.base.tups b xs e
  rw [Zj (ne b _ z)]; exact z
 ·have z:=I.base.frzs b u v e
  rw [Zj (ne b _ z)]; exact z
 ·obtain⟨more,z⟩:=I.base.tbls b qs e
  exact⟨more,by rw [Zj (ne b _ z)]; exact z⟩
 ·rw [Zj (Ne.symm hL)]; exact I.free
 ·rw [Zj (hc x c e)]; exact I.freeC x c e
 ·obtain⟨e,n,r⟩:=I.pin p h
  exact⟨e,by rw [Zj (hp p h)]; exact n,r⟩
 ·by_cases z:b=ea
  ·subst z
   rw [Zl] at e
   cases e
   exact new
  ·rw [Zj z] at e
   refine (I.hok b u e).stay (λ_ _ _ q=>q) (λc q=>?_) (λc xs q=>?_) λc o q=>?_
   ·rw [Zj (ne c _ q)]; exact q
   ·rw [Zj (ne c _ q)]; exact q
   ·rw [Zj (ne c _ q)]; exact q
def ZtE{i:Nat}{n:Str}{pos:Pos}{M:Model}{A:Around}{E:VSP}{Q:Unit->Shared->Prop}(I:Inv X pins σ H s)(hN:X.N.Nodup)(hi:X.N[i]?=some n)(hk:X.env.scope.names.lookup n=some .local)
  (h:∀ s',Inv X pins (σ.set i none) H s'->Q () s'):wpAny M A (do bindName X.env n .none; unbindBehindTheSuite X.env n pos) Q E s:=by
 obtain⟨m,hn,hl⟩:=id I.loc
 have hcls:(X.env.scope.kind == .class || (X.env.scope.kind == .module && X.env.locals != X.env.globals))=false:=by rw [I.ok.kind]; rfl
 refine wpAny_nameGoes_keeps hk hn hcls λh' v hn' hs=>?_
 have ob:∀ b o,X.s₀.heap.get? b=some o->b ≠ X.env.locals:=λb o e=>Yn (Yl (Ye e) I.ok.above)
 refine h _ ⟨I.ok,I.os,I.bare,⟨λb o e n' hb hx=>?_,λb o e n' hb hx=>?_,I.base.free,λb o e hx=>?_,I.base.tups,I.base.frzs,I.base.tbls⟩,⟨_,hn',λj y v' e1 e2 e3=>?_⟩,λy c e=>?_,I.free,I.freeC,λp hp=>?_,λb u e=>?_,by simpa using I.len⟩
 ·exact (hs.2 b (ob b o e)).trans (I.base.keep b o e n' hb hx)
 ·obtain⟨sl,e1⟩:=I.base.slot b o e n' hb hx
  exact⟨sl,(hs.2 b (ob b o e)).trans e1⟩
 ·obtain⟨o',e1⟩:=I.base.there b o e hx
  exact⟨o',(hs.2 b (ob b o e)).trans e1⟩
 ·by_cases hj:j=i
  ·subst hj
   have hiσ:j < σ.length:=by rw [I.len]; exact (Yf.mp hi).1
   rw [YV hiσ] at e2
   cases e2
  ·rw [YY (Ne.symm hj)] at e2
   obtain⟨u',r',q⟩:=hl j y v' e1 e2 e3
   refine⟨u',r',?_⟩
   rcases q with ⟨k,e⟩ | ⟨k,c,e,z⟩
   ·refine .inl ⟨k,?_⟩
    have ny:y ≠ n:=λe=>hj (Zf5 hN e1 (e ▸ hi))
    show (if y=n then v else m y)=_
    rw [if_neg ny]; exact e
   ·exact .inr ⟨k,c,e,z.sameBut hs (I.cne y c e)⟩
 ·obtain⟨w',z⟩:=I.cell y c e
  exact⟨w',z.sameBut hs (I.cne y c e)⟩
 ·obtain⟨e,n',ne,nf,d⟩:=I.pin p hp
  exact⟨(hs.2 p.1 ne).trans e,n',ne,nf,d⟩
 ·refine (I.hok b u e).stay (λc w' hc q=>(hs.2 c λz=>?_).trans q) (λ_ q=>q) λ_ _ q=>q
  have fr:=I.free
  rcases hc with z' | z'
  ·rw [<- z,z',e] at fr; cases fr
  ·rw [<- z,z'] at fr; cases fr
end
def ZuA(K:PySem.W.Frag)(D:Addr)(i:Nat)(th:Addr->TS)(En:Ends)(σ:St):XK:=λc _ H'=>∃ C,c=.ref C/\exmOne K (.ref C) (.ref D)=some true/\∀ ea,H' ea=none ->
 th ea { nx:=λσ2 H2=>En.nx (σ2.set i none) H2,rt:=En.rt,bk:=λσ2 H2=>En.bk (σ2.set i none) H2,ct:=λσ2 H2=>En.ct (σ2.set i none) H2 } (σ.set i (some (.ref ea))) (upd H' ea (Zls C ea))
def Ztn(K:PySem.W.Frag)(tb:TSX)(D:Addr)(i:Nat)(th:Addr->TS):TS:=λEn σ H=>tb En (ZuA K D i th En) σ H
section
variable {X:Cx}{body:List Stmt}{x n:Str}{np hpos pos:Pos}{b₀:Stmt}{suite:List Stmt}{tb:TSX}{th:Addr->TS}{D:Addr}{i:Nat}
def Zr8(b:Body X)(hb:Zuv X body tb)(hg:Gl X x)(hm:X.mg x=some (.ref D))(hN:X.N.Nodup)(hi:X.N[i]?=some n)(hk:X.env.scope.names.lookup n=some .local)(hs:∀ ea,PSs (Xh X ea) (b₀ :: suite) (th ea))
  (hdb:(x == ("__debug__":Str))=false:=by decide) :
  PS X (.Try body [.ExceptHandler (some (.Name x np)) (some n) (b₀ :: suite) hpos] [] [] pos) (Ztn X.K tb D i th):=by
 intro pins s σ H En I h
 refine wpAny_Try_except (Yk (hb pins s σ H En _ I h) (λfl s1 q=>?_) λe s1 q=>?_)
 ·cases fl with
  | next=>exact Va q
  | brk=>exact q
  | cont=>exact q
  | ret v=>exact q
 ·obtain⟨σ1,ea,C,a0,B,H1,rfl,I1,fl,cv,C',eC,hx,q⟩:=q
  cases eC
  have hfr:X.A.frames=some (X.env :: X.outer):=by rw [I.ok.frames,b.st]
  have flS:=fl
  rw [b.st] at fl
  refine wpAny_looks_onW hfr b.fr fl λh4 held us4=>?_
  refine wpAny_landsW (s:={ s1 with heap:=h4 }) held λh5 fl5 us5=>?_
  have I5:Inv X pins σ1 H1 { s1 with heap:=h5,toks:=s1.toks }:=fly I1 b.st b.fr cv fl.1 fl5.1 (us4.trans us5)
  refine wpAny_handleBy_cons (codeAny_handlers_test ?_) (by intro z; cases z)
  refine ZeN (X:=Xh X ea) (toH I5) hg hm ?_ hdb
  obtain⟨oe,he,hec⟩:=fl5.there
  have LT:PySem.W.Looks (model X.prog X.w) h5 (typeOf (.ref ea)) (.ref C):=hec ▸ (PySem.W.Looks.ld he).andThen .now
  refine PySem.W.exm_one (K:=X.K) I5.kIn LT hx _ _ _ _ (λ_ _ z=>z) ?_
  refine codeAny_handlers_suite_as ?_
  refine lands_againW (s:={ s1 with heap:=h5 }) fl5 λh6 fl6 us6=>?_
  have I6:Inv X pins σ1 H1 { s1 with heap:=h6,toks:=s1.toks }:=fly I1 b.st b.fr cv fl.1 fl6.1 ((us4.trans us5).trans us6)
  obtain⟨oe6,he6,hec6⟩:=fl6.there
  have nB:B.get? ea=none:=fl6.2.1
  have hn:H1 ea=none:=by
   cases z:H1 ea with
   | none=>rfl
   | some o =>
    obtain⟨o',z'⟩:=cv.trk ea o z
    rw [nB] at z'; cases z'
  have nfr:ea ∉ frs X.stack:=λz=>by
   obtain⟨_,o,z1,z2⟩:=I6.stack.mem z
   obtain⟨oe',vs,T,oT,ts,y1,_,y2,_⟩:=fl6.2.2.2
   have z1:h6.get? ea=some o:=z1
   rw [y1] at z1; cases z1
   exact z2 vs y2
  have I7:Inv X pins σ1 (upd H1 ea (Zls C ea)) { s1 with heap:=h6,toks:=s1.toks }:=by
   refine ZtW I6 hn (λu z=>?_) (λz=>nfr ?_) (λy c e z=>?_) (λp hp z=>?_) ⟨⟨oe6,he6,hec6⟩,⟨oe6,he6⟩,λha hb ⟨o,z1,z2⟩ k=>⟨o,k o z1,z2⟩⟩
   ·obtain⟨o',z'⟩:=cv.old ea u z nfr
    rw [nB] at z'; cases z'
   ·rw [b.st]
    exact List.mem_filterMap.mpr ⟨X.env,.head _,by rw [z]; exact b.fr⟩
   ·obtain⟨o',z'⟩:=cv.cel y c e
    rw [z,nB] at z'; cases z'
   ·obtain⟨o',z'⟩:=cv.pin p hp
    rw [z,nB] at z'; cases z'
  refine ZcP (X:=Xh X ea) (v:=.ref ea) (toH I7) hN hi (.inl hk) rfl (λs8 I8=>?_) (.inr hk)
  refine Yk (hs ea pins s8 _ _ _ I8 (q ea hn)) (λf s9 q9=>?_) λ_ _ z=>z.elim
  cases f with
  | next =>
   obtain⟨σ9,H9,I9,q9⟩:=q9
   exact ZtE (ofH I.ok I9) hN hi hk λs' I'=>⟨_,_,I',q9⟩
  | brk =>
   obtain⟨σ9,H9,I9,q9⟩:=q9
   exact ZtE (ofH I.ok I9) hN hi hk λs' I'=>⟨_,_,I',q9⟩
  | cont =>
   obtain⟨σ9,H9,I9,q9⟩:=q9
   exact ZtE (ofH I.ok I9) hN hi hk λs' I'=>⟨_,_,I',q9⟩
  | ret v =>
   obtain⟨y,σ9,H9,I9,r9,q9⟩:=q9
   exact ZtE (ofH I.ok I9) hN hi hk λs' I'=>⟨y,_,_,I',r9,q9⟩
end
end My
namespace My
open PySem PySem.Spec L2 PySem.W PySem.Builtin PySem.Builtin.ObjectAttr PySem.Builtin.Getset_descriptor
open PyProof.Rows hiding St
section
variable {prog:Program}{w:World}{A:Around}{E:VSP}{s:Shared}{K:Frag}{x D:Addr}
def Zmd{M:Model}{h:Heap}{C:Addr}(p:ZoF C x h):Looks M h (typeOf (.ref x)) (.ref C):=by
 obtain⟨o,h1,h2⟩:=p
 exact h2 ▸ (Looks.ld h1).andThen .now
structure ExcK(K:Frag)(D:Addr):Prop where
 cl:(clsIn K D).isSome=true
 ga:findIn K (.ref D) "__getattribute__"=some (some (.builtin "BaseException.__getattribute__"))
 no:findIn K (.ref D) "__getattr__"=some none
 ha:findIn K (.ref D) "__class__"=some (some (.builtin "object.__class__"))
 hn:specialIn K (.builtin "object.__class__") "__get__"=some (some (.builtin "getset_descriptor.__get__"))
 tk:takesIn K (.builtin "object.__class__")=some true
 mo:mroIn K D (.type "object")=some true
 mb:mroIn K D (.type "BaseException")=some true
def ZpP{R:Result->Shared->Prop}{tp:Value}(X:K.In s.heap)(ty:∀ M:Model,Looks M s.heap (typeOf (.ref x)) (.ref D))(hm:mroIn K D (.type "object")=some true)(h:R (.ok (.ret (.ref D))) s) :
  codeAny (model prog w) A (.call (.builtin "getset_descriptor.__get__") ⟨[.builtin "object.__class__",.ref x,tp],[]⟩) R s:=by
 obtain⟨hh,gg,dd,tt,oo⟩:=s
 have T0:=ty (model prog w)
 have T1:=looks_mroIn (M:=model prog w) X hm
 refine codeAny_call_builtin KF.slot_gs.plain KF.entry_gs ?_
 refine KF.slot_gs.check _ _ _ _ _ _ _ _ KF.type_class (KF.args_gs _ _ _) ?_
 unfold Builtin.«getset_descriptor.__get__» descrGet
 rw [dga_obj]
 refine Ya (Yc ?_)
 unfold descrGetter descrCheckInstance descrNameAndClass isInstance
 simp only [KF.owner_class]
 repeat lk
 refine⟨Code.quiet_builtin _ (by decide +kernel),?_⟩
 refine codeAny_builtin KF.entry_class ?_
 unfold Builtin.«object.__class__» shownTypeOf
 repeat lk
 exact h
def Zmt{Q:Option Value->Shared->Prop}(X:K.In s.heap)(T:ExcK K D)(p:ZoF D x s.heap)(h:Q (some (.ref D)) { s with toks:=s.toks + 1 }):wpAny (model prog w) A (getAttr? (.ref x) "__class__") Q E s:=by
 obtain⟨hh,g,d,t,os⟩:=s
 have L0:=Zmd (M:=model prog w) p
 have L1:=looks_findIn (M:=model prog w) X T.ga
 have L2:=looks_findIn (M:=model prog w) X T.no
 have L3:=looks_mroIn (M:=model prog w) X T.mo
 have L4:=looks_mroIn (M:=model prog w) X T.mb
 have f3:=PySem.F.attr_ValueError.ga.bind (.ref x)
 unfold getAttr? getAttrBy? getAttrBy
 refine Ya (wpAny_mkText (Ya (wpAny_attempt (YJ (Ya (L0.at (Ya (L1.at ?_))))))))
 dsimp only
 have own:(onTheHeap (Value.ref D) && Value.builtin "BaseException.__getattribute__" == Value.builtin "object.__getattribute__")=false:=by
  rw [show (Value.builtin "BaseException.__getattribute__" == Value.builtin "object.__getattribute__")=false from by decide +kernel,Bool.and_false]
 rw [if_neg (by rw [own]; exact Yr)]
 unfold getAttrByItsOwn hookBefore
 rw [if_pos (show onTheHeap (Value.ref D)=true from rfl)]
 refine Ya (L2.at (Ya (wpAny_attempt (YJ ?_))))
 unfold callGetattribute
 rw [if_neg (by decide)]
 unfold boundAndCalled
 rw [f3]
 refine Ya (Yc ?_)
 dsimp only
 refine wpAny_call (codeAny_call_builtin PySem.F.attr_ValueError.ga.plain F.entry_bexc_ga ?_)
 have hk:builtinKind "BaseException.__getattribute__"=some .slot:=by decide +kernel
 have hp:splitId "BaseException.__getattribute__"=some ("BaseException","__getattribute__"):=by decide +kernel
 have ok:=F.args_bexc_ga (.ref x) (.str "__class__" t)
 simp only [checkBuiltinCall,hk,hp,List.cons_append,List.nil_append]
 refine Ya ?_
 unfold isInstance
 refine Ya (L0.at (L4.at ?_))
 rw [if_neg (by decide)]
 refine wpAny_of_eq ok ?_
 have F1:=looks_findIn (M:=model prog w) X T.ha
 have F2:Looks (model prog w) hh (getOf (some (.builtin "object.__class__"))) (some (.builtin "getset_descriptor.__get__")):=looks_specialIn X T.hn
 have F3:=looks_takesIn (M:=model prog w) X T.tk
 have LF:Looks (model prog w) hh (find (.ref x) (.ref D) "__class__") (.bind (.builtin "getset_descriptor.__get__") (.builtin "object.__class__")) :=
  F1.andThen (F2.andThen ((show Looks (model prog w) hh (dataDescriptor? (some (.builtin "object.__class__")) (some (.builtin "getset_descriptor.__get__"))) (some (.builtin "getset_descriptor.__get__",.builtin "object.__class__")) from F3.andThen .now).andThen (Looks.tag .now)))
 unfold Builtin.«object.__getattribute__»
 refine Ya (Yc ?_)
 dsimp only
 refine Ya (Yc ?_)
 refine Ya (L0.at (Ya (LF.at ?_)))
 dsimp only
 unfold bindTo
 dsimp only
 refine Ya (YJ (wpAny_call (ZpP X (λM=>Zmd p) T.mo ?_)))
 refine Yc ?_
 show wpAny _ _ (handedOut (.ref D)) _ _ _
 rw [handedOut_of rfl]
 exact Yc (Yc h)
def Znp(T:ExcK K D):KitX K (.ref x) (.ref D) (ZoF D x) where
 ty:=λ_ _ _ q=>Zmd q
 it:=λ_ _ X _=>by
  obtain⟨cd,hc⟩:=Option.isSome_iff_exists.mp T.cl
  unfold clsIn at hc
  split at hc
  ·rename_i ho
   intro A' Q' E' s' k q
   unfold isType loadHead
   exact Ya (wpAny_loadPart (k _ _ (X _ _ ho)) (Yc q))
  ·cases hc
 ne:=λh tp dd its n sl X htp=>by
  obtain⟨cd,hc⟩:=Option.isSome_iff_exists.mp T.cl
  refine Bool.eq_false_iff.mpr λq=>?_
  have e:D=tp:=Value.ref.inj (Y3.mp q)
  subst e
  unfold clsIn at hc
  split at hc
  ·rename_i ho
   have z:=(X _ _ ho).symm.trans htp
   cases z
  ·cases hc
 ca:=λX q k=>Zmt X T q k
end
end My
namespace My
open PySem PySem.Spec L2
open PyProof.Rows hiding St
def ZuS:V->Option Value
 | .ref a=>some (.ref a)
 | .ty n=>some (.type n)
 | _=>none
def Znj{y:V}{u c:Value}(r:ZH y u)(e:ZuS y=some c):u=c:=by
 cases y
 case ref a=>cases e; exact r
 case ty n=>cases e; exact r
 all_goals cases e
section
variable {X:Cx}{e:Expr}{es:List Expr}{t:TA}{pos p:Pos}
def Zpj(K:PySem.W.Frag):List V->Hp->VK->Prop:=λxs H Q=>∃ ea C y c b,xs=[.ref ea,y]/\H ea=some (Zls C ea)/\ExcK K C/\ZuS y=some c/\kitOne K (.ref C) c=some b/\Q (.bl b) H
def Zj4:JC X (.builtin "isinstance") (Zpj X.K):=by
 intro pins s σ H xs us Q I r h
 obtain⟨ea,C,y,c,b,rfl,he,T,hc,hk,q⟩:=h
 obtain⟨u,v,rfl,ru,rv⟩:=ZlS r
 cases (show u=Value.ref ea from ru)
 cases Znj rv hc
 obtain⟨p,_⟩:=(show Ja X.prog X.w H s.heap ea (Zls C ea) from I.hok ea _ he)
 exact kia_one (Znp T) I.kIn p hk (λz=>nomatch z) λtk=>⟨.bl b,H,I.tok tk,rfl,q⟩
def Zq9(hg:Gl X "isinstance")(hm:X.mg "isinstance"=none)(ha:QA X (e :: es) t)(hp:(e :: es).all ZF=true:=by rfl):QE X (.Call (.Name "isinstance" p) (e :: es) [] pos) (tCB (Zpj X.K) t):=⟨ZjY Zj4 hg hm (by rfl) ha.h hp⟩
end
structure FunD(K:PySem.W.Frag)(x qual:Str)(st:Stmt)(dV:Value)(f:Addr)(fd:FuncData):Prop where
 ex:∃ (oc:Value) (od:Option Addr) (kV doc pm:Value) (an:Option Addr) (cdv ct:Value) (osl:Array (Option Value)),
  fd=fnOf x qual (Zi st) (Zh st) (Za st) dV kV doc pm an cdv ct/\K.lookup f=some ⟨oc,od,.func fd,osl⟩/\codeIn K cdv qual=true
 kp:keepIn K (.ref f)=true
variable {K:PySem.W.Frag}
def Zf4{x qual:Str}{st:Stmt}{dV:Value}{f:Addr}{oc:Value}{od an:Option Addr}{osl:Array (Option Value)}{kV doc pm cdv ct:Value}(l:K.lookup f=some ⟨oc,od,.func (fnOf x qual (Zi st) (Zh st) (Za st) dV kV doc pm an cdv ct),osl⟩)
  (c:codeIn K cdv qual=true) (k:keepIn K (.ref f)=true):FunD K x qual st dV f (fnOf x qual (Zi st) (Zh st) (Za st) dV kV doc pm an cdv ct):=⟨⟨oc,od,kV,doc,pm,an,cdv,ct,osl,rfl,l,c⟩,k⟩
section
variable {P:Program}{w:World}{K:PySem.W.Frag}{mg:Str->Option Value}{base:Heap}{x qual:Str}{st:Stmt}{dV:Value}{f:Addr}{fd:FuncData}{N ps:List Str}{k:Nat}{sp:Sp}
def okX(F:FunD K x qual st dV f fd)(S:FnScope N ps (Za st))(len:∀ vs H Q E,sp vs H Q E->vs.length=ps.length)
  (hbody:∀ (cdv:Value) (A:Around) (outer:List Env) (s:Shared) (H:Hp) (vs:List V) (Q:VK) (E:XK),Room k (A.deeper (envOfC qual (Za st) s.heap.objs.size f cdv))->sp vs H Q E ->
   ∃ t,QB (ZjU (CX1 P w) P w K mg base N qual (Za st) f cdv A outer s H E) (Zh st) t/\t { nx:=λ_ H'=>Q .non H',rt:=Q } (Zu N vs) H):FnOk P w K mg base (CX1 P w) (k + 1) f fd ps sp:=by
 obtain⟨oc,od,kV,doc,pm,an,cdv,ct,osl,rfl,lk,hcd⟩:=F.ex
 refine Zq8 lk hcd S len λA outer s H vs Q E hr hsp=>?_
 obtain⟨t,h,q⟩:=hbody cdv A outer s H vs Q E hr hsp
 exact⟨t,h.h,q⟩
def Zvc(F:FunD K x qual st dV f fd)(S:FnScope N ps (Za st))(len:∀ vs H Q E,sp vs H Q E->vs.length=ps.length)
  (hbody:∀ (cdv:Value) (A:Around) (outer:List Env) (s:Shared) (H:Hp) (vs:List V) (Q:VK) (E:XK),Room k (A.deeper (envOfC qual (Za st) s.heap.objs.size f cdv))->sp vs H Q E ->
   ∃ t,QB (ZjU Zx P w K mg base N qual (Za st) f cdv A outer s H E).nox (Zh st) t/\t { nx:=λ_ H'=>Q .non H',rt:=Q } (Zu N vs) H):FnOk P w K mg base Zx (k + 1) f fd ps sp:=by
 obtain⟨oc,od,kV,doc,pm,an,cdv,ct,osl,rfl,lk,hcd⟩:=F.ex
 refine Zq8 lk hcd S len λA outer s H vs Q E hr hsp=>?_
 obtain⟨t,h,q⟩:=hbody cdv A outer s H vs Q E hr hsp
 exact⟨t,h.h.nox,q⟩
def Zqo(F:FnOk P w K mg base (CX1 P w) k f fd ps sp):FnOk P w K mg base Zx k f fd ps (λvs H Q _=>sp vs H Q E0) :=
 ⟨λvs H Q _ h=>F.len vs H Q _ h,λA outer s H args us vs Q _ hr e0 hb r h=>YR (F.run A outer s H args us vs Q E0 hr e0 hb r h) λres s' q=>by
  cases res with
  | error e =>
   obtain⟨_,_,_,_,_,_,_,_,_,_,_,_,_,z⟩:=q
   exact z.elim
  | ok fl=>cases fl <;> exact q⟩
end
def Zhs{x y:Int}{a b:Nat}(hx:x.natAbs < 2 ^ a)(hy:y.natAbs < 2 ^ b)(h:a + b<=1000000):IntMulOk x y:=by
 have key:∀ {z:Int}{n:Nat},z.natAbs < 2 ^ n->Builtin.Int.intBits z<=n:=λ{z n} hz=>by
  unfold Builtin.Int.intBits
  split
  ·exact YC _
  ·rename_i h0
   have h1:z.natAbs ≠ 0:=by
    intro q
    apply h0
    have:z=0:=by omega
    simp [this]
   have:=(Nat.log2_lt h1).mpr hz
   omega
 exact IntMulOk.of_le (key hx) (key hy) (by omega)
structure FnD(P:Program)(w:World)(K:PySem.W.Frag)(mg:Str->Option Value)(base:Heap)(CX:CXT)(k:Nat)(x:Str)(ps:List Str)(dvs:List V)(sp:Sp):Prop where
 ex:∃ (f:Addr) (fd:FuncData) (ds:List Value),FnOk P w K mg base CX k f fd ps sp/\ZA K fd ps ds/\ZB dvs ds/\keepIn K (.ref f)=true/\mg x=some (.ref f)
structure QX(X:Cx)(e:Expr)(t:TEX):Prop where
 h:PEX X e t
structure QSX(X:Cx)(sts:List Stmt)(t:TSX):Prop where
 h:Zuv X sts t
section
variable {X:Cx}{E:XK}{j k:Nat}{x:Str}{ps:List Str}{sp:Sp}{p pos:Pos}{e:Expr}{es:List Expr}{t:TA}{dvs:List V}{C:Addr}
def Zut(b:Goes X E)(F:Fn X.prog X.w X.K X.mg X.base (CX1 X.prog X.w) j x ps sp)(hr:Room k X.A)(hj:j<=k)(hg:Gl X x)(ha:QA X (e :: es) t)(hp:(e :: es).all ZF=true:=by rfl)(hdb:(x == ("__debug__":Str))=false:=by decide) :
  QE X (.Call (.Name x p) (e :: es) [] pos) (ZiF sp [] E t):=by
 obtain⟨f,fd,G,bd,kp,m⟩:=F.ex
 exact⟨Zma G (hr.mono hj) hg m kp bd .nil b.pass ha.h hdb (ZG (Jc hp).1) (Zdp (Jc hp).2)⟩
def ZqW{np cpos:Pos}(b:Goes X E)(hm:X.mg x=some (.ref C))(q:Zrp X.K C)(hg:Gl X x)(ha:QA X (e :: es) t)(hc:X.calm=true:=by rfl)(hp:(e :: es).all ZF=true:=by rfl)(hdb:(x == ("__debug__":Str))=false:=by decide) :
  QS X (.Raise (some (.Call (.Name x np) (e :: es) [] cpos)) none pos) (Zjl C E t):=⟨Zn8 b hc hg hm q ha.h hdb (ZG (Jc hp).1) (Zdp (Jc hp).2)⟩
def ZjK{P:Program}{w:World}{mg:Str->Option Value}{base:Heap}{N:List Str}{qual:Str}{scope:Scope}{f:Addr}{cd:Value}{A:Around}{outer:List Env}{s:Shared}{H:Hp}{E:XK}{CX:CXT} :
  Body (ZjU CX P w K mg base N qual scope f cd A outer s H E).nox:=⟨rfl,rfl,rfl,λ_=>rfl⟩
def tXE(te:TEX):TSX:=λD EX σ H=>te σ H (λ_ H1=>D.nx σ H1) (EX σ)
def tXS(i:Nat)(te:TEX):TSX:=λD EX σ H=>te σ H (λv H1=>D.nx (σ.set i (some v)) H1) (EX σ)
def ZsV{y:Str}{te:TEX}{pos':Pos}(i:Nat)(hN:X.N.Nodup)(he:QX X e te)(hi:X.N[i]?=some y:=by rfl)(hx:Loc X.env.scope y:=by exact Or.inl rfl)(hs:swapsWith e (some (.Name y pos')) pos.line X.env=pure false:=by rfl)
  (hf:X.fn y=true\/X.env.scope.names.lookup y=some .local:=by first | exact .inl rfl | exact .inr rfl | assumption):QSX X [.Assign [.Name y pos'] e pos] (tXS i te):=⟨Zou (Zqg hN hi hx he.h hs hf)⟩
def ZtX{body:List Stmt}{n:Str}{np hpos:Pos}{b₀:Stmt}{suite:List Stmt}{tb:TSX}{th:Addr->TS}{D:Addr}(i:Nat)(b:Body X)(hN:X.N.Nodup)(hm:X.mg x=some (.ref D))(hb:QSX X body tb)(hs:∀ ea,QB (Xh X ea) (b₀ :: suite) (th ea))
  (hg:Gl X x:=by rfl) (hi:X.N[i]?=some n:=by rfl) (hk:X.env.scope.names.lookup n=some .local:=by rfl) (hdb:(x == ("__debug__":Str))=false:=by decide) :
  QS X (.Try body [.ExceptHandler (some (.Name x np)) (some n) (b₀ :: suite) hpos] [] [] pos) (Ztn X.K tb D i th):=⟨Zr8 b hb.h hg hm hN hi hk (λea=>(hs ea).h) hdb⟩
end
inductive EqD (H:Hp):V->V->Bool->Nat->Prop where
 | flat {x y:V}(fx:Zmy x=true) (fy:Zmy y=true):EqD H x y (eqV x y) 0
 | tup {a b:Addr}{xs ys:List V}{e:Nat->Bool}{n:Nat}(ha:H a=some (.tup xs)) (hb:H b=some (.tup ys)) (h:∀ j x y,xs[j]?=some x->ys[j]?=some y->EqD H x y (e j) n) :
   EqD H (.ref a) (.ref b) ((List.range (min xs.length ys.length)).all e && xs.length == ys.length) (n + 1)
 | lst {a b:Addr}{xs ys:List V}{e:Nat->Bool}{n:Nat}(ha:H a=some (.lst xs)) (hb:H b=some (.lst ys)) (hl:xs.length=ys.length) (h:∀ j x y,xs[j]?=some x->ys[j]?=some y->EqD H x y (e j) n) :
   EqD H (.ref a) (.ref b) ((List.range xs.length).all e) (n + 1)
 | lstNe {a b:Addr}{xs ys:List V}{n:Nat}(ha:H a=some (.lst xs)) (hb:H b=some (.lst ys)) (hl:xs.length ≠ ys.length):EqD H (.ref a) (.ref b) false (n + 1)
 | up {x y:V}{b:Bool}{n:Nat}(h:EqD H x y b n):EqD H x y b (n + 1)
def ZoT{x:V}(h:Zmy x=true):eqV x x=true:=by
 cases x
 case non=>rfl
 case bl b=>simp [eqV]
 case int i=>simp [eqV]
 case str y=>simp [eqV]
 all_goals exact absurd (show false=true from h) (by decide)
def ZhJ{n:Nat}{e:Nat->Bool}(h:∀ j,j < n->e j=true):(List.range n).all e=true:=List.all_eq_true.mpr λj hj=>h j (YI.mp hj)
variable {H:Hp}
def EqD.self{x y:V}{b:Bool}{n:Nat}(h:EqD H x y b n):x=y->b=true:=by
 induction h with
 | flat fx fy=>intro e; subst e; exact ZoT fx
 | @tup a b xs ys e n ha hb h ih =>
  intro q
  injection q with q
  subst q
  rw [ha] at hb
  injection hb with hb
  injection hb with hb
  subst hb
  rw [ZhJ,Bool.true_and,beq_self_eq_true]
  intro j hj
  rw [Nat.min_self] at hj
  exact ih j _ _ (Yb hj) (Yb hj) rfl
 | @lst a b xs ys e n ha hb hl h ih =>
  intro q
  injection q with q
  subst q
  rw [ha] at hb
  injection hb with hb
  injection hb with hb
  subst hb
  exact ZhJ λj hj=>ih j _ _ (Yb hj) (Yb hj) rfl
 | up h ih=>exact ih
 | lstNe ha hb hl =>
  intro q
  injection q with q
  subst q
  rw [ha] at hb
  injection hb with hb
  injection hb with hb
  subst hb
  exact absurd rfl hl
section
variable {X:Cx}{pins:List (Addr × Obj)}{σ:St}{H:Hp}{s:Shared}
theorem EqD.at(I:Inv X pins σ H s){x y:V}{b:Bool}{n:Nat}(h:EqD H x y b n):∀ {A:Around}{u v:Value},ZH x u->ZH y v->A.units + n < cLine ->
  SeqAt.EqAt A s u v b/\((∃ a c,x=.ref a/\y=.ref c)->SeqAt.RcAt A s u v b):=by
 induction h with
 | flat fx fy =>
  intro A u v r1 r2 _
  refine⟨ZsB r1 r2 fx fy,?_⟩
  rintro⟨a,c,rfl,_⟩
  cases fx
 | @tup a b xs ys e n ha hb h ih =>
  intro A u v r1 r2 hu
  cases r1
  cases r2
  obtain⟨its,v1,t1,_⟩:=I.tuple (SqT.of ha)
  obtain⟨jts,v2,t2,_⟩:=I.tuple (SqT.of hb)
  have rc:SeqAt.RcAt A s (.ref a) (.ref b) ((List.range (min xs.length ys.length)).all e && xs.length == ys.length):=by
   have z:=SeqAt.RcAt.tuples (A:=A) (s:=s) (e:=e) t1 t2 (by omega) λj h1 h2=>by
    have k1:j < xs.length:=by rw [v1.length]; simpa using h1
    have k2:j < ys.length:=by rw [v2.length]; simpa using h2
    obtain⟨u1,q1,w1⟩:=v1.get (Yb k1)
    obtain⟨u2,q2,w2⟩:=v2.get (Yb k2)
    have g1:its.toArray[j]=u1:=by
     have:=Yf.mp q1
     obtain⟨hh,this⟩:=this
     simpa using this
    have g2:jts.toArray[j]=u2:=by
     have:=Yf.mp q2
     obtain⟨hh,this⟩:=this
     simpa using this
    rw [g1,g2]
    exact (ih j _ _ (Yb k1) (Yb k2) w1 w2 (by show A.units + 1 + n < cLine; omega)).1
   simpa [v1.length,v2.length] using z
  refine⟨?_,λ_=>rc⟩
  by_cases q:a=b
  ·have:=(EqD.tup ha hb h).self (by rw [q])
   rw [this,q]
   exact SeqAt.EqAt.same _
  ·exact SeqAt.EqAt.of_refs q rc
 | @lst a b xs ys e n ha hb hl h ih =>
  intro A u v r1 r2 hu
  cases r1
  cases r2
  obtain⟨its,v1,t1,_⟩:=I.list (JP.of ha)
  obtain⟨jts,v2,t2,_⟩:=I.list (JP.of hb)
  have rc:SeqAt.RcAt A s (.ref a) (.ref b) ((List.range xs.length).all e):=by
   have z:=SeqAt.RcAt.lists (A:=A) (s:=s) (e:=e) t1.isList t2.isList (by simp [<- v1.length,<- v2.length,hl]) (by omega) λj h1 h2=>by
    have k1:j < xs.length:=by rw [v1.length]; simpa using h1
    have k2:j < ys.length:=by rw [v2.length]; simpa using h2
    obtain⟨u1,q1,w1⟩:=v1.get (Yb k1)
    obtain⟨u2,q2,w2⟩:=v2.get (Yb k2)
    have g1:its.toArray[j]=u1:=by
     have:=Yf.mp q1
     obtain⟨hh,this⟩:=this
     simpa using this
    have g2:jts.toArray[j]=u2:=by
     have:=Yf.mp q2
     obtain⟨hh,this⟩:=this
     simpa using this
    rw [g1,g2]
    exact (ih j _ _ (Yb k1) (Yb k2) w1 w2 (by show A.units + 1 + n < cLine; omega)).1
   simpa [v1.length,v2.length] using z
  refine⟨?_,λ_=>rc⟩
  by_cases q:a=b
  ·have:=(EqD.lst ha hb hl h).self (by rw [q])
   rw [this,q]
   exact SeqAt.EqAt.same _
  ·exact SeqAt.EqAt.of_refs q rc
 | up h ih =>
  intro A u v r1 r2 hu
  exact ih r1 r2 (by omega)
 | @lstNe a b xs ys n ha hb hl =>
  intro A u v r1 r2 hu
  cases r1
  cases r2
  obtain⟨its,v1,t1,_⟩:=I.list (JP.of ha)
  obtain⟨jts,v2,t2,_⟩:=I.list (JP.of hb)
  have rc:SeqAt.RcAt A s (.ref a) (.ref b) false:=SeqAt.RcAt.lists_lengths t1.isList t2.isList (by simp [<- v1.length,<- v2.length]; exact hl) (by omega)
  have ne:a ≠ b:=λq=>by
   subst q
   rw [ha] at hb
   injection hb with hb
   injection hb with hb
   subst hb
   exact hl rfl
  exact⟨SeqAt.EqAt.of_refs ne rc,λ_=>rc⟩
end
section
variable {X:Cx}{a b:Expr}{ta tb:TE}{pos:Pos}{k:Nat}
def Ztp:R2:=λx y H Q=>∃ t n p c,x=.ref p/\y=.ref c/\EqD H x y t n/\n<=60/\Q (.bl t) H
def ZrM(hr:Room k X.A):OpR X (compareOp .Eq) Ztp:=by
 intro pins s σ H x y v u Q I rx ry h
 obtain⟨t,n,p,c,e1,e2,h,hn,q⟩:=h
 have hu:=hr.units
 exact ((h.at I rx ry (by omega)).2 ⟨p,c,e1,e2⟩) _ _ _ _ ⟨.bl t,H,I,rfl,q⟩
def ZtP(hr:Room k X.A)(ha:QE X a ta)(hb:QE X b tb):QT X (.Compare a [.Eq] [b] pos) (Jt (JQ Ztp ta tb)):=⟨Zcr (ZrM hr) ha.h hb.h (Zb1 _)⟩
end
section
variable {X:Cx}{pins:List (Addr × Obj)}{σ:St}{H:Hp}{s:Shared}{h':Heap}
def Zip{t':Nat}{ch:List Addr}{o:HO}(I:Inv X pins σ H s)(k:∀ b u,b ∉ ch->s.heap.get? b=some u->h'.get? b=some u)(hf:∀ b∈ch,Zh0 X pins H b)(new:Ja X.prog X.w (upd H s.heap.objs.size o) h' s.heap.objs.size o) :
  Inv X pins σ (upd H s.heap.objs.size o) { s with heap:=h',toks:=t' }:=by
 have hn:H s.heap.objs.size=none:=I.hok.fresh (Yd _)
 have nch:∀ b u,H b=some u->b ∉ ch:=λb u e z=>by rw [(hf b z).1] at e; cases e
 have old:∀ b u,H b=some u->upd H s.heap.objs.size o b=some u:=λb u e=>by rw [Zj (Ze e hn)]; exact e
 refine I.step (g':=s.gens) (d':=s.drawn) (ch:=ch) (λb hb=>⟨(hf b hb).2.2.2.1,(hf b hb).2.1,(hf b hb).2.2.2.2.1,(hf b hb).2.2.2.2.2⟩) (λb u _ _ hc e _=>k b u hc e) (λb u _ _ hc e _=>⟨u.slots,k b u hc e⟩)
  (λb u hc e n=>by rw [Zj (Nat.ne_of_lt (Heap.lt_size e))]; exact n) (λb u hc e=>⟨u,k b u hc e⟩) (λb xs e=>old b _ e) (λb x u e=>old b _ e) (λb ps e=>⟨#[],by rw [old b _ e]; simp⟩) (λm hm=>?_) (λb u e=>?_) I.bare
 ·obtain⟨u,es,ep,ho,r⟩:=hm
  exact⟨u,es,ep,k _ u (λz=>(hf _ z).2.1 rfl) ho,r⟩
 ·by_cases hb:b=s.heap.objs.size
  ·subst hb; rw [Zl] at e; cases e; exact new
  ·rw [Zj hb] at e
   refine (I.hok b u e).stay (λc v hc q=>k c v ?_ q) (λc q=>old c _ q) (λc xs q=>old c _ q) λc o q=>old c _ q
   rcases hc with z | z
   ·rw [z]; exact nch b u e
   ·exact nch c _ z
theorem Zrn{t':Nat}{ch:List Addr}(I:Inv X pins σ H s)(k:∀ b u,b ∉ ch->s.heap.get? b=some u->h'.get? b=some u)(hf:∀ b∈ch,Zh0 X pins H b):Inv X pins σ H { s with heap:=h',toks:=t' }:=by
 have nch:∀ b u,H b=some u->b ∉ ch:=λb u e z=>by rw [(hf b z).1] at e; cases e
 refine I.step (g':=s.gens) (d':=s.drawn) (ch:=ch) (λb hb=>⟨(hf b hb).2.2.2.1,(hf b hb).2.1,(hf b hb).2.2.2.2.1,(hf b hb).2.2.2.2.2⟩) (λb u _ _ hc e _=>k b u hc e) (λb u _ _ hc e _=>⟨u.slots,k b u hc e⟩)
  (λb u hc e n=>n) (λb u hc e=>⟨u,k b u hc e⟩) (λb xs e=>e) (λb x u e=>e) (λb ps e=>⟨#[],by rw [e]; simp⟩) (λm hm=>?_) (λb u e=>?_) I.bare
 ·obtain⟨u,es,ep,ho,r⟩:=hm
  exact⟨u,es,ep,k _ u (λz=>(hf _ z).2.1 rfl) ho,r⟩
 ·refine (I.hok b u e).stay (λc v hc q=>k c v ?_ q) (λc q=>q) λc xs q=>q
  rcases hc with z | z
  ·rw [z]; exact nch b u e
  ·exact nch c _ z
theorem Zik:∀ {xs:List V}{us:List Value},xs.length=us.length->(∀ (i:Nat) x u,xs[i]?=some x->us[i]?=some u->ZH x u)->ZB xs us
 | [],[],_,_=>.nil
 | x :: xs,u :: us,hl,h=>.cons (h 0 x u rfl rfl) (Zik (by simpa using hl) λi x u h1 h2=>h (i + 1) x u h1 h2)
def Zrt(lo hi:Int):List V:=(List.range (hi - lo).toNat).map λk:Nat=>V.int (lo + (k:Int))
theorem Zgw{lo hi:Int}:(Zrt lo hi).length=(hi - lo).toNat:=by simp [Zrt]
def ZnC{lo hi:Int}{i:Nat}(h:i < (hi - lo).toNat):(Zrt lo hi)[i]?=some (.int (lo + i)):=by
 unfold Zrt
 rw [Yh,Vu h]
 rfl
def ZjV(K:PySem.W.Frag):List V->Hp->VK->Prop:=λxs H Q=>∃ p ys,xs=[.ref p]/\(JP K H p ys\/SqT K H p ys\/∃ lo hi,H p=some (.rng lo hi)/\-(2 ^ 62)<=lo/\lo < 2 ^ 62/\-(2 ^ 62)<=hi/\hi < 2 ^ 62/\ys=Zrt lo hi/\hi - lo<=1000000) /\
 ∀ l H2,H l=none->Zn H H2->H2 l=some (.lst ys)->Q (.ref l) H2
def ZkD(hc:X.calm=true):JC X (.type "list") (ZjV X.K):=by
 intro pins s σ H xs us Q I r h
 obtain⟨p,ys,rfl,hq,q⟩:=h
 have old:∀ l,H l=none->Q (.ref l) (upd H l (.lst ys)):=λl hl=>q l _ hl (ZS hl _) Zl
 rcases hq with hq | hq | ⟨lo,hi,hq,h1,h2,h3,h4,rfl,h5⟩
 ·exact Zea pins s σ H [.ref p] us Q I r ⟨p,ys,rfl,.inl hq,old⟩
 ·exact Zea pins s σ H [.ref p] us Q I r ⟨p,ys,rfl,.inr hq,old⟩
 ·obtain⟨u,rfl,rx⟩:=JZ r
  cases rx
  obtain⟨t,u,v,hr⟩:=I.hok p _ hq
  have hn:Builtin.Range.rangeSize lo hi 1=((hi - lo).toNat:Int):=by rw [rangeSize_one]; split <;> omega
  refine call_list_range (I.ok.hd hc) hr (small_one h1 h2 h3 h4) hn (by omega) λh' tk acc' c' kk hl ⟨hs,hacc⟩=>?_
  have hf:H s.heap.objs.size=none:=I.hok.fresh (Yd _)
  refine⟨.ref s.heap.objs.size,_,I.laid kk (Nat.le_refl _) (show Ja X.prog X.w _ h' _ (.lst (Zrt lo hi)) from ⟨?_,acc'.toList,c',Zik ?_ λi x u e1 e2=>?_,by simpa using hl⟩),rfl,old _ hf⟩
  ·rw [Zgw]; exact Yj (m:=1000000) (by omega) (by decide)
  ·rw [Zgw]; simpa using hs.symm
  ·have hi:i < (hi - lo).toNat:=by rw [<- Zgw]; exact (Yf.mp e1).1
   rw [ZnC hi] at e1
   cases e1
   obtain⟨t,rfl⟩:=hacc i u (by simpa using e2)
   exact⟨t,by rw [Int.mul_one]⟩
end
def Zlu(X:Cx)(N:List Str)(sc:Scope)(cl:List (Str × Addr))(fn:Str->Bool)(s:Shared)(H:Hp)(fp:List Addr):Cx where
 prog:=X.prog
 w:=X.w
 K:=X.K
 mg:=X.mg
 base:=X.base
 A:=X.A
 N:=N
 s₀:=s
 H₀:=H
 env:=compEnvC sc cl s.heap.objs.size X.env
 outer:=X.stack
 stack:=X.stack
 ex:=fp
 calm:=X.calm
 fn:=fn
 pn:=[]
 xe:=λ_ _=>False
abbrev blk(X:Cx)(N:List Str)(sc:Scope)(cl:List (Str × Addr))(s:Shared)(H:Hp)(fp:List Addr):Cx:=Zlu X N sc cl (λ_=>false) s H fp
def JB(σ:St)(caps:List Nat):St:=caps.map λi=>(σ[i]?).join
structure Blk(X:Cx)(ts:List Str)(caps:List Nat)(cs:List Str)(sc:Scope)(cl:List (Str × Addr)):Prop where
 clos:closureFor sc X.env=pure cl
 kind:sc.kind=.function
 cell:∀ x∈sc.names,x.2 ≠ .cell
 loc:∀ x∈sc.names,x.2=.local->sc.names.lookup x.1=some .local
 sub:∀ x c,cl.lookup x=some c->X.env.cells.lookup x=some c
 has:∀ x,((relabel sc X.env).names.lookup x=some .cell\/(relabel sc X.env).names.lookup x=some .free)->∃ c,cl.lookup x=some c
 len:caps.length=cs.length
 cap:∀ (k:Nat) i x,caps[k]?=some i->cs[k]?=some x->X.N[i]?=some x/\(X.env.kindOf x=some .cell\/X.env.kindOf x=some .free)
 capK:∀ x∈cs,(relabel sc X.env).names.lookup x=some .cell\/(relabel sc X.env).names.lookup x=some .free
section
variable {X:Cx}{pins:List (Addr × Obj)}{σ:St}{H:Hp}{s:Shared}{ts cs:List Str}{caps:List Nat}{sc:Scope}{cl:List (Str × Addr)}{fp:List Addr}
theorem Zo1(B:Blk X ts caps cs sc cl)(I:Inv X pins σ H s)(hf:∀ b∈fp,Zh0 X pins H b)(hlt:∀ b∈fp,b < s.heap.objs.size):(blk X (ts ++ cs) sc cl s H fp).Ok where
 mod:=I.ok.mod
 kind:=B.kind
 glob:=I.ok.glob
 blt:=I.ok.blt
 above:=Yd _
 inj:=λx y c h1 h2=>I.ok.inj x y c (B.sub x c h1) (B.sub y c h2)
 has:=λx h=>B.has x h
 cab:=λx c h _=>by cases h
 hd:=I.ok.hd
 frames:=I.ok.frames
 stk:=.inl rfl
 exf:=λb hb=>⟨Yn (hlt b hb),λx c h=>(hf b hb).2.2.2.2.1 x c (B.sub x c h)⟩
 bs:=I.bs
 bsz:=Yj I.ok.bsz I.sz
 noex:=λb o e hb=>by
  rcases (hf b hb).2.2.2.1 with z | z
  ·exact I.ok.noex b o e z
  ·exact YE _ (Yl (Ye (I.ok.bs b o e).1) z)
 exfs:=λb hb z=>by
  rcases Ym.mp (I.stkSub b z) with e | e
  ·exact (hf b hb).2.1 e
  ·exact (hf b hb).2.2.1 e
 funs:=I.stack
 frf:=I.stkFree
def ZqQ(B:Blk X ts caps cs sc cl)(I:Inv X pins σ H s)(hf:∀ b∈fp,Zh0 X pins H b)(hlt:∀ b∈fp,b < s.heap.objs.size){h₁:Heap}{t':Nat}(hn:h₁.Ns s.heap.objs.size λ_=>none)(kk:∀ b o,s.heap.get? b=some o->h₁.get? b=some o) :
  Inv (blk X (ts ++ cs) sc cl s H fp) [] (List.replicate ts.length none ++ JB σ caps) H { s with heap:=h₁,toks:=t' }:=by
 have hfr:H s.heap.objs.size=none:=I.hok.fresh (Yd _)
 refine⟨Zo1 B I hf hlt,rfl,I.bare,Un.kept kk,⟨_,hn,λi x v h1 h2 h3=>?_⟩,λx c e=>?_,hfr,λx c e=>I.freeC x c (B.sub x c e),λp hp=>absurd (show p∈([]:List (Addr × Obj)) from hp) (by simp),I.hok.kept kk,?_⟩
 ·have hi:¬ i < ts.length:=λhi=>by
   rw [List.getElem?_append_left (by simpa using hi),List.getElem?_replicate,if_pos hi] at h2
   cases h2
  have h1':(ts ++ cs)[i]?=some x:=h1
  rw [YK (by omega)] at h1'
  rw [List.getElem?_append_right (by simp; omega),List.length_replicate] at h2
  unfold JB at h2
  rw [Yh] at h2
  cases e:caps[i - ts.length]? with
  | none=>rw [e] at h2; cases h2
  | some j =>
   rw [e] at h2
   have h2':(σ[j]?).join=some v:=by simpa using h2
   have h2'':σ[j]?=some (some v):=by
    cases q:σ[j]? with
    | none=>rw [q] at h2'; cases h2'
    | some o=>rw [q] at h2'; cases h2'; rfl
   obtain⟨hN,hk⟩:=B.cap _ _ _ e h1'
   obtain⟨m,hm,hl⟩:=I.loc
   obtain⟨u,r,l⟩:=hl j x v hN h2'' (.inr hk)
   refine⟨u,r,?_⟩
   rcases l with ⟨l,_⟩ | ⟨_,c,hc,⟨o,ho,hd⟩⟩
   ·rcases hk with z | z <;> (rw [z] at l; cases l)
   ·have ck:=B.capK x (Yx h1')
    obtain⟨c',hc'⟩:=B.has x ck
    have:=B.sub x c' hc'
    rw [hc] at this
    cases this
    exact .inr ⟨ck,c,hc',o,kk c o ho,hd⟩
 ·obtain⟨v,o,ho,hd⟩:=I.cell x c (B.sub x c e)
  exact⟨v,o,kk c o ho,hd⟩
 ·show (List.replicate ts.length (none:Option V) ++ JB σ caps).length=(ts ++ cs).length
  rw [YL,YL,List.length_replicate]
  unfold JB
  rw [Yg,B.len]
def ZmL(ifs:List Expr)(env:Env):Sem Bool:=forIn ifs true λc r=>if r=true then do let ok <- isTrue c env (eval c env); pure (ForInStep.yield ok) else pure (ForInStep.yield r)
def PTs(X:Cx)(ifs:List Expr)(t:TT):Prop :=
 ∀ (pins:List (Addr × Obj)) (s:Shared) (σ:St) (H:Hp) (Q:Bool->Hp->Prop),Inv X pins σ H s->t σ H Q->wpAny (model X.prog X.w) X.A (ZmL ifs X.env) (TP X pins σ Q) X.xe s
def Zrv:TT:=λ_ H Q=>Q true H
def Zml:PTs X [] Zrv:=λ_ _ _ H _ I h=>wpAny_tests_nil ⟨H,I,h⟩
def Zlp{prog:Program}{w:World}{A:Around}{R:Result->Shared->Prop}{s:Shared}{elt target iter:Expr}{ifs:List Expr}{scope:Scope}{pos:Pos}{it acc:Value}{env:Env}(I:Nat->Shared->Prop)
  (turn:∀ n s,I n s->wpAny (model prog w) A (pyNext it) (λr s₁=>match r with
   | none=>R (.ok .next) s₁
   | some v=>wpAny (model prog w) A (letOwnedTupleGo target it v) (λ_ s₁'=>wpAny (model prog w) A (assign target env v) (λ_ s₂=>wpAny (model prog w) A (ZmL ifs env) (λok s₃ =>
     if ok=true then wpAny (model prog w) A (eval elt env) (λx s₄ =>
      wpAny (model prog w) A (call (.builtin "list.append") [acc,x]) (λ_ s₅=>∃ m,m < n/\I m s₅) (notedBy (model prog w) A env λe s'=>R (.error e) s') s₄) (notedBy (model prog w) A env λe s'=>R (.error e) s') s₃
     else ∃ m,m < n/\I m s₃) (notedBy (model prog w) A env λe s'=>R (.error e) s') s₂) (notedBy (model prog w) A env λe s'=>R (.error e) s') s₁') (notedBy (model prog w) A env λe s'=>R (.error e) s') s₁) (notedBy (model prog w) A env λe s'=>R (.error e) s') s)
  (n:Nat) (h:I n s):codeAny (model prog w) A (.compLoop (.ListComp elt [⟨target,iter,ifs,0⟩] scope pos) 0 it acc env) R s:=by
 refine codeAny_loop rfl I (λn s hI=>?_) n h
 show wpAny _ _ ((compTurn (.ListComp elt [⟨target,iter,ifs,0⟩] scope pos) 0 it acc env).onRaise (λx=>do noteFrame x env; theTreesLotGoes x)) _ _ s
 refine wpAny_noted ?_
 rw [compTurn_list]
 refine Ya (wpAny_standAt (Ya (Yk (turn n s hI) (λr s₁ h₁=>?_) λ_ _ h'=>h')))
 cases r with
 | none=>exact Yc h₁
 | some v =>
  refine Ya (Yk h₁ (λ_ s₁' h₁'=>?_) λ_ _ h'=>h')
  refine Ya (Yk h₁' (λ_ s₂ h₂=>Ya (Yk h₂ (λok s₃ h₃=>?_) λ_ _ h'=>h')) λ_ _ h'=>h')
  cases ok with
  | false=>exact Yc ⟨rfl,h₃⟩
  | true=>exact Ya (Ya (Yk h₃ (λx s₄ h₄=>Ya (Yk h₄ (λ_ s₅ h₅=>Yc (Yc ⟨rfl,h₅⟩)) λ_ _ h'=>h')) λ_ _ h'=>h'))
def ZhZ(nt:Nat)(cp:St)(J:It)(g:TG)(tt:TT)(te:TE)(H1:Hp)(Q:VK):Prop:=∀ acc H2,H1 acc=none->Zn H1 H2->H2 acc=some (.lst []) ->
 ∃ W:Nat->Nat->List V->Hp->Prop,(∃ m,W 0 m [] H2)/\∀ i m ys H,W i m ys H->H acc=some (.lst ys)/\((J.stop i H/\Q (.ref acc) H)\/(J.go i H/\ys.length < 1000000/\∃ N:List V->Hp->Prop,(∀ ys' H',N ys' H'->∃ m',m' < m/\W (i + 1) m' ys' H') /\
  ∀ os x H',os.length=nt->J.yld i H x H'->g x (os ++ cp) H' λτ H3=>∃ os',os'.length=nt/\τ=os' ++ cp/\tt τ H3 λb H4=>if b=true then te τ H4 λv H5=>H5 acc=some (.lst ys)/\N (ys ++ [v]) (upd H5 acc (.lst (ys ++ [v]))) else N ys H4))
def ZpV(nt:Nat)(cp:St)(J:It)(g:TG)(te:TE)(H1:Hp)(Q:VK):Prop:=ZhZ nt cp J g Zrv te H1 Q
def Zo3(nt:Nat)(caps:List Nat)(wi:TI)(g:TG)(tt:TT)(te:TE):TE:=λσ H Q=>wi σ H λJ H1=>ZhZ nt (JB σ caps) J g tt te H1 Q
def JY(nt:Nat)(caps:List Nat)(wi:TI)(g:TG)(te:TE):TE:=λσ H Q=>wi σ H λJ H1=>ZpV nt (JB σ caps) J g te H1 Q
def ZhO(X:Cx)(pins:List (Addr × Obj))(σ:St)(Q:VK)(acc:Value)(C:Addr)(r:Result)(s':Shared):Prop :=
 r=.ok .next/\∃ a H',acc=.ref a/\Inv X pins σ H' s'/\Zh0 X pins H' C/\(∃ m,s'.heap.Ns C m)/\Q (.ref a) H'
def Zp6{elt target iter:Expr}{ifs:List Expr}{pos:Pos}{g:TG}{tt:TT}{te:TE}{it acc:Addr}{tn:Nat->Heap->Prop}{J:It}{Q:VK}{cells:List (Str × Addr)}{fn:Str->Bool}{s3 s4:Shared}{H3:Hp}{W:Nat->Nat->List V->Hp->Prop}{m0:Nat}(hc:X.calm=true)
  (hg:PG (Zlu X (ts ++ cs) sc cells fn s3 H3 fp) target g) (ht:PTs (Zlu X (ts ++ cs) sc cells fn s3 H3 fp) ifs tt) (he:PE (Zlu X (ts ++ cs) sc cells fn s3 H3 fp) elt te) (ok:(Zlu X (ts ++ cs) sc cells fn s3 H3 fp).Ok)
  (I3:Inv X pins σ H3 s3) (f3:∀ b∈fp,Zh0 X pins H3 b) (hlt3:∀ b∈fp,b < s3.heap.objs.size) (T:Turn X.prog X.w X.K target J fp it tn) (J4:Inv (Zlu X (ts ++ cs) sc cells fn s3 H3 fp) [] (List.replicate ts.length none ++ JB σ caps) H3 s4) (st4:tn 0 s4.heap) (w0:W 0 m0 [] H3)
  (step:∀ i m ys H,W i m ys H->H acc=some (.lst ys)/\((J.stop i H/\Q (.ref acc) H)\/(J.go i H/\ys.length < 1000000/\∃ N:List V->Hp->Prop,(∀ ys' H',N ys' H'->∃ m',m' < m/\W (i + 1) m' ys' H') /\
   ∀ os x H',os.length=ts.length->J.yld i H x H'->g x (os ++ JB σ caps) H' λτ H3=>∃ os',os'.length=ts.length/\τ=os' ++ JB σ caps/\tt τ H3 λb H4=>if b=true then te τ H4 λv H5=>H5 acc=some (.lst ys)/\N (ys ++ [v]) (upd H5 acc (.lst (ys ++ [v]))) else N ys H4))) :
  codeAny (model X.prog X.w) X.A (.compLoop (.ListComp elt [⟨target,iter,ifs,0⟩] sc pos) 0 (.ref it) (.ref acc) (compEnvC sc cells s3.heap.objs.size X.env)) (ZhO X pins σ Q (.ref acc) s3.heap.objs.size) s4:=by
 have stat:∀ {H':Hp},(∀ b∈fp,H' b=none)->∀ b∈fp,Zh0 (Zlu X (ts ++ cs) sc cells fn s3 H3 fp) [] H' b:=λhn b hb =>
  ⟨hn b hb,Nat.ne_of_lt (hlt3 b hb),ok.exfs b hb,.inl hb,ok.exf b hb |>.2,λp hp=>absurd (show p∈([]:List (Addr × Obj)) from hp) (by simp)⟩
 refine Zlp (λn s'=>∃ i os ys H',os.length=ts.length/\Inv (Zlu X (ts ++ cs) sc cells fn s3 H3 fp) [] (os ++ JB σ caps) H' s'/\tn i s'.heap/\(∀ b∈fp,H' b=none)/\W i n ys H') ?_ m0
  ⟨0,List.replicate ts.length none,[],_,by simp,J4,st4,λb hb=>(f3 b hb).1,w0⟩
 rintro n s5 ⟨i,os,ys,H5,ol,J5,st5,fr5,w5⟩
 obtain⟨ha,hcase⟩:=step i n ys H5 w5
 rcases hcase with ⟨stop,q⟩ | ⟨go,hys,N,hN,turn⟩
 ·refine Z0 (T.done (Zlu X (ts ++ cs) sc cells fn s3 H3 fp) rfl rfl rfl hc i [] s5 _ H5 _ J5 (stat fr5) st5 stop) λr s6 ⟨hr,J6⟩=>?_
  subst hr
  have hf6:H5 s3.heap.objs.size=none:=J6.free
  obtain⟨m6,hm6,_⟩:=J6.loc
  exact⟨rfl,_,H5,rfl,I3.call' (J6.os) J6.base J6.hok J6.bare (λb hb=>⟨(f3 b hb).2.2.2.1,(f3 b hb).2.1,(f3 b hb).2.2.2.2.1,(f3 b hb).2.2.2.2.2⟩),I3.fpOk (Yd _) hf6,⟨m6,hm6⟩,q⟩
 ·refine Z0 (T.item (Zlu X (ts ++ cs) sc cells fn s3 H3 fp) rfl rfl rfl hc i [] s5 _ H5 _ J5 (stat fr5) st5 go) λr s6 ⟨u,hr,h6⟩=>?_
  subst hr
  refine Z0 h6 λ_ s7 ⟨x,H7,J7,r7,y7,st7,fr7⟩=>?_
  have J7':=J7.pinned (stat fr7) (T.obj _ _ st7)
  refine Yk (hg _ s7 _ H7 x u _ J7' r7 (turn os x H7 ol y7)) (λ_ s8 ⟨σ8,H8,J8,os',ol',e8,q8⟩=>?_) λ_ _ z=>z.elim
  subst e8
  refine Yk (ht _ s8 _ H8 _ J8 q8) (λb s8' ⟨H8',J8',q8'⟩=>?_) λ_ _ z=>z.elim
  cases b with
  | false =>
   rw [if_neg (by decide)] at q8' ⊢
   obtain⟨m',hm',w9⟩:=hN _ _ q8'
   refine⟨m',hm',i + 1,os',ys,_,ol',J8'.unpinned,T.keep _ _ _ st7 λb hb o e=>(J8'.pin (b,o) (Yw _ (Yw _ (ZbN hb e)))).1,λb hb=>?_,w9⟩
   obtain⟨o,e,d⟩:=T.obj _ _ st7 b hb
   exact (J8'.pin (b,o) (Yw _ (Yw _ (ZbN hb e)))).2.1
  | true =>
   rw [if_pos rfl] at q8' ⊢
   refine Yk (he _ s8' _ H8' _ J8' q8') (λv s9 ⟨v9,H9,J9,r9,ha9,n9⟩=>?_) λ_ _ z=>z.elim
   refine Yk (Zhy (X:=Zlu X (ts ++ cs) sc cells fn s3 H3 fp) _ s9 _ H9 (.ref acc) [v9] (.ref acc) [v] (λ_ H'=>H'=upd H9 acc (.lst (ys ++ [v9]))) J9 rfl (.cons r9 .nil) ⟨_,ys,v9,rfl,rfl,ha9,ZuT hys,rfl⟩) (λ_ s10 ⟨_,H10,J10,_,e10⟩=>?_) λ_ _ z=>z.elim
   subst e10
   obtain⟨m',hm',w9⟩:=hN _ _ n9
   refine⟨m',hm',i + 1,os',ys ++ [v9],_,ol',J10.unpinned,T.keep _ _ _ st7 λb hb o e=>(J10.pin (b,o) (Yw _ (Yw _ (ZbN hb e)))).1,λb hb=>?_,w9⟩
   obtain⟨o,e,d⟩:=T.obj _ _ st7 b hb
   exact (J10.pin (b,o) (Yw _ (Yw _ (ZbN hb e)))).2.1
def Zl8{elt target iter:Expr}{ifs:List Expr}{pos:Pos}{g:TG}{tt:TT}{te:TE}{it:Addr}{tn:Nat->Heap->Prop}{J:It}{Q:VK}{E:VSP}(B:Blk X ts caps cs sc cl)(hc:X.calm=true)
  (hg:∀ s H fp,PG (blk X (ts ++ cs) sc cl s H fp) target g) (ht:∀ s H fp,PTs (blk X (ts ++ cs) sc cl s H fp) ifs tt) (he:∀ s H fp,PE (blk X (ts ++ cs) sc cl s H fp) elt te)
  (I2:Inv X pins σ H s) (T:Turn X.prog X.w X.K target J fp it tn) (st2:tn 0 s.heap) (f2:∀ b∈fp,Zh0 X pins H b) (h:ZhZ ts.length (JB σ caps) J g tt te H Q) :
  wpAny (model X.prog X.w) X.A (newList []) (λacc s₃=>wpAny (model X.prog X.w) X.A (newFunctionEnv sc X.env.globals cl [] X.env.qual none .none (some X.env)) (λcenv s₄ =>
   codeAny (model X.prog X.w) X.A (.compStart (.ListComp elt [⟨target,iter,ifs,0⟩] sc pos) 0 (.ref it) acc { cenv with scope:=relabel sc X.env }) (ZhO X pins σ Q acc cenv.locals) s₄) E s₃) E s:=by
 refine wpAny_newObj_type (wpAny_newFunctionEnv B.cell (by intro y hy; simp at hy) (λh₁ hns₁ hsb₁=>?_) B.kind)
 dsimp only at hns₁ hsb₁ ⊢
 have hnew:H s.heap.objs.size=none:=I2.hok.fresh (Yd _)
 have I3:Inv X pins σ (upd H s.heap.objs.size (.lst [])) { s with heap:=s.heap.push { cls:=.type "list",dict:=none,data:=.seq ([]:List Value).toArray } } :=
  I2.laid (t':=s.toks) (λb u e=>Yi _ e) (Yd _) ⟨YC _,[],0,.nil,Yv _ rfl⟩
 obtain⟨W,⟨m0,w0⟩,step⟩:=h s.heap.objs.size _ hnew (ZS hnew _) Zl
 have old2:∀ b o,s.heap.get? b=some o->(s.heap.push { cls:=.type "list",dict:=none,data:=.seq ([]:List Value).toArray }).get? b=some o:=λb o e=>Yi _ e
 generalize hs3:({ s with heap:=s.heap.push { cls:=.type "list",dict:=none,data:=.seq ([]:List Value).toArray } }:Shared)=s3 at I3
 have hh:s.heap.push { cls:=.type "list",dict:=none,data:=.seq ([]:List Value).toArray }=s3.heap:=by rw [<- hs3]
 rw [hh] at hns₁ hsb₁ old2
 have fpO:∀ b∈fp,∃ o,s.heap.get? b=some o:=λb hb=>let ⟨o,e,_⟩:=T.obj 0 _ st2 b hb; ⟨o,e⟩
 have f3:∀ b∈fp,Zh0 X pins (upd H s.heap.objs.size (.lst [])) b:=λb hb=>⟨by
  obtain⟨o,e⟩:=fpO b hb
  rw [Zj (Yn (Ye e))]; exact (f2 b hb).1,(f2 b hb).2⟩
 have hlt3:∀ b∈fp,b < s3.heap.objs.size:=λb hb=>let ⟨o,e⟩:=fpO b hb; Ye (old2 b o e)
 have kk:∀ b o,s3.heap.get? b=some o->h₁.get? b=some o:=λb o e=>hsb₁.extBut b o (Yn (Ye e)) (Yi _ e)
 have J4:=ZqQ (t':=s.toks + ([]:List (Str × Value)).length) B I3 f3 hlt3 (h₁:=h₁) hns₁ kk
 have st4:tn 0 h₁:=T.keep _ _ _ st2 λb hb o e=>kk b o (old2 b o e)
 have key:∀ s4:Shared,s4={ s3 with heap:=h₁,toks:=s.toks + ([]:List (Str × Value)).length } ->
   codeAny (model X.prog X.w) X.A (.compLoop (.ListComp elt [⟨target,iter,ifs,0⟩] sc pos) 0 (.ref it) (.ref s.heap.objs.size) (compEnvC sc cl s3.heap.objs.size X.env)) (ZhO X pins σ Q (.ref s.heap.objs.size) s3.heap.objs.size) s4:=by
  rintro s4 rfl
  exact Zp6 hc (hg _ _ _) (ht _ _ _) (he _ _ _) (Zo1 B I3 f3 hlt3) I3 f3 hlt3 T J4 st4 w0 step
 have key2:=key { s with heap:=h₁,toks:=s.toks + ([]:List (Str × Value)).length } (by rw [<- hs3])
 rw [hh]
 exact codeAny_compStart_list key2 (T.self _ 0 _ _ _ st4 key2)
def ZnF{elt target iter:Expr}{ifs:List Expr}{pos:Pos}{wi:TI}{g:TG}{tt:TT}{te:TE}(B:Blk X ts caps cs sc cl)(hi:PI X target iter wi)
  (hg:∀ s H fp,PG (blk X (ts ++ cs) sc cl s H fp) target g) (ht:∀ s H fp,PTs (blk X (ts ++ cs) sc cl s H fp) ifs tt) (he:∀ s H fp,PE (blk X (ts ++ cs) sc cl s H fp) elt te) (hc:X.calm=true:=by rfl) (hs:∀ x,foldedSetIterable iter X.env x=pure x:=by intro _; rfl) :
  PE X (.ListComp elt [⟨target,iter,ifs,0⟩] sc pos) (Zo3 ts.length caps wi g tt te):=by
 intro pins s σ H Q I h
 rw [eval_ListComp]
 refine wpAny_comprehension_free (use:=none) rfl hs B.clos B.kind B.loc (Z0 (hi pins s σ H _ I h) λv s1 h1=>Z0 h1 λitv s2 h2=>?_)
 obtain⟨it,fp,tn,J,H2,e,I2,T,st2,f2,hq⟩:=h2
 subst e
 refine Z0 (Zl8 B hc hg ht he I2 T st2 f2 hq) λacc s3 h3=>Z0 h3 λcenv s4 h4=>YR h4 λr s' hp=>?_
 obtain⟨rfl,a,H',rfl,I',fC,⟨m,hm⟩,q⟩:=hp
 exact⟨m,hm,λh' sb=>⟨.ref a,H',I'.turned (t':=s'.toks) (λb o hb e=>sb.extBut b o hb e) fC.1 fC.2.1 fC.2.2.2.1 fC.2.2.2.2.1 fC.2.2.2.2.2,rfl,q⟩⟩
def ZiL{elt target iter:Expr}{ifs:List Expr}{x:Str}{px pos spos:Pos}{wi:TI}{g:TG}{tt:TT}{te:TE}(i:Nat)(B:Blk X ts caps cs sc cl)(hi:PI X target iter wi)
  (hg:∀ s H fp,PG (blk X (ts ++ cs) sc cl s H fp) target g) (ht:∀ s H fp,PTs (blk X (ts ++ cs) sc cl s H fp) ifs tt) (he:∀ s H fp,PE (blk X (ts ++ cs) sc cl s H fp) elt te) (hx:PG X (.Name x px) (Zef i))
  (hsw:swapsWith (.ListComp elt [⟨target,iter,ifs,0⟩] sc pos) (some (.Name x px)) spos.line X.env=pure true) (hc:X.calm=true:=by rfl) (hs:∀ x,foldedSetIterable iter X.env x=pure x:=by intro _; rfl) :
  PS X (.Assign [.Name x px] (.ListComp elt [⟨target,iter,ifs,0⟩] sc pos) spos) (ZmT (Zo3 ts.length caps wi g tt te) (Zef i)):=by
 intro pins s σ H D I h
 rw [exec_Assign_Name_used _ _ _ _ hsw]
 refine Ya (wpAny_standAt (Ya ?_))
 show wpAny _ X.A (do let _ <- comprehension (.ListComp elt [⟨target,iter,ifs,0⟩] sc pos) sc X.env _ (newList []) false (eval iter X.env) (some (assign (.Name x px) X.env))) _ _ s
 refine Ya (Yk (wpAny_comprehension_free (use:=some (assign (.Name x px) X.env)) (Q:=λ_ s'=>SP X pins D .next s') rfl hs B.clos B.kind B.loc
  (Z0 (hi pins s σ H _ I h) λv s1 h1=>Z0 h1 λitv s2 h2=>?_)) (λ_ s' hq=>Yc (Yc hq)) λ_ _ e=>e)
 obtain⟨it,fp,tn,J,H2,e,I2,T,st2,f2,hq⟩:=h2
 subst e
 refine Z0 (Zl8 B hc hg ht he I2 T st2 f2 hq) λacc s3 h3=>Z0 h3 λcenv s4 h4=>YR h4 λr s' hp=>?_
 obtain⟨rfl,a,H',rfl,I',fC,⟨m,hm⟩,q⟩:=hp
 obtain⟨oC,esC,epC,hoC,hdC,rC⟩:=id hm
 have Ip:Inv X (pins ++ [(cenv.locals,oC)]) σ H' s':=I'.pins_of λp hp=>by
  rcases Yz.mp hp with z | z
  ·exact I'.pin p (Yw _ z)
  ·have z:p=(cenv.locals,oC):=by simpa using z
   subst z
   exact⟨hoC,fC.1,fC.2.1,fC.2.2.1,λv z=>by rw [show oC.data=_ from hdC] at z; cases z⟩
 refine Z0 (hx _ s' σ H' (.ref a) (.ref a) _ Ip rfl q) λ_ s5 ⟨σ5,H5,I5,q5⟩=>?_
 have pC:=I5.pin (cenv.locals,oC) (List.mem_append_right _ (List.mem_append_right _ (by simp)))
 refine⟨m,⟨oC,esC,epC,pC.1,hdC,rC⟩,λh' sb=>⟨σ5,H5,I5.unpinned.turned (t':=s5.toks) (λb o hb e=>sb.extBut b o hb e) pC.2.1 fC.2.1 fC.2.2.2.1 fC.2.2.2.2.1 fC.2.2.2.2.2,q5⟩⟩
def Zrj{elt target iter:Expr}{pos:Pos}{wi:TI}{g:TG}{te:TE}(B:Blk X ts caps cs sc cl)(hi:PI X target iter wi)
  (hg:∀ s H fp,PG (blk X (ts ++ cs) sc cl s H fp) target g) (he:∀ s H fp,PE (blk X (ts ++ cs) sc cl s H fp) elt te) (hc:X.calm=true:=by rfl) (hs:∀ x,foldedSetIterable iter X.env x=pure x:=by intro _; rfl) :
  PE X (.ListComp elt [⟨target,iter,[],0⟩] sc pos) (JY ts.length caps wi g te):=ZnF B hi hg (λ_ _ _=>Zml) he hc hs
def Zj3{elt target iter:Expr}{x:Str}{px pos spos:Pos}{wi:TI}{g:TG}{te:TE}(i:Nat)(B:Blk X ts caps cs sc cl)(hi:PI X target iter wi)
  (hg:∀ s H fp,PG (blk X (ts ++ cs) sc cl s H fp) target g) (he:∀ s H fp,PE (blk X (ts ++ cs) sc cl s H fp) elt te) (hx:PG X (.Name x px) (Zef i))
  (hsw:swapsWith (.ListComp elt [⟨target,iter,[],0⟩] sc pos) (some (.Name x px)) spos.line X.env=pure true) (hc:X.calm=true:=by rfl) (hs:∀ x,foldedSetIterable iter X.env x=pure x:=by intro _; rfl) :
  PS X (.Assign [.Name x px] (.ListComp elt [⟨target,iter,[],0⟩] sc pos) spos) (ZmT (JY ts.length caps wi g te) (Zef i)):=ZiL i B hi hg (λ_ _ _=>Zml) he hx hsw hc hs
end
section
variable {X:Cx}{tg e elt it c d:Expr}{te:TE}{ta:TA}{wi:TI}{g:TG}{pos p:Pos}{ts cs:List Str}{caps:List Nat}{sc:Scope}{cl:List (Str × Addr)}
def Zjs(hg:Gl X "list")(hm:X.mg "list"=none)(ha:QA X [c] ta)(hp:ZF c=true:=by rfl)(hc:X.calm=true:=by rfl):QE X (.Call (.Name "list" p) [c] [] pos) (tCB (ZjV X.K) ta):=⟨ZeL (ZkD hc) hg hm (by decide +kernel) ha.h (by decide) (by decide) (ZG hp) rfl⟩
def Zr7(hg:Gl X "min")(hm:X.mg "min"=none)(ha:QA X [c,d] ta)(hp:ZF c=true:=by rfl)(hq:ZF d=true:=by rfl)(hc:X.calm=true:=by rfl) :
  QE X (.Call (.Name "min" p) [c,d] [] pos) (tCB (λxs H Q=>∃ i j,xs=[.int i,.int j]/\Q (.int (if j < i then j else i)) H) ta):=⟨ZcN (Zmc hc) hg hm (by decide +kernel) ha.h (by decide) (by decide) (ZG hp) (by rw [ZG hq]; rfl)⟩
def ZmY{o i:Expr}{to ti:TE}(ho:QE X o to)(hi:QE X i ti) (ha:∀ v,assign (.Subscript o i pos) X.env v=(do
      let ov <- holding [v] (eval o X.env)
      let iv <- holding [v,ov] (eval i X.env)
      standAt pos
      holding [v,ov,iv] (setItem ov iv v)
      release [v,ov,iv] []):=by intro _; rfl):QG X (.Subscript o i pos) (Zty to ti Zm9):=⟨Zsz ho.h hi.h Zos ha⟩
def ZnJ(ts:List Str)(hk:sc.kind=.function:=by rfl)(h:(sc.names.all λx=>x.2 != .free && x.2 != .cell && (x.2 != .local || sc.names.lookup x.1 == some .local))=true:=by decide +kernel):Blk X ts [] [] sc []:=by
 have hh:∀ x∈sc.names,x.2 ≠ .free/\x.2 ≠ .cell/\(x.2=.local->sc.names.lookup x.1=some .local):=λx hx=>by
  have q:=List.all_eq_true.mp h x hx
  simp only [Bool.and_eq_true,bne_iff_ne,ne_eq,Bool.or_eq_true,beq_iff_eq] at q
  exact⟨q.1.1,q.1.2,λz=>q.2.elim (λy=>absurd z y) id⟩
 have rl:relabel sc X.env=sc:=by
  unfold relabel
  rw [map_eq_self λx hx=>by
   have q:(x.2 == NameKind.free)=false:=by simpa using (hh x hx).1
   obtain⟨n,k⟩:=x
   simp only at q
   simp [q]]
 refine⟨closureFor_none λx hx=>(hh x hx).1,hk,λx hx=>(hh x hx).2.1,λx hx=>(hh x hx).2.2,λx c e=>by simp at e,λx e=>?_,rfl,λk i x e=>by simp at e,λx e=>by simp at e⟩
 rw [rl] at e
 rcases e with e | e
 ·exact absurd rfl (hh _ (YN e)).2.1
 ·exact absurd rfl (hh _ (YN e)).1
def Zgt(cells:List (Str × Addr)):List (Str × NameKind)->List (Str × Addr)->Option (List (Str × Addr))
 | [],acc=>some acc
 | (n,k) :: r,acc=>if k == .free then (match cells.lookup n with | some c=>Zgt cells r ((n,c) :: acc) | none=>none) else Zgt cells r acc
def Zf2{env:Env}:∀ {ns:List (Str × NameKind)}{acc cl:List (Str × Addr)},Zgt env.cells ns acc=some cl ->
  (forIn ns acc λx r=>(match x with | (name,kind)=>if (kind == NameKind.free)=true then do let c <- PySem.cellOf env name; pure (ForInStep.yield ((name,c) :: r)) else pure (ForInStep.yield r):Sem (ForInStep (List (Str × Addr)))))=(pure cl:Sem _)
 | [],acc,cl,h=>by cases h; rfl
 | (n,k) :: r,acc,cl,h=>by
  unfold Zgt at h
  rw [List.forIn_cons]
  dsimp only
  split at h
  ·rename_i hk
   rw [if_pos hk]
   split at h
   ·rename_i c hc
    have e:PySem.cellOf env n=pure c:=by unfold PySem.cellOf; rw [hc]
    rw [e]
    exact Zf2 h
   ·cases h
  ·rename_i hk
   rw [if_neg hk]
   exact Zf2 h
def Zfk{cells:List (Str × Addr)}:∀ {ns:List (Str × NameKind)}{acc cl:List (Str × Addr)},Zgt cells ns acc=some cl->(∀ p∈acc,cells.lookup p.1=some p.2)->∀ p∈cl,cells.lookup p.1=some p.2
 | [],acc,cl,h,ha=>by cases h; exact ha
 | (n,k) :: r,acc,cl,h,ha=>by
  unfold Zgt at h
  split at h
  ·split at h
   ·rename_i c hc
    exact Zfk h λp hp=>by
     rcases Ym.mp hp with rfl | hp
     ·exact hc
     ·exact ha p hp
   ·cases h
  ·exact Zfk h ha
def Ze3{cells:List (Str × Addr)}{x:Str}:∀ {ns:List (Str × NameKind)}{acc cl:List (Str × Addr)},Zgt cells ns acc=some cl->((x,NameKind.free)∈ns\/∃ c,(x,c)∈acc)->∃ c,(x,c)∈cl
 | [],acc,cl,h,ha=>by
  cases h
  rcases ha with z | z
  ·cases z
  ·exact z
 | (n,k) :: r,acc,cl,h,ha=>by
  unfold Zgt at h
  split at h
  ·split at h
   ·rename_i c hc
    refine Ze3 h ?_
    rcases ha with z | ⟨c',z⟩
    ·rcases Ym.mp z with e | z
     ·cases e; exact .inr ⟨c,List.mem_cons_self⟩
     ·exact .inl z
    ·exact .inr ⟨c',Y4 _ z⟩
   ·cases h
  ·rename_i hk
   refine Ze3 h ?_
   rcases ha with z | z
   ·rcases Ym.mp z with e | z
    ·cases e; exact absurd rfl hk
    ·exact .inl z
   ·exact .inr z
def Zdr{x:Str}{c:Addr}:∀ {l:List (Str × Addr)},(x,c)∈l->∃ c',l.lookup x=some c'
 | [],h=>by cases h
 | (n,d) :: r,h=>by
  rw [List.lookup_cons]
  cases e:x == n with
  | true=>exact⟨d,rfl⟩
  | false =>
   rcases Ym.mp h with z | z
   ·cases z; simp at e
   ·exact Zdr z
def Zdz{env:Env}{x:Str}{k:NameKind}(h:(relabel sc env).names.lookup x=some k):(x,k)∈sc.names\/(k=.cell/\(x,NameKind.free)∈sc.names):=by
 have m:=YN h
 unfold relabel at m
 obtain⟨⟨n,k'⟩,hm,e⟩:=Yo.mp m
 dsimp only at e
 split at e
 ·rename_i hc
  cases e
  simp only [Bool.and_eq_true,beq_iff_eq] at hc
  rw [hc.1.1] at hm
  exact .inr ⟨rfl,hm⟩
 ·cases e
  exact .inl hm
theorem ZcA{env:Env}{x:Str}:∀ {ns:List (Str × NameKind)},ns.lookup x=some NameKind.free ->
  (ns.map λ(n,k)=>if (k == NameKind.free && env.scope.kind == .function && env.kindOf n == some .cell) then (n,NameKind.cell) else (n,k)).lookup x=some .cell \/
  (ns.map λ(n,k)=>if (k == NameKind.free && env.scope.kind == .function && env.kindOf n == some .cell) then (n,NameKind.cell) else (n,k)).lookup x=some .free
 | [],h=>by cases h
 | (n,k) :: r,h=>by
  rw [List.lookup_cons] at h
  rw [Yq]
  dsimp only
  cases e:x == n with
  | true =>
   rw [e] at h
   cases h
   split <;> simp [List.lookup_cons,e]
  | false =>
   rw [e] at h
   split
   ·simp only [List.lookup_cons,e]; exact ZcA h
   ·simp only [List.lookup_cons,e]; exact ZcA h
def ZuP(ts:List Str)(caps:List Nat)(cs:List Str)(hcl:Zgt X.env.cells sc.names []=some cl:=by rfl)(hcap:caps.map (λi=>X.N[i]?)=cs.map some:=by rfl)(hck:(cs.all λx=>X.env.kindOf x == some .cell || X.env.kindOf x == some .free)=true:=by rfl)
  (hcf:cs.map (λx=>sc.names.lookup x)=cs.map (λ_=>some NameKind.free):=by rfl) (hk:sc.kind=.function:=by rfl) (h:(sc.names.all λx=>x.2 != .cell && (x.2 != .local || sc.names.lookup x.1 == some .local))=true:=by decide +kernel):Blk X ts caps cs sc cl:=by
 have hh:∀ x∈sc.names,x.2 ≠ .cell/\(x.2=.local->sc.names.lookup x.1=some .local):=λx hx=>by
  have q:=List.all_eq_true.mp h x hx
  simp only [Bool.and_eq_true,bne_iff_ne,ne_eq,Bool.or_eq_true,beq_iff_eq] at q
  exact⟨q.1,λz=>q.2.elim (λy=>absurd z y) id⟩
 have len:caps.length=cs.length:=by have:=congrArg List.length hcap; simpa using this
 refine⟨?_,hk,λx hx=>(hh x hx).1,λx hx=>(hh x hx).2,λx c e=>?_,λx e=>?_,len,λk i x e1 e2=>?_,λx hx=>?_⟩
 ·simp only [closureFor]
  rw [Zf2 hcl]
  rfl
 ·exact Zfk hcl (λp hp=>by cases hp) _ (YN e)
 ·have m:(x,NameKind.free)∈sc.names:=by
   rcases e with e | e
   ·rcases Zdz e with z | ⟨_,z⟩
    ·exact absurd rfl (hh _ z).1
    ·exact z
   ·rcases Zdz e with z | ⟨z,_⟩
    ·exact z
    ·cases z
  obtain⟨c,hc⟩:=Ze3 hcl (.inl m)
  exact Zdr hc
 ·have h1:=congrArg (·[k]?) hcap
  simp only [List.getElem?_map,e1,e2,Option.map_some,Option.some.injEq] at h1
  have h2:=List.all_eq_true.mp hck x (Yx e2)
  simp only [Bool.or_eq_true,beq_iff_eq] at h2
  exact⟨h1,h2⟩
 ·obtain⟨k,hk'⟩:=YT hx
  have h1:=congrArg (·[k]?) hcf
  simp only [List.getElem?_map,hk',Option.map_some,Option.some.injEq] at h1
  exact ZcA h1
structure QTs(X:Cx)(ifs:List Expr)(t:TT):Prop where
 h:PTs X ifs t
def Zdy(B:Blk X ts caps cs sc cl)(hi:QI X tg it wi)(hg:∀ s H fp,QG (blk X (ts ++ cs) sc cl s H fp) tg g)(he:∀ s H fp,QE (blk X (ts ++ cs) sc cl s H fp) elt te)(hc:X.calm=true:=by rfl)(hs:∀ x,foldedSetIterable it X.env x=pure x:=by intro _; rfl) :
  QE X (.ListComp elt [⟨tg,it,[],0⟩] sc pos) (JY ts.length caps wi g te):=⟨Zrj B hi.h (λs H fp=>(hg s H fp).h) (λs H fp=>(he s H fp).h) hc hs⟩
def Zhd{x:Str}{px spos:Pos}(i:Nat)(B:Blk X ts caps cs sc cl)(hi:QI X tg it wi)(hg:∀ s H fp,QG (blk X (ts ++ cs) sc cl s H fp) tg g)(he:∀ s H fp,QE (blk X (ts ++ cs) sc cl s H fp) elt te)(hx:QG X (.Name x px) (Zef i))
  (hsw:swapsWith (.ListComp elt [⟨tg,it,[],0⟩] sc pos) (some (.Name x px)) spos.line X.env=pure true:=by rfl) (hc:X.calm=true:=by rfl) (hs:∀ x,foldedSetIterable it X.env x=pure x:=by intro _; rfl) :
  QS X (.Assign [.Name x px] (.ListComp elt [⟨tg,it,[],0⟩] sc pos) spos) (ZmT (JY ts.length caps wi g te) (Zef i)):=⟨Zj3 i B hi.h (λs H fp=>(hg s H fp).h) (λs H fp=>(he s H fp).h) hx.h hsw hc hs⟩
end
section
variable {X:Cx}{a b c e:Expr}{ta tb tc te:TE}{pos:Pos}{st:Stmt}
theorem Ztf(ha:QE X a ta)(hb:QE X b tb)(hc:QE X c tc)(hm:lastMarks [CmpOp.LtE,CmpOp.Lt] [b,c]=false:=by with_unfolding_all rfl):QE X (.Compare a [.LtE,.Lt] [b,c] pos) (Zfu (rI0 λi j=>.bl (decide (i<=j))) (rI0 λi j=>.bl (decide (i < j))) ta tb tc):=⟨Zm3 Zri ZqP ha.h hb.h hc.h hm⟩
def ZhG{x:Str}{i:Int}{tk:Tok}(hg:Gl X x)(hm:X.mg x=some (.int i tk))(hd:(x == ("__debug__":Str))=false:=by decide):QE X (.Name x pos) (tC (.int i)):=⟨ZhN hg hm ⟨_,rfl⟩ hd⟩
end
variable {g:TG}{te:TE}
def Zoe{lo:Int}{n nt:Nat}{cp:St}{tt:TT}{H1:Hp}{Q:VK}(Pv:Addr->Nat->List V->Hp->Prop)(h0:∀ acc H2,H1 acc=none->Zn H1 H2->H2 acc=some (.lst [])->Pv acc 0 [] H2)
  (hl:∀ acc i ys H,Pv acc i ys H->H acc=some (.lst ys)/\ys.length < 1000000)
  (hs:∀ acc i ys H os,H1 acc=none->i < n->Pv acc i ys H->os.length=nt->g (.int (lo + (i:Nat))) (os ++ cp) H λτ H3=>∃ os',os'.length=nt/\τ=os' ++ cp/\tt τ H3 λb H4=>if b=true then te τ H4 λv H5=>H5 acc=some (.lst ys)/\Pv acc (i + 1) (ys ++ [v]) (upd H5 acc (.lst (ys ++ [v]))) else Pv acc (i + 1) ys H4)
  (hd:∀ acc ys H,H1 acc=none->Pv acc n ys H->Q (.ref acc) H):ZhZ nt cp (Itr lo n) g tt te H1 Q:=by
 intro acc H2 hn sm e
 refine⟨λi m ys H=>m=n - i/\i<=n/\Pv acc i ys H,⟨n,by simp,Nat.zero_le _,h0 acc H2 hn sm e⟩,?_⟩
 rintro i m ys H ⟨rfl,hi,p⟩
 obtain⟨q1,q2⟩:=hl acc i ys H p
 refine⟨q1,?_⟩
 by_cases hlt:i < n
 ·refine .inr ⟨hlt,q2,Pv acc (i + 1),λys' H' p'=>⟨n - (i + 1),by omega,rfl,hlt,p'⟩,λos x H' ol y=>?_⟩
  obtain⟨rfl,rfl⟩:=y
  exact hs acc i ys _ os hn hlt p ol
 ·have e:i=n:=by omega
  subst e
  exact .inl ⟨Yd _,hd _ _ _ hn p⟩
def Zle{lo:Int}{n nt:Nat}{cp:St}{H1:Hp}{Q:VK}(Pv:Addr->Nat->List V->Hp->Prop)(h0:∀ acc H2,H1 acc=none->Zn H1 H2->H2 acc=some (.lst [])->Pv acc 0 [] H2)
  (hl:∀ acc i ys H,Pv acc i ys H->H acc=some (.lst ys)/\ys.length < 1000000)
  (hs:∀ acc i ys H os,H1 acc=none->i < n->Pv acc i ys H->os.length=nt->g (.int (lo + (i:Nat))) (os ++ cp) H λτ H3=>∃ os',os'.length=nt/\τ=os' ++ cp/\te τ H3 λv H4=>H4 acc=some (.lst ys)/\Pv acc (i + 1) (ys ++ [v]) (upd H4 acc (.lst (ys ++ [v]))))
  (hd:∀ acc ys H,H1 acc=none->Pv acc n ys H->Q (.ref acc) H):ZpV nt cp (Itr lo n) g te H1 Q:=by
 refine Zoe (tt:=Zrv) Pv h0 hl (λacc i ys H os a b c d=>?_) hd
 have h:=hs acc i ys H os a b c d
 have e:(λτ H3=>∃ os',os'.length=nt/\τ=os' ++ cp/\Zrv τ H3 λb H4=>if b=true then te τ H4 λv H5=>H5 acc=some (.lst ys)/\Pv acc (i + 1) (ys ++ [v]) (upd H5 acc (.lst (ys ++ [v]))) else Pv acc (i + 1) ys H4) =
   (λτ H3=>∃ os',os'.length=nt/\τ=os' ++ cp/\te τ H3 λv H4=>H4 acc=some (.lst ys)/\Pv acc (i + 1) (ys ++ [v]) (upd H4 acc (.lst (ys ++ [v])))):=by
  funext τ H3
  simp only [Zrv,if_true]
 rw [e]
 exact h
def ZtV(lo:Int)(n:Nat)(g:TG)(tb:TS)(D:Ends)(σ:St):Hp->Prop:=λH1=>∃ W:Nat->Nat->St->Hp->Prop,(∃ m,W 0 m σ H1)/\∀ i m σ H,W i m σ H ->
 ((Itr lo n).stop i H/\D.nx σ H)\/((Itr lo n).go i H/\∃ N:St->Hp->Prop,(∀ σ' H',N σ' H'->∃ m',m' < m/\W (i + 1) m' σ' H')/\∀ x H',(Itr lo n).yld i H x H'->g x σ H' λσ2 H2=>tb { D with nx:=N,ct:=N,bk:=D.nx } σ2 H2)
theorem Ze4{ta:TA}{tb:TS}{D:Ends}{σ:St}:Zrr (Zk1 ta) g tb D σ H=ta σ H λvs H1=>∃ j:Int,vs=[.int j]/\-(2 ^ 62)<=j/\j < 2 ^ 62/\ZtV 0 j.toNat g tb D σ H1:=rfl
def Zg2{ta:TA}{tb:TS}{D:Ends}{σ:St}:Zrr (Zqt ta) g tb D σ H=ta σ H λvs H1=>∃ i j:Int,vs=[.int i,.int j]/\(-(2 ^ 62)<=i/\i < 2 ^ 62/\-(2 ^ 62)<=j/\j < 2 ^ 62)/\ZtV i (j - i).toNat g tb D σ H1:=rfl
def ZeQ{lo:Int}{n:Nat}{tb:TS}{D:Ends}{σ:St}(Pv:Nat->St->Hp->Prop)(h0:Pv 0 σ H)(hs:∀ i σ H,i < n->Pv i σ H->g (.int (lo + (i:Nat))) σ H λσ2 H2=>tb { D with nx:=Pv (i + 1),ct:=Pv (i + 1),bk:=D.nx } σ2 H2)
  (hd:∀ σ H,Pv n σ H->D.nx σ H):ZtV lo n g tb D σ H:=by
 refine⟨λi m σ H=>m=n - i/\i<=n/\Pv i σ H,⟨n,by simp,Nat.zero_le _,h0⟩,?_⟩
 rintro i m σ H ⟨rfl,hi,p⟩
 by_cases hlt:i < n
 ·refine .inr ⟨hlt,Pv (i + 1),λσ' H' p'=>⟨n - (i + 1),by omega,rfl,hlt,p'⟩,λx H' y=>?_⟩
  obtain⟨rfl,rfl⟩:=y
  exact hs i σ _ hlt p
 ·have e:i=n:=by omega
  subst e
  exact .inl ⟨Yd _,hd _ _ p⟩
def Zs5(K:PySem.W.Frag)(g:TG)(tb:TS)(D:Ends)(σ:St):V->Hp->Prop:=λx H1=>∃ a,x=.ref a/\(∃ xs,JP K H1 a xs)/\∃ W:Nat->Nat->St->Hp->Prop,(∃ m,W 0 m σ H1)/\∀ i m σ H,W i m σ H ->
 ((Itl K a).stop i H/\D.nx σ H)\/((Itl K a).go i H/\∃ N:St->Hp->Prop,(∀ σ' H',N σ' H'->∃ m',m' < m/\W (i + 1) m' σ' H')/\∀ x H',(Itl K a).yld i H x H'->g x σ H' λσ2 H2=>tb { D with nx:=N,ct:=N,bk:=D.nx } σ2 H2)
theorem ZmB{tb:TS}{D:Ends}{σ:St}:Zrr (Zfo K te) g tb D σ H=te σ H (Zs5 K g tb D σ):=rfl
def ZnW{a:Addr}{xs:List V}{tb:TS}{D:Ends}{σ:St}(Pv:Nat->St->Hp->Prop)(h0:Pv 0 σ H)(hl:∀ i σ H,i<=xs.length->Pv i σ H->JP K H a xs)
  (hs:∀ i x σ H,xs[i]?=some x->Pv i σ H->g x σ H λσ2 H2=>tb { D with nx:=Pv (i + 1),ct:=Pv (i + 1),bk:=D.nx } σ2 H2) (hd:∀ σ H,Pv xs.length σ H->D.nx σ H):Zs5 K g tb D σ (.ref a) H :=
 ⟨a,rfl,⟨xs,hl 0 σ H (YC _) h0⟩,ZnL Pv h0 hl hs hd⟩
def ZuU(K:PySem.W.Frag)(g:TG)(tb:TS)(D:Ends)(σ:St):V->Hp->Prop:=λx H1=>∃ a,x=.ref a/\(∃ xs,SqT K H1 a xs)/\∃ W:Nat->Nat->St->Hp->Prop,(∃ m,W 0 m σ H1)/\∀ i m σ H,W i m σ H ->
 ((Itt K a).stop i H/\D.nx σ H)\/((Itt K a).go i H/\∃ N:St->Hp->Prop,(∀ σ' H',N σ' H'->∃ m',m' < m/\W (i + 1) m' σ' H')/\∀ x H',(Itt K a).yld i H x H'->g x σ H' λσ2 H2=>tb { D with nx:=N,ct:=N,bk:=D.nx } σ2 H2)
def Zn7{tb:TS}{D:Ends}{σ:St}:Zrr (Zuz K te) g tb D σ H=te σ H (ZuU K g tb D σ):=rfl
def Zqa{a:Addr}{xs:List V}{tb:TS}{D:Ends}{σ:St}(Pv:Nat->St->Hp->Prop)(h0:Pv 0 σ H)(hl:∀ i σ H,i<=xs.length->Pv i σ H->SqT K H a xs)
  (hs:∀ i x σ H,xs[i]?=some x->Pv i σ H->g x σ H λσ2 H2=>tb { D with nx:=Pv (i + 1),ct:=Pv (i + 1),bk:=D.nx } σ2 H2) (hd:∀ σ H,Pv xs.length σ H->D.nx σ H):ZuU K g tb D σ (.ref a) H:=by
 refine⟨a,rfl,⟨xs,hl 0 σ H (Nat.zero_le _) h0⟩,λi m σ H=>m=xs.length - i/\i<=xs.length/\Pv i σ H,⟨xs.length,by simp,Nat.zero_le _,h0⟩,?_⟩
 rintro i m σ H ⟨rfl,hi,p⟩
 have q:=hl i σ H hi p
 by_cases hlt:i < xs.length
 ·refine .inr ⟨⟨xs,xs[i],q,by simp [hlt]⟩,Pv (i + 1),λσ' H' p'=>⟨xs.length - (i + 1),by omega,rfl,hlt,p'⟩,λx H' y=>?_⟩
  obtain⟨rfl,hy⟩:=y
  exact hs i x σ _ (hy xs q) p
 ·have e:i=xs.length:=by omega
  subst e
  exact .inl ⟨⟨xs,q,Yd _⟩,hd _ _ p⟩
structure Mth(P:Program)(w:World)(K:PySem.W.Frag)(mg:Str->Option Value)(base:Heap)(CX:CXT)(k:Nat)(C:Addr)(m:Str)(ps:List Str)(sp:Sp):Prop where
 ex:∃ (f:Addr) (fd:FuncData),FnOk P w K mg base CX k f fd ps sp/\ZA K fd ps []/\Meth K C m f/\Cls K C
structure Mkr(P:Program)(w:World)(K:PySem.W.Frag)(mg:Str->Option Value)(base:Heap)(CX:CXT)(k:Nat)(C:Addr)(x:Str)(ps:List Str)(sp:Sp):Prop where
 ex:∃ (f:Addr) (fd:FuncData),FnOk P w K mg base CX k f fd ps sp/\ZA K fd ps []/\Mk K C f/\mg x=some (.ref C)
section
variable {X:Cx}{CX:CXT}{j k:Nat}{C:Addr}{x m fl:Str}{ps:List Str}{sp:Sp}{p pos apos:Pos}{e o value:Expr}{es:List Expr}{t:TA}{ta tv:TE}{E:XK}
def ZZ{pl:Sem Bool}(F:Mth X.prog X.w X.K X.mg X.base Zx j C m ps sp)(hr:Room k X.A)(hj:j<=k)(ho:QE X o ta)(ha:QA X (e :: es) t)(hp:(e :: es).all ZF=true:=by rfl)
  (ht:eval (.Call (.Attribute o m apos) (e :: es) [] pos) X.env=(do
   let ov <- eval o X.env
   standAt apos.atName
   let (f,first) <- holding [ov] (getMethod ov m pl)
   callWith pos f first (backTo pos (starEach (e :: es) X.env)) (backToKw pos (keywordEach [] X.env))):=by rfl) :
  QE X (.Call (.Attribute o m apos) (e :: es) [] pos) (Zii C m sp [] E0 ta t):=by
 obtain⟨f,fd,G,b,hm,c⟩:=F.ex
 exact⟨ZpZ ho.h c hm G (hr.mono hj) b .nil ZmZ ha.h (ZG (Jc hp).1) (Zdp (Jc hp).2) ht⟩
def Zcq{pl:Sem Bool}(F:Mth X.prog X.w X.K X.mg X.base Zx j C m ps sp)(hr:Room k X.A)(hj:j<=k)(ho:QE X o ta)
  (ht:eval (.Call (.Attribute o m apos) [] [] pos) X.env=(do
   let ov <- eval o X.env
   standAt apos.atName
   let (f,first) <- holding [ov] (getMethod ov m pl)
   callWith pos f first (backTo pos (starEach [] X.env)) (backToKw pos (keywordEach [] X.env))):=by rfl) :
  QE X (.Call (.Attribute o m apos) [] [] pos) (Zii C m sp [] E0 ta Zpg):=by
 obtain⟨f,fd,G,b,hm,c⟩:=F.ex
 exact⟨Zjc ho.h c hm G (hr.mono hj) b .nil ZmZ ht⟩
def ZfP(F:Mkr X.prog X.w X.K X.mg X.base Zx j C x ps sp)(hr:Room (k + 1) X.A)(hj:j<=k)(hg:Gl X x)(ha:QA X (e :: es) t)(hp:(e :: es).all ZF=true:=by rfl)(hdb:(x == ("__debug__":Str))=false:=by decide) :
  QE X (.Call (.Name x p) (e :: es) [] pos) (ZmD C sp [] E0 t):=by
 obtain⟨f,fd,G,b,M,hm⟩:=F.ex
 exact⟨ZpR M (G.mono hj) hr hg hm b .nil ZmZ ha.h hdb (ZG (Jc hp).1) (Zdp (Jc hp).2)⟩
def Z2(ho:QE X e ta)(hb:attributeBase e fl X.env (eval e X.env)=eval e X.env:=by rfl):QE X (.Attribute e fl pos) (ZtB X.K ta fl):=⟨Zsy ho.h hb⟩
def Zfn{pos':Pos}(ho:QE X o ta)(hv:QE X value tv)(hs:swapsWith value (some (.Attribute o fl pos')) pos.line X.env=pure false:=by rfl):QS X (.Assign [.Attribute o fl pos'] value pos) (Ztz X.K ta tv fl):=⟨Zsx ho.h hv.h hs⟩
def Zli(C:Addr)(m:Str)(sp:Sp)(ta:TE)(t:TA):TEX:=λσ H Q EX=>ta σ H λx H1=>∃ a dx fs,x=.ref a/\H1 a=some (.ins C dx fs)/\fs.lookup m=none/\t σ H1 λvs H2=>sp (x :: vs) H2 Q EX
def Zsf{pl:Sem Bool}(b:Body X)(F:Mth X.prog X.w X.K X.mg X.base (CX1 X.prog X.w) j C m ps sp)(hr:Room k X.A)(hj:j<=k)(ho:QE X.nox o ta)(ha:QA X.nox (e :: es) t)(hp:(e :: es).all ZF=true:=by rfl)
  (ht:eval (.Call (.Attribute o m apos) (e :: es) [] pos) X.env=(do
   let ov <- eval o X.env
   standAt apos.atName
   let (f,first) <- holding [ov] (getMethod ov m pl)
   callWith pos f first (backTo pos (starEach (e :: es) X.env)) (backToKw pos (keywordEach [] X.env))):=by rfl) :
  QX X (.Call (.Attribute o m apos) (e :: es) [] pos) (Zli C m sp ta t):=by
 obtain⟨f,fd,G,bd,hm,c⟩:=F.ex
 have G':FnOk X.prog X.w X.K X.mg X.base (CX1 X.prog X.w) k f fd ps sp:=G.mono hj
 refine⟨?_⟩
 intro pins s σ H Q EX I h
 refine methodCall_KW (pl:=pl) (Yk (ho.h pins s σ H _ (I.wish _) h) (λu s1 ⟨x,H1,I1,rx,a,dx,fs,ex,ea,l,q⟩=>?_) λ_ _ z=>z.elim) ht
 subst ex
 obtain rfl:u=Value.ref a:=rx
 refine ZdL I1.unwish ea c hm l ?_
 refine callWith_K (first:=[.ref a]) (h₀:=X.base) I.ok.mod.kin hm.kp (Yk (ha.h pos pins s1 σ H1 _ I1 q) (λus s2 ⟨vs,H2,I2,r,q2⟩=>⟨I2.kIn,?_⟩) λ_ _ z=>z.elim) (ZG (Jc hp).1) (Zdp (Jc hp).2)
 exact ZuZ (us:=.ref a :: us) (vs:=.ref a :: vs) b G' hr bd .nil I2.unwish (.cons rfl r) (by rw [Vs]; exact q2)
end
def Zll(B:Heap)(l:List Env)(e:Addr)(cls a0:Value)(h:Heap):Prop:=B.StaysIn h/\B.get? e=none/\h.FunFrames B l/\∃ fl,h.TracedAtW B e cls a0 fl
section
variable {M:Model}{A:Around}{E:VSP}{s:Shared}{B:Heap}{env:Env}{outer:List Env}{L e:Addr}{cls a0:Value}
def Zll.but{l:List Env}{h h':Heap}{C:Addr}{m:Str->Option Value}(x:Zll B l e cls a0 h)(hn:h.Ns C m)(sb:Heap.SameBut C h h')(hB:B.get? C=none)(hl:C ∉ l.filterMap (·.frame)):Zll B l e cls a0 h':=by
 obtain⟨hkb,hen,hfr,fl,oe,vs,T,oT,ts,he,hcls,hd,h1,hnT,hTe,hT,hdT,h3⟩:=x
 obtain⟨oC,es,ep,hC,hdC,_⟩:=hn
 have e2:∀ b,b ≠ C->h'.get? b=h.get? b:=sb.2
 have ne:∀ b ob ws,h.get? b=some ob->ob.data=.fields ws->b ≠ C:=λb ob ws g1 g2 z=>by
  rw [z,hC] at g1
  cases g1
  rw [hdC] at g2
  cases g2
 have frm:∀ {l:List Env},h.FunFrames B l->C ∉ l.filterMap (·.frame)->h'.FunFrames B l:=by
  intro l
  induction l with
  | nil=>exact λ_ _=>trivial
  | cons env Jf ih =>
   rintro⟨hk,⟨L,o,hf,hn,ho,hd⟩,hr⟩ hc
   rw [List.filterMap_cons,hf] at hc
   have hc':C ≠ L/\C ∉ Jf.filterMap (·.frame):=by simpa using hc
   exact⟨hk,⟨L,o,hf,hn,(e2 L (Ne.symm hc'.1)).trans ho,hd⟩,ih hr hc'.2⟩
 refine⟨λb o q=>(e2 b λz=>by rw [z,hB] at q; cases q).trans (hkb b o q),hen,frm hfr hl,fl,oe,vs,T,oT,ts,(e2 e (ne e oe vs he hd)).trans he,hcls,hd,h1,hnT,hTe,(e2 T (ne T oT ts hT hdT)).trans hT,hdT,h3⟩
end
section
variable {X:Cx}{E:XK}{pins:List (Addr × Obj)}{σ:St}{H:Hp}{s:Shared}
variable {ts cs:List Str}{caps:List Nat}{sc:Scope}{cl:List (Str × Addr)}{fp:List Addr}
end
section
variable {X:Cx}{E:XK}{j k:Nat}{x:Str}{ps:List Str}{sp:Sp}{p pos:Pos}{e elt tg it:Expr}{es:List Expr}{t:TA}{ts cs:List Str}{caps:List Nat}{sc:Scope}{cl:List (Str × Addr)}{wi:TI}{g:TG}{te:TE}
end
def Zmh(K:PySem.W.Frag)(D:Addr)(th:Addr->TS)(En:Ends)(σ:St):XK:=λc _ H'=>∃ C,c=.ref C/\exmOne K (.ref C) (.ref D)=some true/\∀ ea,th ea { nx:=En.nx,rt:=En.rt,bk:=En.bk,ct:=En.ct } σ H'
def Zsn(K:PySem.W.Frag)(tb:TSX)(D:Addr)(th:Addr->TS):TS:=λEn σ H=>tb En (Zmh K D th En) σ H
section
variable {X:Cx}{body:List Stmt}{x:Str}{np hpos pos:Pos}{b₀:Stmt}{suite:List Stmt}{tb:TSX}{th:Addr->TS}{D:Addr}
end
def ZpC(C:Addr)(sp:Sp)(t:TA):TEX:=λσ H Q EX=>t σ H λvs H1=>∀ x dx,H1 x=none->H1 dx=none->dx ≠ x->sp (.ref x :: vs) (upd (upd H1 dx (.own x)) x (.ins C dx [])) (λv H2=>v=.non/\Q (.ref x) H2) EX
section
variable {X:Cx}{j k:Nat}{C:Addr}{x:Str}{ps:List Str}{sp:Sp}{p pos:Pos}{e:Expr}{es:List Expr}{t:TA}
end
section
variable {X:Cx}{e:Expr}{te:TE}{p1 p2 p3 pos:Pos}{c1 c2:Str}{k1 k2:Nat}
def tFs(te:TE):TE:=λσ H Q=>te σ H λx H1=>∃ i:Int,x=.int i/\i.natAbs < 2 ^ 30/\∀ z,Q (.str z) H1
end
section
variable {X:Cx}{e:Expr}{t:TA}{p pos:Pos}
end
section
variable {X:Cx}{pins:List (Addr × Obj)}{σ:St}{H:Hp}{s:Shared}
def EqD.neAt(I:Inv X pins σ H s){x y:V}{b:Bool}{n:Nat}(h:EqD H x y b n):∀ {A:Around}{u v:Value},ZH x u->ZH y v->A.units + n < cLine->(∃ a c,x=.ref a/\y=.ref c)->SeqAt.RcNeAt A s u v (!b):=by
 induction h with
 | flat fx fy =>
  rintro A u v r1 r2 _ ⟨a,c,rfl,_⟩
  cases fx
 | up h ih =>
  intro A u v r1 r2 hu w
  exact ih r1 r2 (by omega) w
 | @tup a b xs ys e n ha hb h ih =>
  intro A u v r1 r2 hu _
  cases r1
  cases r2
  obtain⟨its,v1,t1,_⟩:=I.tuple (SqT.of ha)
  obtain⟨jts,v2,t2,_⟩:=I.tuple (SqT.of hb)
  have z:=SeqAt.RcNeAt.tuples (A:=A) (s:=s) (e:=e) t1 t2 (by omega) λj h1 h2=>by
   have k1:j < xs.length:=by rw [v1.length]; simpa using h1
   have k2:j < ys.length:=by rw [v2.length]; simpa using h2
   obtain⟨u1,q1,w1⟩:=v1.get (Yb k1)
   obtain⟨u2,q2,w2⟩:=v2.get (Yb k2)
   have g1:its.toArray[j]=u1:=by
    have:=Yf.mp q1
    obtain⟨hh,this⟩:=this
    simpa using this
   have g2:jts.toArray[j]=u2:=by
    have:=Yf.mp q2
    obtain⟨hh,this⟩:=this
    simpa using this
   rw [g1,g2]
   exact ((h j _ _ (Yb k1) (Yb k2)).at I w1 w2 (by show A.units + 1 + n < cLine; omega)).1
  simpa [v1.length,v2.length] using z
 | @lst a b xs ys e n ha hb hl h ih =>
  intro A u v r1 r2 hu _
  cases r1
  cases r2
  obtain⟨its,v1,t1,_⟩:=I.list (JP.of ha)
  obtain⟨jts,v2,t2,_⟩:=I.list (JP.of hb)
  have z:=SeqAt.RcNeAt.lists (A:=A) (s:=s) (e:=e) t1.isList t2.isList (by simp [<- v1.length,<- v2.length,hl]) (by omega) λj h1 h2=>by
   have k1:j < xs.length:=by rw [v1.length]; simpa using h1
   have k2:j < ys.length:=by rw [v2.length]; simpa using h2
   obtain⟨u1,q1,w1⟩:=v1.get (Yb k1)
   obtain⟨u2,q2,w2⟩:=v2.get (Yb k2)
   have g1:its.toArray[j]=u1:=by
    have:=Yf.mp q1
    obtain⟨hh,this⟩:=this
    simpa using this
   have g2:jts.toArray[j]=u2:=by
    have:=Yf.mp q2
    obtain⟨hh,this⟩:=this
    simpa using this
   rw [g1,g2]
   exact ((h j _ _ (Yb k1) (Yb k2)).at I w1 w2 (by show A.units + 1 + n < cLine; omega)).1
  simpa [v1.length,v2.length] using z
 | @lstNe a b xs ys n ha hb hl =>
  intro A u v r1 r2 hu _
  cases r1
  cases r2
  obtain⟨its,v1,t1,_⟩:=I.list (JP.of ha)
  obtain⟨jts,v2,t2,_⟩:=I.list (JP.of hb)
  exact SeqAt.RcNeAt.lists_lengths t1.isList t2.isList (by simp [<- v1.length,<- v2.length]; exact hl) (by omega)
end
section
variable {X:Cx}{a b:Expr}{ta tb:TE}{pos:Pos}{k:Nat}
def Zt2:R2:=λx y H Q=>∃ t n p c,x=.ref p/\y=.ref c/\EqD H x y t n/\n<=60/\Q (.bl (!t)) H
def Zpq(hr:Room k X.A):OpR X (compareOp .NotEq) Zt2:=by
 intro pins s σ H x y v u Q I rx ry h
 obtain⟨t,n,p,c,e1,e2,h,hn,q⟩:=h
 have hu:=hr.units
 exact (h.neAt I rx ry (by omega) ⟨p,c,e1,e2⟩) _ _ _ _ ⟨.bl (!t),H,I,rfl,q⟩
def ZuD(hr:Room k X.A)(ha:QE X a ta)(hb:QE X b tb):QE X (.Compare a [.NotEq] [b] pos) (JQ Zt2 ta tb):=⟨ZdN (Zpq hr) ha.h hb.h (Zb1 _)⟩
def Ztk(hr:Room k X.A)(ha:QE X a ta)(hb:QE X b tb):QT X (.Compare a [.NotEq] [b] pos) (Jt (JQ Zt2 ta tb)):=⟨Zcr (Zpq hr) ha.h hb.h (Zb1 _)⟩
end
section
variable {X:Cx}{o e:Expr}{es:List Expr}{to:TE}{t:TA}{name:Str}{apos cpos:Pos}{id:String}{r:V->List V->Hp->VK->Prop}
def ZtG(r:V->List V->Hp->VK->Prop)(to:TE):TE:=λσ H Q=>to σ H λx H1=>r x [] H1 Q
def tLm(r:V->List V->Hp->VK->Prop)(to:TE)(t:TA):TE:=λσ H Q=>to σ H λx H1=>∃ l zs,x=.ref l/\H1 l=some (.lst zs)/\t σ H1 λvs H2=>r x vs H2 Q
def ZrE(slot:Slot "list" name id)(hty:typeOf (.builtin id)=pure (.type "method_descriptor"))(hm:MtM X id r)(hr:∀ x H Q,r x [] H Q->∃ l zs,x=.ref l/\H l=some (.lst zs))(ho:PE X o to)
  (hbase:attributeBase o name X.env (eval o X.env)=eval o X.env:=by rfl) (hline:(apos.endLine == cpos.line)=true:=by rfl):PE X (.Call (.Attribute o name apos) [] [] cpos) (ZtG r to):=by
 intro pins s σ H Q I h
 refine wpAny_Call_method0_late hbase hline (Z0 (ho pins s σ H _ I h) λv s1 ⟨x,H1,I1,r1,q1⟩=>?_)
 obtain⟨l,zs,e1,e2⟩:=hr _ _ _ q1
 obtain⟨h1,h2⟩:=Zpa (T:="list") I1 r1 (by rw [e1]; exact .inl ⟨rfl,zs,JP.of e2⟩)
 exact⟨"list",id,PySem.F.plainAttrs_list,slot,hty,h1,h2,YX rfl (PySem.evalArgs_none (hm pins s1 σ H1 x [] v [] Q I1 r1 .nil q1))⟩
def Zpm(ho:QE X o to)(hbase:attributeBase o "pop" X.env (eval o X.env)=eval o X.env:=by rfl)(hline:(apos.endLine == cpos.line)=true:=by rfl):QE X (.Call (.Attribute o "pop" apos) [] [] cpos) (ZtG Ztu to) :=
 ⟨ZrE PySem.F.slot_list_pop PySem.F.type_list_pop ZsA (λ_ _ _ ⟨l,zs,_,h1,_,h2,_⟩=>⟨l,zs,h1,h2⟩) ho.h hbase hline⟩
end
def ZsZ{P:Program}{w:World}{k:Z7}{u:Value}(h:(ZU P w).is k u=true):ZH (kV k) u:=by
 rcases ZaD h with ⟨i,t,rfl,rfl⟩ | ⟨x,t,rfl,rfl⟩ <;> exact⟨t,rfl⟩
section
variable {X:Cx}{pins:List (Addr × Obj)}{σ:St}{H:Hp}{s:Shared}{a:Addr}{kvs:List (Z7 × V)}
end
def Zo2{kvs:List (Z7 × V)}{vs:List (Z7 × Value)}(r:KV kvs vs){i:Nat}(hi:i < kvs.length):∃ kv v,kvs[i]?=some kv/\vs[i]?=some (kv.1,v):=by
 have hl:i < vs.length:=by rw [<- r.length]; exact hi
 have hk:=congrArg (·[i]?) r.keys
 simp only [List.getElem?_map,List.getElem?_eq_getElem hi,List.getElem?_eq_getElem hl,Option.map_some,Option.some.injEq] at hk
 exact⟨kvs[i],vs[i].2,Yb hi,by rw [Yb hl,hk]⟩
section
variable {X:Cx}{tg l o i e value:Expr}{tl td ty tv:TE}{t:TA}{pos pos' p:Pos}
def tDG(td ty:TE):TE:=λσ H Q=>td σ H λx H1=>ty σ H1 λy H2=>∃ a kvs k v,x=.ref a/\Rd H2 a (.dK kvs)/\y=kV k/\Ji kvs k=some v/\Q v H2
def ZrR(hu:X.A.units + 1 < cLine)(ho:QE X o td)(hi:QE X i ty)(hs:ZuH i:=by intro _ _; rfl):QE X (.Subscript o i pos) (tDG td ty):=⟨by
 intro pins s σ H Q I h
 refine Zqr PySem.F.slot_dict_getitem.lookup hs (Z0 (ho.h pins s σ H _ I h) λu s1 ⟨x,H1,I1,rx,q1⟩=>Z0 (hi.h pins s1 σ H1 _ I1 q1) λiv s2 ⟨y,H2,I2,ry,a,kvs,k,v,ex,g,ey,hv,q2⟩=>?_)
 subst ex
 obtain rfl:u=Value.ref a:=rx
 have g':ZmQ H2 a y (some v):=.inl ⟨kvs,k,g,ey,hv.symm⟩
 exact⟨ZhS I2 g',ZlL hu I2 g' ry λw' s3 I3 rw'=>⟨v,H2,I3,rw',q2⟩⟩⟩
def sDP(td ty tv:TE):TS:=λD σ H=>tv σ H λv H1=>td σ H1 λx H2=>ty σ H2 λy H3=>∃ a kvs k,x=.ref a/\H3 a=some (.dK kvs)/\y=kV k/\kvs.length < 1000/\D.nx σ (upd H3 a (.dK (JL kvs k v)))
def Zo5(hu:X.A.units + 1 < cLine)(ho:QE X o td)(hi:QE X i ty)(hv:QE X value tv)(hs:swapsWith value (some (.Subscript o i pos')) pos.line X.env=pure false:=by rfl):QS X (.Assign [.Subscript o i pos'] value pos) (sDP td ty tv):=⟨by
 intro pins s σ H D I h
 refine wpAny_Assign_Subscript (Z0 (hv.h pins s σ H _ I h) λr s1 ⟨v,H1,I1,rv,q1⟩=>Z0 (ho.h pins s1 σ H1 _ I1 q1) λu s2 ⟨x,H2,I2,rx,q2⟩=>Z0 (hi.h pins s2 σ H2 _ I2 q2) λiv s3 ⟨y,H3,I3,ry,a,kvs,k,ex,g,ey,hl,q3⟩=>?_) hs
 subst ex ey
 obtain rfl:u=Value.ref a:=rx
 exact Zl5 hu I3 (Zrq.k g (ZhD (YF hl))) ry rv λs4 I4=>⟨σ,_,I4,q3⟩⟩
def tDI(neg:Bool)(ty td:TE):TE:=λσ H Q=>ty σ H λy H1=>td σ H1 λx H2=>∃ a kvs k,x=.ref a/\Rd H2 a (.dK kvs)/\y=kV k/\Q (.bl (if neg=true then !(Ji kvs k).isSome else (Ji kvs k).isSome)) H2
theorem Zsk(hu:X.A.units + 1 < cLine)(hi:PE X i ty)(ho:PE X o td):PC X .In i o (tDI false ty td):=by
 intro pins s σ H Q I h
 refine Z0 (hi pins s σ H _ I h) λiv s1 ⟨y,H1,I1,ry,q1⟩=>Z0 (ho pins s1 σ H1 _ I1 q1) λu s2 ⟨x,H2,I2,rx,a,kvs,k,ex,g,ey,q2⟩=>?_
 subst ex
 obtain rfl:u=Value.ref a:=rx
 exact Zu7 hu I2 (.inl ⟨kvs,k,g,ey,rfl⟩) ry λs3 I3=>⟨.bl _,H2,I3,rfl,by simpa using q2⟩
theorem Zp8(hu:X.A.units + 1 < cLine)(hi:PE X i ty)(ho:PE X o td):PC X .NotIn i o (tDI true ty td):=by
 intro pins s σ H Q I h
 refine Z0 (hi pins s σ H _ I h) λiv s1 ⟨y,H1,I1,ry,q1⟩=>Z0 (ho pins s1 σ H1 _ I1 q1) λu s2 ⟨x,H2,I2,rx,a,kvs,k,ex,g,ey,q2⟩=>?_
 subst ex
 obtain rfl:u=Value.ref a:=rx
 exact Zq4 hu I2 (.inl ⟨kvs,k,g,ey,rfl⟩) ry λs3 I3=>⟨.bl _,H2,I3,rfl,by simpa using q2⟩
theorem Zux(hu:X.A.units + 1 < cLine)(hi:QE X i ty)(ho:QE X o td)(hm:behindInMarks .In o=false:=by with_unfolding_all rfl):QT X (.Compare i [.In] [o] pos) (tB (tDI false ty td)):=⟨ZjT (Zsk hu hi.h ho.h) hm⟩
theorem Zsj(hu:X.A.units + 1 < cLine)(hi:QE X i ty)(ho:QE X o td)(hm:behindInMarks .NotIn o=false:=by with_unfolding_all rfl):QT X (.Compare i [.NotIn] [o] pos) (tB (tDI true ty td)):=⟨ZjT (Zp8 hu hi.h ho.h) hm⟩
def ZjR:QE X (.Dict [] [] pos) (λ_ H Q=>∀ p H2,H p=none->Zn H H2->H2 p=some (.dK [])->Q (.ref p) H2):=⟨λpins s σ H Q I h=>Znd pins s σ H Q I λp hp=>h p _ hp (ZS hp _) Zl⟩
def ZjZ:JC X (.builtin "len") (λxs H Q=>∃ a kvs,xs=[.ref a]/\Rd H a (.dK kvs)/\Q (.int kvs.length) H):=by
 intro pins s σ H xs us Q I r h
 obtain⟨a,kvs,rfl,e,q⟩:=h
 obtain⟨u,rfl,ru⟩:=JZ r
 cases ru
 exact Zuw I e λt s' I'=>⟨.int kvs.length,H,I',⟨t,rfl⟩,q⟩
def Zpn(hg:Gl X "len")(hm:X.mg "len"=none)(ha:QA X [e] t)(hp:ZF e=true:=by rfl):QE X (.Call (.Name "len" p) [e] [] pos) (tCB (λxs H Q=>∃ a kvs,xs=[.ref a]/\Rd H a (.dK kvs)/\Q (.int kvs.length) H) t) :=
 ⟨ZcN ZjZ hg hm PySem.boot_len ha.h (by decide) (by decide) (ZG hp) rfl⟩
def ZfM:List V->Hp->VK->Prop:=λxs H Q=>∃ a kvs,xs=[.ref a]/\Rd H a (.dK kvs)/\∀ p H2,H p=none->Zn H H2->H2 p=some (.dK kvs)->Q (.ref p) H2
def Zj2:JC X (.type "dict") ZfM:=by
 intro pins s σ H xs us Q I r h
 obtain⟨a,kvs,rfl,e,q⟩:=h
 obtain⟨u,rfl,ru⟩:=JZ r
 cases ru
 exact Zoc I e λp s' hp I'=>⟨.ref p,_,I',rfl,q p _ hp (ZS hp _) Zl⟩
def Zgv(hg:Gl X "dict")(hm:X.mg "dict"=none)(ha:QA X [e] t)(hp:ZF e=true:=by rfl):QE X (.Call (.Name "dict" p) [e] [] pos) (tCB ZfM t):=⟨ZeL Zj2 hg hm (by decide +kernel) ha.h (by decide) (by decide) (ZG hp) rfl⟩
end
def Zn0{a:Addr}{xs:List V}{nt:Nat}{cp:St}{tt:TT}{H1:Hp}{Q:VK}(Pv:Addr->Nat->List V->Hp->Prop)(h0:∀ acc H2,H1 acc=none->Zn H1 H2->H2 acc=some (.lst [])->Pv acc 0 [] H2)
  (hl:∀ acc i ys H,H1 acc=none->Pv acc i ys H->H acc=some (.lst ys)/\ys.length < 1000000/\JP K H a xs)
  (hs:∀ acc i x ys H os,H1 acc=none->xs[i]?=some x->Pv acc i ys H->os.length=nt->g x (os ++ cp) H λτ H3=>∃ os',os'.length=nt/\τ=os' ++ cp/\tt τ H3 λb H4=>if b=true then te τ H4 λv H5=>H5 acc=some (.lst ys)/\Pv acc (i + 1) (ys ++ [v]) (upd H5 acc (.lst (ys ++ [v]))) else Pv acc (i + 1) ys H4)
  (hd:∀ acc ys H,H1 acc=none->Pv acc xs.length ys H->Q (.ref acc) H):ZhZ nt cp (Itl K a) g tt te H1 Q:=by
 intro acc H2 hn sm e
 refine⟨λi m ys H=>m=xs.length - i/\i<=xs.length/\Pv acc i ys H,⟨xs.length,by simp,Nat.zero_le _,h0 acc H2 hn sm e⟩,?_⟩
 rintro i m ys H ⟨rfl,hi,p⟩
 obtain⟨q1,q2,q3⟩:=hl acc i ys H hn p
 refine⟨q1,?_⟩
 by_cases hlt:i < xs.length
 ·refine .inr ⟨⟨xs,xs[i],q3,by simp [hlt]⟩,q2,Pv acc (i + 1),λys' H' p'=>⟨xs.length - (i + 1),by omega,rfl,hlt,p'⟩,λos x H' ol y=>?_⟩
  obtain⟨rfl,hy⟩:=y
  exact hs acc i x ys _ os hn (hy xs q3) p ol
 ·have e:i=xs.length:=by omega
  subst e
  exact .inl ⟨⟨xs,q3,Yd _⟩,hd _ _ _ hn p⟩
def Itz(K:PySem.W.Frag)(a b:Addr):It :=
  ⟨λi H=>∃ xs ys x y,JP K H a xs/\JP K H b ys/\xs[i]?=some x/\ys[i]?=some y,λi H x H'=>∃ p u v,x=.ref p/\H p=none/\Zn H H'/\H' p=some (.tup [u,v])/\(∀ xs,JP K H a xs->xs[i]?=some u)/\∀ ys,JP K H b ys->ys[i]?=some v,
   λi H=>∃ xs ys,JP K H a xs/\JP K H b ys/\(xs.length<=i\/ys.length<=i)⟩
def ZmW{P:Program}{w:World}{es:List Expr}{x1}{pos:Pos}(a b z TI TO i1 i2:Addr)(D:ZipApart z TI TO i1 i2 a b) :
  Turn P w K (.Tuple es x1 pos) (Itz K a b) [z,TI,TO,i1,i2] z (λi h=>IsZip h z TI TO .none/\IsPair h TI (.ref i1) (.ref i2)/\(∃ u v,IsPair h TO u v)/\h.IsListIter i1 a i/\h.IsListIter i2 b i) where
 mem:=by simp
 obj:=λi h st c hc=>by
  obtain⟨hz,hTI,⟨u,v,hTO⟩,⟨o1,e1,c1,d1⟩,o2,e2,c2,d2⟩:=st
  simp only [List.mem_cons,List.not_mem_nil,or_false] at hc
  rcases hc with rfl | rfl | rfl | rfl | rfl
  ·exact⟨_,hz,λv z=>by cases z⟩
  ·exact⟨_,hTI,λv z=>by cases z⟩
  ·exact⟨_,hTO,λv z=>by cases z⟩
  ·exact⟨_,e1,λv z=>by rw [d1] at z; cases z⟩
  ·exact⟨_,e2,λv z=>by rw [d2] at z; cases z⟩
 keep:=λi h h' st k=>by
  obtain⟨hz,hTI,⟨u,v,hTO⟩,h1,h2⟩:=st
  exact⟨k z (by simp) _ hz,k TI (by simp) _ hTI,⟨u,v,k TO (by simp) _ hTO⟩,h1.at λo x=>k i1 (by simp) o x,h2.at λo x=>k i2 (by simp) o x⟩
 item:=by
  intro X hP hw hK hc i pins s σ H E I hf st hg
  subst hP hw hK
  obtain⟨hz,hTI,⟨u0,v0,hTO⟩,h1,h2⟩:=st
  obtain⟨xs,ys,x,y,hqa,hqb,hx,hy⟩:=hg
  obtain⟨its,rv,p,_⟩:=I.list hqa
  obtain⟨its2,rv2,p2,_⟩:=I.list hqb
  obtain⟨u,hu,ru⟩:=rv.get hx
  obtain⟨v,hv,rv'⟩:=rv2.get hy
  have hn:H s.heap.objs.size=none:=I.hok.fresh (Yd _)
  have lt:∀ c∈[z,TI,TO,i1,i2],c < s.heap.objs.size:=λc hc=>by
   obtain⟨o1,e1,_⟩:=h1
   obtain⟨o2,e2,_⟩:=h2
   simp only [List.mem_cons,List.not_mem_nil,or_false] at hc
   rcases hc with rfl | rfl | rfl | rfl | rfl
   ·exact Ye hz
   ·exact Ye hTI
   ·exact Ye hTO
   ·exact Ye e1
   ·exact Ye e2
  refine wpAny_pyNext_zip_item D hz hTI hTO h1 h2 p.isList p2.isList (x:=u) (y:=v) (by simpa using hu) (by simpa using hv) λh' a1 a2 a3 a4 a5 a6 kk=>?_
  refine⟨_,rfl,wpAny_letOwnedTupleGo_zip (s:={ s with heap:=h' }) a1 λh2' hz2 sb=>?_⟩
  have sb2:∀ c,c ≠ z->h2'.get? c=h'.get? c:=sb.2
  have nz:s.heap.objs.size ≠ z:=Nat.ne_of_gt (lt z (by simp))
  have kt:h2'.get? s.heap.objs.size=some { cls:=.type "tuple",data:=.seq #[u,v] }:=(sb2 _ nz).trans a5
  have I1:Inv X pins σ (upd H s.heap.objs.size (.tup [x,y])) { s with heap:=h2',toks:=s.toks }:=by
   refine Zip (ch:=[z,TI,TO,i1,i2]) I (λc o hb q=>?_) hf ?_
   ·simp only [List.mem_cons,List.not_mem_nil,or_false,not_or] at hb
    rw [sb2 c hb.1]
    exact kk c o hb.1 hb.2.2.1 hb.2.2.2.1 hb.2.2.2.2 q
   ·exact⟨by show 2<=sizeLine; decide,[u,v],.cons ru (.cons rv' .nil),⟨_,kt,rfl,_,rfl⟩⟩
  refine⟨.ref s.heap.objs.size,_,I1,rfl,⟨_,x,y,rfl,hn,ZS hn _,Zl,λzs hz=>by rw [I.list_inj hz hqa]; exact hx,λzs hz=>by rw [I.list_inj hz hqb]; exact hy⟩,⟨hz2,(sb2 _ D.TIz).trans (kk _ _ D.TIz D.TITO D.TIi1 D.TIi2 hTI),⟨u,v,(sb2 _ D.TOz).trans a2⟩,?_,?_⟩,λc hc=>?_⟩
  ·obtain⟨o,q,r⟩:=a3
   exact⟨o,(sb2 _ D.i1z).trans q,r⟩
  ·obtain⟨o,q,r⟩:=a4
   exact⟨o,(sb2 _ D.i2z).trans q,r⟩
  ·rw [Zj (Yn (lt c hc))]
   exact (hf c hc).1
 done:=by
  intro X hP hw hK hc i pins s σ H E I hf st hg
  subst hP hw hK
  obtain⟨hz,hTI,⟨u0,v0,hTO⟩,h1,h2⟩:=st
  obtain⟨xs,ys,hqa,hqb,he⟩:=hg
  obtain⟨its,rv,p,_⟩:=I.list hqa
  obtain⟨its2,rv2,p2,_⟩:=I.list hqb
  have l1:=rv.length
  have l2:=rv2.length
  refine wpAny_pyNext_zip_end (I.ok.hd hc) D hz hTI hTO h1 h2 p.isList p2.isList (he.imp (λz=>by simp; omega) λz=>by simp; omega) λh' eb=>⟨rfl,Zrn (t':=s.toks) (ch:=[z,TI,TO,i1,i2]) I (λc o hb q=>?_) hf⟩
  simp only [List.mem_cons,List.not_mem_nil,or_false,not_or] at hb
  exact eb c o hb.1 hb.2.2.1 hb.2.2.2.1 hb.2.2.2.2 q
 self:=λ_ _ _ _ _ st h=>wpAny_pyIter_zip st.1 h
def Zl7(n a b:Nat)(ha:a < n)(hb:b < n):ZipApart (n + 4) (n + 2) (n + 3) n (n + 1) a b:=by
 constructor <;> (intro z; have z':=Vh z; have z'':=Vh z.symm; omega)
def Zt3(K:PySem.W.Frag)(ta:TA):TI:=λσ H R=>ta σ H λvs H1=>∃ a b,vs=[.ref a,.ref b]/\(∃ xs,JP K H1 a xs)/\(∃ ys,JP K H1 b ys)/\R (Itz K a b) H1
def Znr:bootBuiltins "zip"=some (.type "zip"):=by decide +kernel
section
variable {X:Cx}{l m:Expr}{ta:TA}{p pos pos':Pos}{es:List Expr}
def Zte{x1}(hg:Gl X "zip")(hm:X.mg "zip"=none)(ha:PA X [l,m] ta)(hs:starEach [l,m] X.env=[(false,eval l X.env),(false,eval m X.env)]:=by rfl)(hs2:starEach [m] X.env=[(false,eval m X.env)]:=by rfl):PI X (.Tuple es x1 pos') (.Call (.Name "zip" p) [l,m] [] pos) (Zt3 X.K ta):=by
 intro pins s σ H R I h
 refine Call_ (Zfc I hg hm Znr (Vj (Z0 (ha pos pins s σ H _ I h) λus s1 ⟨vs,H1,I1,r1,q1⟩=>?_) (by rw [hs,hs2]) (by rw [hs2]; rfl)))
 obtain⟨a,b,e,⟨xs,hqa⟩,⟨ys,hqb⟩,q⟩:=q1
 subst e
 obtain⟨u,v,rfl,ru,rv⟩:=ZlS r1
 cases ru
 cases rv
 obtain⟨its,_,pl,_⟩:=I1.list hqa
 obtain⟨its2,_,pl2,_⟩:=I1.list hqb
 have la:a < s1.heap.objs.size:=by obtain⟨o,n,e,_⟩:=pl; exact Ye e
 have lb:b < s1.heap.objs.size:=by obtain⟨o,n,e,_⟩:=pl2; exact Ye e
 refine call_zip_2 pl.isList pl2.isList λh' hz hTI hTO g1 g2 hsz kk=>?_
 have I2:Inv X pins σ H1 { s1 with heap:=h' }:=I1.kept (t':=s1.toks) kk
 have D:=Zl7 _ _ _ la lb
 refine wpAny_pyIter_zip (s:={ s1 with heap:=h' }) hz ⟨_,[s1.heap.objs.size + 4,s1.heap.objs.size + 2,s1.heap.objs.size + 3,s1.heap.objs.size,s1.heap.objs.size + 1],_,_,H1,rfl,I2,ZmW a b _ _ _ _ _ D,⟨hz,hTI,⟨_,_,hTO⟩,g1,g2⟩,λc hc=>?_,q⟩
 have hb':s1.heap.objs.size<=c:=by
  simp only [List.mem_cons,List.not_mem_nil,or_false] at hc
  rcases hc with rfl | rfl | rfl | rfl | rfl
  ·exact Vp _ _
  ·exact Vp _ _
  ·exact Vp _ _
  ·exact Yd _
  ·exact Vp _ _
 exact I1.fpOk hb' (I1.hok.fresh hb')
def Zur{x1}(hg:Gl X "zip")(hm:X.mg "zip"=none)(ha:QA X [l,m] ta)(hp:ZF l=true:=by rfl)(hq:ZF m=true:=by rfl):QI X (.Tuple es x1 pos') (.Call (.Name "zip" p) [l,m] [] pos) (Zt3 X.K ta) :=
 ⟨Zte hg hm ha.h (by rw [ZG hp,ZG hq]; rfl) (ZG hq)⟩
end
theorem Zqp{a b:Addr}{xs zs:List V}{nt:Nat}{cp:St}{tt:TT}{H1:Hp}{Q:VK}(hxy:xs.length=zs.length)(Pv:Addr->Nat->List V->Hp->Prop)(h0:∀ acc H2,H1 acc=none->Zn H1 H2->H2 acc=some (.lst [])->Pv acc 0 [] H2)
  (hl:∀ acc i ys H,H1 acc=none->Pv acc i ys H->H acc=some (.lst ys)/\ys.length < 1000000/\JP K H a xs/\JP K H b zs)
  (hs:∀ acc i x z ys H os p H',H1 acc=none->xs[i]?=some x->zs[i]?=some z->Pv acc i ys H->os.length=nt->H p=none->Zn H H'->H' p=some (.tup [x,z])->g (.ref p) (os ++ cp) H' λτ H3=>∃ os',os'.length=nt/\τ=os' ++ cp/\tt τ H3 λb H4=>if b=true then te τ H4 λv H5=>H5 acc=some (.lst ys)/\Pv acc (i + 1) (ys ++ [v]) (upd H5 acc (.lst (ys ++ [v]))) else Pv acc (i + 1) ys H4)
  (hd:∀ acc ys H,H1 acc=none->Pv acc xs.length ys H->Q (.ref acc) H):ZhZ nt cp (Itz K a b) g tt te H1 Q:=by
 intro acc H2 hn sm e
 refine⟨λi m ys H=>m=xs.length - i/\i<=xs.length/\Pv acc i ys H,⟨xs.length,by simp,Nat.zero_le _,h0 acc H2 hn sm e⟩,?_⟩
 rintro i m ys H ⟨rfl,hi,p⟩
 obtain⟨q1,q2,q3,q4⟩:=hl acc i ys H hn p
 refine⟨q1,?_⟩
 by_cases hlt:i < xs.length
 ·have hlt2:i < zs.length:=by omega
  refine .inr ⟨⟨xs,zs,xs[i],zs[i],q3,q4,by simp [hlt],by simp [hlt2]⟩,q2,Pv acc (i + 1),λys' H' p'=>⟨xs.length - (i + 1),by omega,rfl,hlt,p'⟩,λos x H' ol y=>?_⟩
  obtain⟨c,u,v,rfl,hn',sm',e',hu,hv⟩:=y
  exact hs acc i u v ys _ os c H' hn (hu xs q3) (hv zs q4) p ol hn' sm' e'
 ·have e:i=xs.length:=by omega
  subst e
  exact .inl ⟨⟨xs,zs,q3,q4,.inl (Yd _)⟩,hd _ _ _ hn p⟩
end My
namespace My
open PySem PySem.Spec
open PyProof.Rows hiding St
def Zuu(l:List Nat):Prop:=l.Pairwise (· < ·)
theorem Zuu.at{l:List Nat}(h:Zuu l){i j:Nat}{x y:Nat}(hi:l[i]?=some x)(hj:l[j]?=some y)(hij:i < j):x < y:=by
 obtain⟨hi1,rfl⟩:=Yf.mp hi
 obtain⟨hj1,rfl⟩:=Yf.mp hj
 exact List.pairwise_iff_getElem.mp h i j hi1 hj1 hij
def TOk(b:Bool)(t:SetTable):Prop:=Zuu t.place.toList/\t.dummies=#[]/\t.led=b
section
variable {prog:Program}{w:World}{A:Around}{E:VSP}{s:Shared}
def byT(w:World):Bool:=w.params.followText "set-order"
def Zrs(e:Int × Value):Int:=match e.2 with
 | .int k _=>k
 | _=>0
def ZtQ(prog:Program)(w:World)(es:List (Int × Value)):Prop:=∀ e∈es,∃ (k:Int) (t:Tok),e.2=.int k t/\e.1=(intKind prog w).hash k
def ZtQ.is{es:List (Int × Value)}(h:ZtQ prog w es){e:Int × Value}(he:e∈es)(k:Int):(intKind prog w).is k e.2=true ↔ k=Zrs e:=by
 obtain⟨k',t,h1,h2⟩:=h e he
 have h3:Zrs e=k':=by unfold Zrs; rw [h1]
 rw [h1,KeyKind.is_eq_decide (intKind_is _ _ k' t) k,decide_eq_true_eq,h3]
def ZkF(prog:Program)(w:World)(h:Heap)(a:Addr)(S:Int->Prop)(n:Nat):Prop :=
 ∃ o es ep t,h.get? a=some o/\o.ExactSet/\o.data=.set es ep t/\TOk (!byT w) t/\t.fits es.size=true/\ZtQ prog w es.toList/\(es.toList.map Zrs).Nodup/\(∀ k,k∈es.toList.map Zrs ↔ S k)/\es.size<=n
theorem ZkF.keep{h h':Heap}{a:Addr}{S:Int->Prop}{n:Nat}(x:ZkF prog w h a S n)(hk:∀ o,h.get? a=some o->h'.get? a=some o):ZkF prog w h' a S n :=
 let ⟨o,es,ep,t,ho,r⟩:=x; ⟨o,es,ep,t,hk o ho,r⟩
theorem ZkF.lt{h:Heap}{a:Addr}{S:Int->Prop}{n:Nat}(x:ZkF prog w h a S n):a < h.objs.size:=let ⟨_,_,_,_,ho,_⟩:=x; Ye ho
end
section
variable {prog:Program}{w:World}{A:Around}{R:Result->Shared->Prop}{I:Addr}{fp wr:List Addr}{G:Array GenState->Array GenState->Prop}{P:Nat->Value->Prop}{St:Nat->Shared->Prop}
end
section
variable {prog:Program}{w:World}{A:Around}{E:VSP}{s:Shared}
abbrev ZoE(w:World):Obj:={ cls:=.type "set",dict:=none,data:=.set #[] 0 (.fresh 0 0 (!byT w)) }
theorem ZkF.fresh{h:Heap}{a:Addr}(e:h.get? a=some (ZoE w)):ZkF prog w h a (·∈([]:List Int)) 0 :=
 ⟨_,#[],0,_,e,⟨rfl,rfl,rfl⟩,rfl,⟨List.Pairwise.nil,rfl,rfl⟩,rfl,(λe he=>by simp at he),List.nodup_nil,λk=>by simp,Nat.le_refl _⟩
theorem ZkF.type{a:Addr}{S:Int->Prop}{n:Nat}(x:ZkF prog w s.heap a S n):s.TypeIs (.ref a) "set":=let ⟨o,_,_,_,ho,hex,_⟩:=x; ⟨o,ho,hex.1⟩
abbrev ZqI(c:Nat):Obj:={ cls:=.type "list",data:=.seq #[] c }
theorem Zfj{h:Heap}{a b:Addr}{o:Obj}{vs:List Value}{out:Array Value}(hb:b ≠ a)(e:h.get? b=some o):(sortedHeap h a vs out).get? b=some o:=by
 unfold sortedHeap
 exact (Vm _ _ (Ne.symm hb)).trans (Yi _ (Yi _ ((Vm _ _ (Ne.symm hb)).trans e)))
def Zha{h:Heap}{a:Addr}{vs:List Value}{n:Nat}{out:Array Value}(e:h.get? a=some (seqObj "list" vs.toArray n)):∃ c,(sortedHeap h a vs out).get? a=some { cls:=.type "list",dict:=none,data:=.seq out c,slots:=#[] }:=by
 unfold sortedHeap
 exact⟨_,get?_update_seq (Yi _ (Yi _ (get?_update_seq e λ_=>#[]))) λ_=>out⟩
end
end My
namespace My
open PySem PySem.Spec L2
open PyProof.Rows hiding St
def Zdh:∀ {ns:List Int}{us:List Value},ZB (ns.map V.int) us->IntsAre us ns
 | [],us,h=>by cases h; exact .nil
 | n :: ns,us,h=>by
  cases h with
  | cons h1 h2 =>
   obtain⟨t,rfl⟩:=h1
   exact .cons n t (Zdh h2)
section
variable {X:Cx}{e:Expr}{t:TA}{p p' pos pos':Pos}
theorem ZkF.few{prog:Program}{w:World}{h:Heap}{a:Addr}{S:Int->Prop}{n:Nat}(x:ZkF prog w h a S n)(hb:∀ k,S k->0<=k/\k < 60):ZkF prog w h a S 60:=by
 obtain⟨o,es,ep,t,ho,hex,hd,hT,hf,hA,hN,hM,hz⟩:=x
 refine⟨o,es,ep,t,ho,hex,hd,hT,hf,hA,hN,hM,?_⟩
 have hs:es.toList.map Zrs ⊆ (List.range 60).map λk:Nat=>(k:Int):=λk hk=>by
  obtain⟨h1,h2⟩:=hb k ((hM k).mp hk)
  exact Yo.mpr ⟨k.toNat,YI.mpr (by omega),by omega⟩
 have:=List.Nodup.length_le_of_subset hN hs
 simpa using this
def Zjm:List V->Hp->VK->Prop:=λxs H Q=>∃ (a:Addr) (ns:List Int),xs=[.ref a]/\H a=some (.lst (ns.map V.int))/\ns.length < 4000/\(∀ k∈ns,0<=k/\k < 60) /\
 ∀ l H2 (ks:List Int),H l=none->Zn H H2->H2 l=some (.lst (ks.map V.int))->ks.Pairwise (· < ·)->(∀ k,k∈ks ↔ k∈ns)->Q (.ref l) H2
end
section
variable {X:Cx}{a b o e:Expr}{es:List Expr}{ta tb to te:TE}{t:TA}{name:Str}{apos cpos pos p p2:Pos}{id:String}{r:V->List V->Hp->VK->Prop}
def Zun(ha:QE X a ta)(hb:QE X b tb)(hs:Ze9 b:=by intro _ _; rfl):QE X (.Subscript a b pos) (JQ Ztx ta tb):=⟨Zoa Zsg ha.h hb.h hs⟩
def ZrU:V->Option Int->Option Int->Hp->VK->Prop:=λx lo hi H Q=>∃ z,x=.str z/\z.length<=1000/\Q (.str (Txt.slice z lo hi)) H
def ZjH:Value->Option (Int × Tok)
 | .int i t=>some (i,t)
 | _=>none
def ZlQ{v:Value}{o:Option Int}(h:IsPart v o):partValue (ZjH v)=v/\(ZjH v).map (·.1)=o:=by
 cases h with
 | none=>exact⟨rfl,rfl⟩
 | int i t=>exact⟨rfl,rfl⟩
def Zsc:SlR X ZrU:=by
 intro pins s σ H x v vl vu lo hi sl Q I rx hs pl pu h
 obtain⟨z,rfl,hz,q⟩:=h
 obtain⟨t,rfl⟩:=rx
 obtain⟨e1,e2⟩:=ZlQ pl
 obtain⟨e3,e4⟩:=ZlQ pu
 obtain⟨os,g1,g2,g3⟩:=hs
 have hz2:z.length<=sizeLine:=Yj hz (by decide)
 refine⟨"str",_,F.slot_str_getitem.lookup,typeIs_str _ _ _,?_⟩
 refine wpAny_getItem_str_slice (l:=ZjH vl) (u:=ZjH vu) (st:=none) ⟨os,g1,g2,by rw [e1,e3]; exact g3⟩ rfl ?_
 subst e2
 subst e4
 exact post_val_or_str ⟨Yj (Txt.slice_le z _ _) hz2,λt' k=>⟨.str _,H,I.tok _,⟨_,rfl⟩,q⟩⟩
def tXm(r:V->List V->Hp->VK->Prop)(to:TE)(t:TA):TE:=λσ H Q=>to σ H λx H1=>∃ z,x=.str z/\t σ H1 λvs H2=>r x vs H2 Q
def Zqj(slot:Slot "str" name id)(hty:typeOf (.builtin id)=pure (.type "method_descriptor"))(hm:MtM X id r)(ho:PE X o to)(ha:PA X (e :: es) t)
  (hbase:attributeBase o name X.env (eval o X.env)=eval o X.env:=by rfl)
  (hfew:((backTo cpos (starEach (e :: es) X.env)).all (λx=>!x.1) && (backToKw cpos (keywordEach [] X.env)).all (λx=>x.1.isSome)
   && decide ((e :: es).length + ([]:List Keyword).length + (if ([]:List Keyword).isEmpty then 0 else 1) < 30))=true:=by rfl)
  (hline:(apos.endLine == cpos.line)=true:=by rfl) (hs:starEach (e :: es) X.env=(false,eval e X.env) :: starEach es X.env:=by rfl) (hplain:(backTo cpos (starEach es X.env)).any (·.1)=false:=by rfl) :
  PE X (.Call (.Attribute o name apos) (e :: es) [] cpos) (tXm r to t):=by
 intro pins s σ H Q I h
 refine wpAny_Call_method_late hbase hfew hline rfl (Z0 (ho pins s σ H _ I h) λv s1 ⟨x,H1,I1,r1,z,e1,q1⟩=>?_)
 subst e1
 obtain⟨tk,rfl⟩:=r1
 refine⟨"str",id,PySem.F.plainAttrs_str,slot,hty,typeIs_str _ _ _,(λ_ e=>nomatch e),?_⟩
 have hA:=ha cpos pins s1 σ H1 _ I1 q1
 rw [hs] at hA ⊢
 refine YX (by show (false || (backTo cpos (starEach es X.env)).any (·.1))=false; rw [hplain] <;> rfl) (Y6 ?_)
 exact Z0 hA λus s2 ⟨vs,H2,I2,r2,q2⟩=>hm pins s2 σ H2 (.str z) vs _ us Q I2 ⟨tk,rfl⟩ r2 q2
def ZsJ:V->List V->Hp->VK->Prop:=λx vs H Q=>∃ z y,x=.str z/\vs=[.str y]/\Q (.int (Txt.find z y)) H
theorem ZeT:∀ {ss:List Str}{us:List Value},ZB (ss.map V.str) us->StrsAre us ss
 | [],us,h=>by cases h; exact .nil
 | x :: ss,us,h=>by
  cases h with
  | cons h1 h2 =>
   obtain⟨t,rfl⟩:=h1
   exact .cons x t (ZeT h2)
theorem Zhi:∀ {ss:List Str}{us:List Value},StrsAre us ss->ZB (ss.map V.str) us
 | _,_,.nil=>.nil
 | _,_,.cons x t h=>.cons ⟨t,rfl⟩ (Zhi h)
def ZnX:V->List V->Hp->VK->Prop:=λx vs H Q=>∃ z a ss,x=.str z/\vs=[.ref a]/\H a=some (.lst (List.map V.str ss))/\z.length<=16/\(ss.map (·.length)).sum + ss.length<=1048576/\Q (.str (Txt.join z ss)) H
def ZqM:MtM X "str.join" ZnX:=by
 intro pins s σ H x vs v us Q I rx rv h
 obtain⟨z,a,ss,rfl,rfl,e,h1,h2,q⟩:=h
 obtain⟨t,rfl⟩:=rx
 obtain⟨u,rfl,ru⟩:=JZ rv
 cases ru
 obtain⟨_,its,n,hv,g⟩:=I.hok a _ e
 exact join_listW ⟨_,g,rfl,n,rfl⟩ (by simpa using ZeT hv) h1 h2 λt' k=>⟨.str _,H,I.tok _,⟨_,rfl⟩,q⟩
def Zhp(ho:QE X o to)(ha:QA X [e] t)(hbase:attributeBase o "join" X.env (eval o X.env)=eval o X.env:=by rfl)(hline:(apos.endLine == cpos.line)=true:=by rfl)(hp:ZF e=true:=by rfl) :
  QE X (.Call (.Attribute o "join" apos) [e] [] cpos) (tXm ZnX to t):=⟨Zqj F.slot_str_join F.type_str_join ZqM ho.h ha.h hbase (by rw [ZG hp]; rfl) hline (ZG hp) rfl⟩
def Zji(z:Str)(ss:List Str):(Txt.join z ss).length<=(ss.map (·.length)).sum + ss.length * z.length:=by
 show (Builtin.Str.glued z ss).length<=_
 rw [StrLaws.glued_eq_join]
 exact StrLaws.join_length_le z ss
end
def leS(a b:Str):Prop:=a.cps.toList<=b.cps.toList
def Zsi{a b:Str}(h:(!ltCps b.cps.toList a.cps.toList)=true):leS a b:=by
 rw [ltCps_eq,Bool.not_eq_true',decide_eq_false_iff_not] at h
 exact List.not_lt.mp h
def Zm2{a b:Str}(h1:leS a b)(h2:leS b a):a=b:=by
 have:=List.le_antisymm h1 h2
 cases a; cases b
 exact congrArg Str.mk (Array.toList_inj.mp this)
def Zhw:∀ (p:Str) (l:List Str),risingS p l=true->(p :: l).Pairwise leS
 | p,[],_=>List.pairwise_singleton ..
 | p,x :: l,h=>by
  unfold risingS at h
  rw [Vc] at h
  have ih:=Zhw x l h.2
  have hx:=Zsi h.1
  refine List.pairwise_cons.mpr ⟨λy hy=>?_,ih⟩
  rcases Ym.mp hy with rfl | hy
  ·exact hx
  ·exact List.le_trans hx ((List.pairwise_cons.mp ih).1 y hy)
theorem Zmp:∀ {l:List Str},sortedS l=true->l.Pairwise leS
 | [],_=>List.Pairwise.nil
 | x :: l,h=>Zhw x l h
def ZiY{l m:List Str}(h1:l.Pairwise leS)(h2:m.Pairwise leS)(p:l.Perm m):l=m:=List.Perm.eq_of_pairwise (λ_ _ _ _=>Zm2) h1 h2 p
section
variable {X:Cx}{e:Expr}{t:TA}{p pos:Pos}
def Zjp:List V->Hp->VK->Prop:=λxs H Q=>∃ (a:Addr) (ss:List Str),xs=[.ref a]/\H a=some (.lst (ss.map V.str))/\ss.length < 64/\∀ l H2 (ts:List Str),H l=none->Zn H H2->H2 l=some (.lst (ts.map V.str))->ts.Pairwise leS->ts.Perm ss->Q (.ref l) H2
end
section
variable {prog:Program}{w:World}{A:Around}{E:VSP}{s:Shared}
def ZmP(prog:Program)(w:World)(A:Around)(s:Shared)(u v:Value):Prop:=∀ (E:VSP) (Q:Bool->Shared->Prop),Q true s->wpAny (model prog w) A (eqBool u v) Q E s
theorem ZmP.of{A:Around}{u v:Value}(h:SeqAt.EqAt A s u v true):ZmP prog w A s u v:=λE Q q=>h prog w E Q q
def ZmP.refs{a b:Addr}(h:∀ (E:VSP) (Q:VSP),Q (.bool true) s->wpAny (model prog w) A (richCompare .Eq (.ref a) (.ref b)) Q E s):ZmP prog w A s (.ref a) (.ref b):=λE Q q=>by
 unfold eqBool
 refine YJ ?_
 refine wpAny_ite_split (λ_=>Ya (wpAny_rule (Yc q))) (λ_=>?_)
 exact Ya (h E _ (YG q))
def Zoj{l b:Addr}{items items2:Array Value}{Q:VSP}(hl:s.heap.IsTuple l items)(hb:s.heap.IsTuple b items2)(hz:items.size=items2.size)(hu:A.units < cLine)
  (he:∀ j (h1:j < items.size) (h2:j < items2.size),ZmP prog w A.in1 s items[j] items2[j]) (h:Q (.bool false) s):wpAny (model prog w) A (richCompare .NotEq (.ref l) (.ref b)) Q E s:=by
 obtain⟨o1,g1,c1,n1,d1⟩:=id hl
 obtain⟨o2,g2,c2,n2,d2⟩:=id hb
 have t1:s.TypeIs (.ref l) "tuple":=⟨o1,g1,c1⟩
 have t2:s.TypeIs (.ref b) "tuple":=⟨o2,g2,c2⟩
 refine wpAny_richCompare_same_room (op:=.NotEq) t1 t2 F.slot_tuple_ne (Vf F.slot_tuple_ne t1 F.entry_tuple_ne ?_ (F.args_tuple_ne_2 _ _)) hu
 show wpAny _ _ (slotArgs "__ne__" 1 ⟨[.ref l,.ref b],[]⟩ >>= _) _ _ s
 refine Ya (Yc ?_)
 dsimp only
 refine Ya (wpAny_isInstance (T:="tuple") (b:=true) t2 AutoSeq1.sub_tuple_tuple ?_)
 rw [if_neg (by decide)]
 refine Ya (Vo g1 d1 (Ya (Vo g2 d2 ?_)))
 refine Ya (wpAny_forIn_list _ (λJf b s'=>b.1=none/\s'=s/\∃ i,Jf=(items.toList.zip items2.toList).drop i) _ ?_ ?_ _ _ ⟨rfl,rfl,0,rfl⟩)
 ·rintro⟨y,x⟩ Jf b' s' ⟨hb',rfl,i,hi⟩
  have hlt:i < (items.toList.zip items2.toList).length:=by
   rcases Nat.lt_or_ge i (items.toList.zip items2.toList).length with h' | h'
   ·exact h'
   ·rw [List.drop_of_length_le h'] at hi; cases hi
  have hlt':=hlt
  rw [List.length_zip,YO,YO] at hlt'
  have k1:i < items.size:=by omega
  have k2:i < items2.size:=by omega
  rw [List.drop_eq_getElem_cons hlt] at hi
  injection hi with hyx hrest
  have hy:y=items[i]:=by have:=congrArg Prod.fst hyx; simpa using this
  have hx:x=items2[i]:=by have:=congrArg Prod.snd hyx; simpa using this
  subst hy hx
  refine Ya (he i k1 k2 _ _ ?_)
  rw [if_neg (by decide)]
  exact Yc ⟨rfl,rfl,i + 1,hrest⟩
 ·rintro⟨b1,b2⟩ s' ⟨hb',rfl,_⟩
  simp only at hb'
  subst hb'
  dsimp only
  refine Yc ⟨_,rfl,?_⟩
  rw [show Builtin.Tuple.tupleCompareSizes CmpOp.NotEq items.size items2.size=Value.bool false by rw [hz]; simp [Builtin.Tuple.tupleCompareSizes]]
  exact⟨(λz=>nomatch z),h⟩
def ZnK{l b:Addr}{items items2:Array Value}{Q:VSP}(hl:s.heap.IsTuple l items)(hb:s.heap.IsTuple b items2)(hz:items.size=items2.size)(hu:A.units < cLine)
  (he:∀ j (h1:j < items.size) (h2:j < items2.size),ZmP prog w A.in1 s items[j] items2[j]) (h:Q (.bool true) s):wpAny (model prog w) A (richCompare .Eq (.ref l) (.ref b)) Q E s:=by
 obtain⟨o1,g1,c1,n1,d1⟩:=id hl
 obtain⟨o2,g2,c2,n2,d2⟩:=id hb
 have t1:s.TypeIs (.ref l) "tuple":=⟨o1,g1,c1⟩
 have t2:s.TypeIs (.ref b) "tuple":=⟨o2,g2,c2⟩
 refine wpAny_richCompare_same_room (op:=.Eq) t1 t2 F.slot_tuple_eq (Vf F.slot_tuple_eq t1 F.entry_tuple_eq ?_ (F.args_tuple_eq_2 _ _)) hu
 show wpAny _ _ (slotArgs "__eq__" 1 ⟨[.ref l,.ref b],[]⟩ >>= _) _ _ s
 refine Ya (Yc ?_)
 dsimp only
 refine Ya (wpAny_isInstance (T:="tuple") (b:=true) t2 AutoSeq1.sub_tuple_tuple ?_)
 rw [if_neg (by decide)]
 refine Ya (Vo g1 d1 (Ya (Vo g2 d2 ?_)))
 refine Ya (wpAny_forIn_list _ (λJf b s'=>b.1=none/\s'=s/\∃ i,Jf=(items.toList.zip items2.toList).drop i) _ ?_ ?_ _ _ ⟨rfl,rfl,0,rfl⟩)
 ·rintro⟨y,x⟩ Jf b' s' ⟨hb',rfl,i,hi⟩
  have hlt:i < (items.toList.zip items2.toList).length:=by
   rcases Nat.lt_or_ge i (items.toList.zip items2.toList).length with h' | h'
   ·exact h'
   ·rw [List.drop_of_length_le h'] at hi; cases hi
  have hlt':=hlt
  rw [List.length_zip,YO,YO] at hlt'
  have k1:i < items.size:=by omega
  have k2:i < items2.size:=by omega
  rw [List.drop_eq_getElem_cons hlt] at hi
  injection hi with hyx hrest
  have hy:y=items[i]:=by have:=congrArg Prod.fst hyx; simpa using this
  have hx:x=items2[i]:=by have:=congrArg Prod.snd hyx; simpa using this
  subst hy hx
  refine Ya (he i k1 k2 _ _ ?_)
  rw [if_neg (by decide)]
  exact Yc ⟨rfl,rfl,i + 1,hrest⟩
 ·rintro⟨b1,b2⟩ s' ⟨hb',rfl,_⟩
  simp only at hb'
  subst hb'
  dsimp only
  refine Yc ⟨_,rfl,?_⟩
  rw [show Builtin.Tuple.tupleCompareSizes CmpOp.Eq items.size items2.size=Value.bool true by rw [hz]; simp [Builtin.Tuple.tupleCompareSizes]]
  exact⟨(λz=>nomatch z),h⟩
end
section
variable {X:Cx}{pins:List (Addr × Obj)}{σ:St}{H:Hp}{s:Shared}{a b:Expr}{ta tb:TE}{pos:Pos}{k:Nat}
def ZsR{kvs:List (Z7 × V)}{vs:List (Z7 × Value)}(r:KV kvs vs){i:Nat}{kv:Z7 × V}{k:Z7}{v:Value}(h1:kvs[i]?=some kv)(h2:vs[i]?=some (k,v)):kv.1=k/\ZH kv.2 v:=by
 induction r generalizing i with
 | nil=>simp at h1
 | cons h _ ih =>
  cases i with
  | zero =>
   simp at h1 h2
   subst h1
   subst h2
   exact h
  | succ i=>exact ih (by simpa using h1) (by simpa using h2)
inductive EqP (H:Hp):V->V->Nat->Prop where
 | deep {x y:V}{n:Nat}(h:EqD H x y true n):EqP H x y n
 | dct {a b:Addr}{ka kb:List (Z7 × V)}{n:Nat}(ha:Rd H a (.dK ka)) (hb:Rd H b (.dK kb)) (hl:ka.length=kb.length) (h:∀ (j:Nat) x y,ka[j]?=some x->kb[j]?=some y->x.1=y.1/\EqD H x.2 y.2 true n) (hN:(ka.map (·.1)).Nodup):EqP H (.ref a) (.ref b) (n + 2)
 | tup {a b:Addr}{xs ys:List V}{n:Nat}(ha:H a=some (.tup xs)) (hb:H b=some (.tup ys)) (hl:xs.length=ys.length) (h:∀ (j:Nat) x y,xs[j]?=some x->ys[j]?=some y->EqP H x y n):EqP H (.ref a) (.ref b) (n + 2)
theorem Zdk:∀ {vs:List (Z7 × Value)}{j:Nat}{k:Z7}{y:Value},(vs.map (·.1)).Nodup->vs[j]?=some (k,y)->valueAt vs k=some y
 | [],j,k,y,_,h=>by simp at h
 | (k',y') :: vs,0,k,y,_,h=>by
  simp at h
  obtain⟨rfl,rfl⟩:=h
  simp [valueAt]
 | (k',y') :: vs,j + 1,k,y,hN,h=>by
  rw [Yq,Vq] at hN
  have hm:(k,y)∈vs:=List.mem_of_getElem? (by simpa using h)
  have hne:k' ≠ k:=λe=>hN.1 (Yo.mpr ⟨_,hm,e.symm⟩)
  have ih:=Zdk hN.2 (show vs[j]?=some (k,y) by simpa using h)
  unfold valueAt at ih ⊢
  rw [List.find?_cons_of_neg (by simpa using hne)]
  exact ih
def ZlA{A:Around}{vb:List (Z7 × Value)}(hN:(vb.map (·.1)).Nodup):∀ {va:List (Z7 × Value)}(i:Nat),(∀ (j:Nat) k v,va[j]?=some (k,v)->∃ y,vb[i + j]?=some (k,y)/\SeqAt.EqAt A s v y true)->KeqHits A s vb va true
 | [],_,_=>.nil
 | (k,v) :: va,i,h=>by
  obtain⟨y,h1,h2⟩:=h 0 k v rfl
  exact .hit (e:=true) (Zdk hN h1) h2 (ZlA hN (i + 1) λj k v e=>by
   have:=h (j + 1) k v e
   rw [show i + 1 + j=i + (j + 1) by omega]
   exact this)
theorem EqP.at(I:Inv X pins σ H s){x y:V}{n:Nat}(h:EqP H x y n):∀ {A:Around}{u v:Value},ZH x u->ZH y v->A.units + n < cLine->ZmP X.prog X.w A s u v/\((∃ a c,x=.ref a/\y=.ref c) ->
  (∀ (E:VSP) (Q:VSP),Q (.bool true) s->wpAny (model X.prog X.w) A (richCompare .Eq u v) Q E s)/\∀ (E:VSP) (Q:VSP),Q (.bool false) s->wpAny (model X.prog X.w) A (richCompare .NotEq u v) Q E s):=by
 induction h with
 | deep h =>
  intro A u v r1 r2 hu
  obtain⟨z1,z2⟩:=h.at I r1 r2 hu
  exact⟨.of z1,λw=>⟨λE Q q=>z2 w _ _ E Q q,λE Q q=>h.neAt I r1 r2 hu w _ _ E Q q⟩⟩
 | @dct a b ka kb n ha hb hl h hN =>
  intro A u v r1 r2 hu
  cases r1
  cases r2
  obtain⟨_,n1,va,kv1,d1⟩:=Zdq I.hok ha
  obtain⟨_,n2,vb,kv2,d2⟩:=Zdq I.hok hb
  have hkeys:ka.map (·.1)=kb.map (·.1):=Y7 λj=>by
   rw [Yh,Yh]
   by_cases c:j < ka.length
   ·have c2:j < kb.length:=by omega
    rw [Yb c,Yb c2]
    exact congrArg some (h j _ _ (Yb c) (Yb c2)).1
   ·rw [YW (by omega),YW (by omega)]
  have hNb:(vb.map (·.1)).Nodup:=by rw [<- kv2.keys,<- hkeys]; exact hN
  have lA:va.length=ka.length:=kv1.length.symm
  have lB:vb.length=kb.length:=kv2.length.symm
  have hits:∀ A:Around,A.units + n < cLine->KeqHits A s vb va true:=λA hA=>ZlA hNb 0 λj k v e=>by
   have hj:j < ka.length:=by rw [<- lA]; exact (Yf.mp e).1
   have hj2:j < kb.length:=by omega
   obtain⟨p1,r1⟩:=ZsR kv1 (Yb hj) e
   obtain⟨q,e2⟩:∃ q,vb[j]?=some q:=⟨_,Yb (by omega)⟩
   obtain⟨p2,r2⟩:=ZsR kv2 (Yb hj2) (show vb[j]?=some (q.1,q.2) from e2)
   obtain⟨p3,hd⟩:=h j _ _ (Yb hj) (Yb hj2)
   refine⟨q.2,?_,(hd.at I r1 r2 hA).1⟩
   rw [Nat.zero_add,e2,<- p1,p3,p2]
  have e1:∀ (E:VSP) (Q:VSP),Q (.bool true) s->wpAny (model X.prog X.w) A (richCompare .Eq (.ref a) (.ref b)) Q E s:=λE Q q =>
   PySem.W.keq_eq (A:=A) n1 n2 d1 d2 (by omega) (r:=true) (λ_=>hits _ (by show A.units + 1 + n < cLine; omega)) (by rw [show (va.length == vb.length && true)=true by rw [lA,lB,hl]; simp]; exact q)
  refine⟨ZmP.refs e1,λ_=>⟨e1,λE Q q=>?_⟩⟩
  exact PySem.W.keq_ne (A:=A) n1 n2 d1 d2 (by omega) (r:=true) (λ_=>hits _ (by show A.units + 1 + n < cLine; omega)) (by rw [show (!(va.length == vb.length && true))=false by rw [lA,lB,hl]; simp]; exact q)
 | @tup a b xs ys n ha hb hl h ih =>
  intro A u v r1 r2 hu
  cases r1
  cases r2
  obtain⟨its,v1,t1,_⟩:=I.tuple (SqT.of ha)
  obtain⟨jts,v2,t2,_⟩:=I.tuple (SqT.of hb)
  have he:∀ j (h1:j < its.toArray.size) (h2:j < jts.toArray.size),ZmP X.prog X.w A.in1 s its.toArray[j] jts.toArray[j]:=λj h1 h2=>by
   have k1:j < xs.length:=by rw [v1.length]; simpa using h1
   have k2:j < ys.length:=by rw [v2.length]; simpa using h2
   obtain⟨u1,q1,w1⟩:=v1.get (Yb k1)
   obtain⟨u2,q2,w2⟩:=v2.get (Yb k2)
   have g1:its.toArray[j]=u1:=by obtain⟨hh,this⟩:=List.getElem?_eq_some_iff.mp q1; simpa using this
   have g2:jts.toArray[j]=u2:=by obtain⟨hh,this⟩:=List.getElem?_eq_some_iff.mp q2; simpa using this
   rw [g1,g2]
   exact (ih j _ _ (Yb k1) (Yb k2) w1 w2 (by show A.units + 1 + n < cLine; omega)).1
  have hz:its.toArray.size=jts.toArray.size:=by simp [<- v1.length,<- v2.length,hl]
  have e1:∀ (E:VSP) (Q:VSP),Q (.bool true) s->wpAny (model X.prog X.w) A (richCompare .Eq (.ref a) (.ref b)) Q E s:=λE Q q=>ZnK t1 t2 hz (by omega) he q
  exact⟨ZmP.refs e1,λ_=>⟨e1,λE Q q=>Zoj t1 t2 hz (by omega) he q⟩⟩
def ZuJ:R2:=λx y H Q=>∃ n a c,x=.ref a/\y=.ref c/\EqP H x y n/\n<=60/\Q (.bl true) H
def ZuO:R2:=λx y H Q=>∃ n a c,x=.ref a/\y=.ref c/\EqP H x y n/\n<=60/\Q (.bl false) H
end
structure BlkM(X:Cx)(ts:List Str)(caps:List Nat)(cs:List Str)(sc:Scope)(cl:List (Str × Addr))(x:Str):Prop where
 clos:closureFor sc X.env=pure cl
 kind:sc.kind=.function
 own:∀ n,cellsFrom n sc.names cl=(x,n) :: cl
 own0:∀ n,cellsFrom n sc.names []=[(x,n)]
 loc:∀ y∈sc.names,y.2=.local->sc.names.lookup y.1=some .local
 sub:∀ y c,cl.lookup y=some c->X.env.cells.lookup y=some c
 has:∀ y,((relabel sc X.env).names.lookup y=some .cell\/(relabel sc X.env).names.lookup y=some .free)->y=x\/∃ c,cl.lookup y=some c
 len:caps.length=cs.length
 cap:∀ (k:Nat) i y,caps[k]?=some i->cs[k]?=some y->X.N[i]?=some y/\(X.env.kindOf y=some .cell\/X.env.kindOf y=some .free)
 capK:∀ y∈cs,(relabel sc X.env).names.lookup y=some .cell\/(relabel sc X.env).names.lookup y=some .free
 capX:∀ y∈cs,y ≠ x
section
variable {X:Cx}{pins:List (Addr × Obj)}{σ:St}{H:Hp}{s:Shared}{ts cs:List Str}{caps:List Nat}{sc:Scope}{cl:List (Str × Addr)}{fp:List Addr}{x:Str}
variable {tg it elt:Expr}{pos:Pos}{wi:TI}{g:TG}{te:TE}
end
def ZiK{z:Int}{n:Nat}(hz:z.natAbs < 2 ^ n):Builtin.Int.intBits z<=n:=by
 unfold Builtin.Int.intBits
 split
 ·exact YC _
 ·rename_i h0
  have h1:z.natAbs ≠ 0:=by
   intro q
   apply h0
   have:z=0:=by omega
   simp [this]
  have:=(Nat.log2_lt h1).mpr hz
  omega
section
variable {prog:Program}{w:World}{A:Around}{E:VSP}{s:Shared}
def ZiB{T:String}{r d:Addr}{n:Nat}{Pi:Nat->Value->Prop}{OK:Heap->Prop}{Q:List Value->Shared->Prop}(Ks:PySem.W.KdlSrc prog w T r d n Pi OK)(hh:A.handled=none)(hok:OK s.heap)(hn:n<=sizeLine)
  (h:∀ h' tk (acc:Array Value),(∀ b o,s.heap.get? b=some o->h'.get? b=some o)->ItemsOf Pi acc n->s.heap.objs.size<=h'.objs.size->Q acc.toList { s with heap:=h',toks:=tk }) :
  wpAny (model prog w) A (collect (.ref r)) Q E s:=by
 unfold collect
 refine Ya (wpAny_runValue (codeAny_builtin entry_proto_collect' ?_))
 rw [Around.under_plainId F.plain_proto_collect _]
 show wpAny _ A.in1 (newList [] >>= λl=>again (.builtin "list.__iadd__" ⟨[l,.ref r],[]⟩)) _ _ s
 refine Ya (Y9 ?_)
 refine Yc ⟨plainId_quiet F.plain_list_iadd _,codeAny_builtin entry_list_iadd' ?_⟩
 rw [Around.under_plainId F.plain_list_iadd _]
 show wpAny _ A.in1 (Builtin.List.listExtendWith (.ref s.heap.objs.size) (.ref r) (.ref s.heap.objs.size)) _ _ _
 have lt:=Ks.there _ hok
 have key:=PySem.W.kdl_extend (A:=A) (s:={ s with heap:=s.heap.push (ZqI 0) })
  (R:=λ(q:Result) (s':Shared)=>∃ (h':Heap) (tk:Nat) (acc:Array Value) (c':Nat),q=.ok (.ret (.ref s.heap.objs.size))/\s'={ s with heap:=h',toks:=tk }/\(∀ b o,s.heap.get? b=some o->h'.get? b=some o) /\
   h'.get? s.heap.objs.size=some { cls:=.type "list",dict:=none,data:=.seq acc c',slots:=#[] }/\ItemsOf Pi acc n)
  Ks hh (Ks.keep _ _ hok λb _ o e=>Yi _ e) s.heap.objs.size (Nat.ne_of_gt lt.1) (Nat.ne_of_gt lt.2) (.ref s.heap.objs.size) 0 (Yv _ rfl)
  (λh' tk acc c' hk g i1=>⟨h',tk,acc,c',rfl,rfl,λb o e=>hk b o (Yn (Ye e)) (Yi _ e),g,i1⟩) hn
 refine Yk key (λfin s' x=>?_) λe s' x=>?_
 ·cases fin with
  | done f =>
   obtain⟨h',tk,acc,c',e,rfl,hk,g,i1⟩:=x
   cases e
   show wpAny _ A (load s.heap.objs.size >>= _) _ _ _
   exact Ya (wpAny_load g (Yc (h h' tk acc hk i1 (YF (Ye g)))))
  | again c₁ =>
   refine⟨x.1,YR x.2 λq s₂ y=>?_⟩
   obtain⟨h',tk,acc,c',rfl,rfl,hk,g,i1⟩:=y
   show wpAny _ A (load s.heap.objs.size >>= _) _ _ _
   exact Ya (wpAny_load g (Yc (h h' tk acc hk i1 (YF (Ye g)))))
 ·obtain⟨_,_,_,_,e',_⟩:=x
  cases e'
end
section
variable {X:Cx}{c d:Expr}{p pos:Pos}{ta:TA}
def ZqK(hg:Gl X "max")(hm:X.mg "max"=none)(ha:QA X [c,d] ta)(hp:ZF c=true:=by rfl)(hq:ZF d=true:=by rfl)(hc:X.calm=true:=by rfl) :
  QE X (.Call (.Name "max" p) [c,d] [] pos) (tCB (λxs H Q=>∃ i j,xs=[.int i,.int j]/\Q (.int (if j > i then j else i)) H) ta):=⟨ZcN (ZlX hc) hg hm (by decide +kernel) ha.h (by decide) (by decide) (ZG hp) (by rw [ZG hq]; rfl)⟩
def Zjw:List V->Hp->VK->Prop:=λxs H Q=>∃ (a:Addr) (kvs:List (Z7 × V)) (ss:List Str),xs=[.ref a]/\Rd H a (.dK kvs)/\(kvs.map λkv=>kV kv.1)=ss.map V.str/\ss.length < 64/\∀ l H2 (ts:List Str),H l=none->Zn H H2->H2 l=some (.lst (ts.map V.str))->ts.Pairwise leS->ts.Perm ss->Q (.ref l) H2
def Zkg(hc:X.calm=true):JC X (.builtin "sorted") Zjw:=by
 intro pins s σ H xs us Q I r h
 obtain⟨a,kvs,ss,rfl,e,hss,hl,q⟩:=h
 obtain⟨u,rfl,ru⟩:=JZ r
 cases ru
 obtain⟨z,hd,vs,rel,dd⟩:=Zdq I.hok e
 obtain⟨ep,at_⟩:=dd.dictAt
 have hkl:kvs.length=ss.length:=by have:=congrArg List.length hss; simpa using this
 refine Calls.call_function_entry kind_sorted plain_sorted entry_sorted (args_sorted1 _) ?_
 unfold Builtin.«sorted»
 refine Ya (m:=checkCount "sorted" 1 1 _) (Yc ?_)
 refine Ya (ZiB (A:=X.A.in1) (kdl_dict hd) (I.ok.hd hc) at_ (by rw [<- rel.length]; exact z) λh' tk acc hk hacc hD=>?_)
 obtain⟨hs,hacc⟩:=hacc
 have hsz:acc.size=ss.length:=by rw [hs,<- rel.length,hkl]
 have hv:ZB (ss.map V.str) acc.toList:=by
  rw [<- hss]
  refine Zik ?_ λi x u e1 e2=>?_
  ·rw [Yg,hkl,YO]; exact hsz.symm
  ·obtain⟨k,x',g1,g2⟩:=hacc i u (by simpa using e2)
   have hi:i < kvs.length:=by have:=(List.getElem?_eq_some_iff.mp e1).1; simpa using this
   obtain⟨kv,v,g3,g4⟩:=Zo2 rel hi
   rw [g1] at g4
   cases g4
   rw [Yh,g3] at e1
   cases e1
   exact ZsZ g2
 have hS:=ZeT hv
 have hal:acc.toList.length < 64:=by rw [YO,hsz]; exact hl
 refine Ya (wpAny_newList ?_ (Yj (YF hal) (by decide)))
 have hoL:(h'.push (seqObj "list" acc.toList.toArray 0)).get? h'.objs.size=some (seqObj "list" acc.toList.toArray 0):=Yv _ rfl
 refine Ya (YJ (Vf slot_list_sort ⟨_,hoL,rfl⟩ entry_list_sort (list_sort_treeK strKind_oneLt hoL hS.keysOf (λv₁ v₂ Jf e=>keyKind_strs (by rw [<- e]; exact hS)) hal λst' hp hs'=>⟨_,rfl,?_⟩) (args_list_sort _)))
 obtain⟨ts,h1,h2,h3⟩:=sorted_out_str hS hp hs'
 obtain⟨c,e1⟩:=Zha hoL (out:=(arrOf st').map (·.2))
 have hf:H h'.objs.size=none:=I.hok.fresh hD
 have hol:ts.length<=sizeLine:=by rw [h2.length_eq]; exact Yj (YF hl) (by decide)
 refine Yc ⟨_,rfl,?_⟩
 exact⟨.ref h'.objs.size,upd H h'.objs.size (.lst (ts.map V.str)),I.laid (t':=tk) (o:=.lst (ts.map V.str)) (λb o eb=>Zfj (Nat.ne_of_lt (Nat.lt_of_lt_of_le (Heap.lt_size eb) hD)) (Heap.get?_push_of_some _ (hk b o eb))) hD (show Ja X.prog X.w _ _ _ (.lst (ts.map V.str)) from ⟨by simpa using hol,((arrOf st').map (·.2)).toList,c,Zhi h1,by rw [Array.toArray_toList]; exact e1⟩),rfl,q _ _ ts hf (ZS hf _) Zl (Zmp h3) h2⟩
def Zmz{e:Expr}{t:TA}(hg:Gl X "sorted")(hm:X.mg "sorted"=none)(ha:QA X [e] t)(hp:ZF e=true:=by rfl)(hc:X.calm=true:=by rfl):QE X (.Call (.Name "sorted" p) [e] [] pos) (tCB Zjw t) :=
 ⟨ZcN (Zkg hc) hg hm (by decide +kernel) ha.h (by decide) (by decide) (ZG hp) rfl⟩
end
section
variable {X:Cx}{e:Expr}{t:TA}{p pos:Pos}
def ZsC:List V->Hp->VK->Prop:=λxs H Q=>∃ (a:Addr) (ns:List Int),xs=[.ref a]/\H a=some (.lst (ns.map V.int))/\Q (.int ns.sum) H
end
section
variable {X:Cx}{pins:List (Addr × Obj)}{σ:St}{H:Hp}{s:Shared}{a:Addr}{kvs:List (Z7 × V)}
end
section
variable {X:Cx}{o e f:Expr}{apos cpos:Pos}{td ty tx:TE}
end
section
variable {X:Cx}{a b:Expr}{p2 pos:Pos}{tx tb:TE}
def Zgg(ha:QE X a tx)(hb:QE X b tb):QE X (.Subscript a (.Slice (some b) none none p2) pos) (tSl (ZuK X.K) tx (Ziq tb) Zc7):=⟨Zgc ZqN ha.h (Ziv hb.h) ZiP⟩
end
def ZK(n:Int):Str:=Str.ofString (toString n)
def JI(a b:Str):(a ++ b).cps.toList=a.cps.toList ++ b.cps.toList:=by rw [Str.cps_append,Array.toList_append]
def ZhI(a:Str):a.cps.toList.length=a.length:=YO
def ZdH(m:Nat):(ZK (m:Int)).cps.toList=(Nat.toDigits 10 m).map Char.toNat:=by
 unfold ZK
 rw [signs_ofString]
 show (Nat.repr m).toList.map Char.toNat=_
 rw [Nat.toList_repr]
theorem ZbW{m:Nat}{c:Nat}(h:c∈(ZK (m:Int)).cps.toList):48<=c/\c<=57:=by
 rw [ZdH] at h
 obtain⟨ch,hch,e⟩:=Yo.mp h
 have r:=digit_range (Nat.isDigit_of_mem_toDigits (by decide) (by decide) hch)
 rw [<- e]
 exact r
def ZfX(m:Nat):(ZK (m:Int)).cps.toList ≠ []:=by
 rw [ZdH]
 intro e
 have h:=toDigits_len_ge 10 m
 rw [List.map_eq_nil_iff.mp e] at h
 exact absurd h (by decide)
def Zja{n:Int}(h0:0<=n)(h:n < 10 ^ 30):(ZK n).length<=30:=toString_length_le h0 (by decide) h
def ZnB(m:Nat):1<=(ZK (m:Int)).length:=by
 rw [<- ZhI]
 exact List.length_pos_iff.mpr (ZfX m)
def ZeG{n:Int}(h0:0<=n)(h1:n < 10 ^ 30):PySem.intText? (ZK n)=some n:=by
 have hl:=Zja h0 h1
 obtain⟨m,rfl⟩:=Int.eq_ofNat_of_zero_le h0
 have e:=PySem.intText_digits (x:=ZK (m:Int)) (λc hc=>ZbW hc) (ZfX m) (Yj hl (by decide))
 rw [ZdH,PySem.W.KIN.val_back] at e
 exact e
def Zf0:∀ (m:Nat),0 < m->∃ c r,Nat.toDigits 10 m=c :: r/\c ≠ '0':=by
 intro m
 induction m using Nat.strongRecOn with
 | _ m ih =>
  intro hm
  by_cases h:m < 10
  ·rw [Nat.toDigits_of_lt_base h]
   refine⟨_,_,rfl,?_⟩
   have:∀ d:Nat,d < 10->0 < d->Nat.digitChar d ≠ '0':=by decide
   exact this m h hm
  ·have t:Nat.toDigits 10 (m / 10) ++ Nat.toDigits 10 (m % 10)=Nat.toDigits 10 (10 * (m / 10) + m % 10):=Nat.toDigits_append_toDigits (by decide) (by omega) (Nat.mod_lt m (by decide))
   rw [Nat.div_add_mod] at t
   obtain⟨c,r,e,hc⟩:=ih (m / 10) (by omega) (by omega)
   rw [<- t,e]
   exact⟨c,_,rfl,hc⟩
def one(c:Nat):Str:=⟨#[c]⟩
def Ze8(c:Nat):(one c).cps.toList=[c]:=rfl
def Zfy(x:Str)(c:Nat):Txt.startswith x (one c)=(x.cps.toList.head? == some c):=by
 unfold Txt.startswith
 rw [StrLaws.subAt_eq,List.drop_zero]
 show (decide (0 + 1<=x.length) && (List.take 1 x.cps.toList == [c]))=_
 rw [<- ZhI]
 cases h:x.cps.toList with
 | nil=>rfl
 | cons a l =>
  simp
def Zid{m:Nat}(h:(ZK (m:Int)).cps.toList.head?=some 48):m=0:=by
 by_cases hm:m=0
 ·exact hm
 ·obtain⟨c,r,e,hc⟩:=Zf0 m (by omega)
  rw [ZdH,e,Yq,List.head?_cons,Option.some.injEq] at h
  refine absurd ?_ hc
  apply Char.ext
  apply UInt32.toNat_inj.mp
  exact h
def ZlJ:ZK 0=one 48:=by decide +kernel
def ZoD{m:Nat}(h:0 < m):ZK (-(m:Int))=one 45 ++ ZK (m:Int):=by
 apply ext_toList
 obtain⟨k,rfl⟩:∃ k,m=k + 1:=⟨m - 1,by omega⟩
 rw [JI,ZdH,Ze8]
 unfold ZK
 rw [signs_ofString]
 show (toString (Int.negSucc k)).toList.map Char.toNat=_
 show ("-" ++ Nat.repr (k + 1)).toList.map Char.toNat=_
 rw [String.toList_append,List.map_append,Nat.toList_repr]
 rfl
def ZoM(m:Nat):((ZK (m:Int)).cps.toList.head? == some 45)=false:=by
 cases h:(ZK (m:Int)).cps.toList with
 | nil=>rfl
 | cons a l =>
  have:=ZbW (m:=m) (c:=a) (by rw [h]; simp)
  simp
  omega
def jl(c:Nat):List (List Nat)->List Nat
 | []=>[]
 | [x]=>x
 | x :: y :: r=>x ++ c :: jl c (y :: r)
theorem Zh9(c:Nat):∀ xs:List Str,(Str.join (one c) xs).cps.toList=jl c (xs.map λz=>z.cps.toList)
 | []=>rfl
 | [x]=>rfl
 | x :: y :: r=>by
  show (x ++ one c ++ Str.join (one c) (y :: r)).cps.toList=_
  rw [JI,JI,Zh9 c (y :: r),Ze8]
  show x.cps.toList ++ [c] ++ _=x.cps.toList ++ c :: _
  rw [List.append_assoc]
  rfl
theorem Zpi{c:Nat}:∀ {a b r s:List Nat},c ∉ a->c ∉ b->a ++ c :: r=b ++ c :: s->a=b/\r=s
 | [],[],r,s,_,_,e=>by simpa using e
 | [],y :: b,r,s,_,h,e=>by
  simp at e
  exact absurd (by rw [e.1]; simp) h
 | x :: a,[],r,s,h,_,e=>by
  simp at e
  exact absurd (by rw [e.1]; simp) h
 | x :: a,y :: b,r,s,h1,h2,e=>by
  simp only [List.cons_append,List.cons.injEq] at e
  obtain⟨e1,e2⟩:=Zpi (λz=>h1 (by simp [z])) (λz=>h2 (by simp [z])) e.2
  exact⟨by rw [e.1,e1],e2⟩
theorem Zpo{c:Nat}:∀ (xs ys:List (List Nat)),xs ≠ []->ys ≠ []->(∀ p∈xs,c ∉ p)->(∀ p∈ys,c ∉ p)->jl c xs=jl c ys->xs=ys
 | [],_,h,_,_,_,_=>absurd rfl h
 | _ :: _,[],_,h,_,_,_=>absurd rfl h
 | [x],[y],_,_,_,_,e=>by
  have e':x=y:=e
  rw [e']
 | [x],y :: z :: s,_,_,h1,_,e=>by
  have e':x=y ++ c :: jl c (z :: s):=e
  exact absurd (by rw [e']; simp) (h1 x (by simp))
 | x :: z :: r,[y],_,_,_,h2,e=>by
  have e':x ++ c :: jl c (z :: r)=y:=e
  exact absurd (by rw [<- e']; simp) (h2 y (by simp))
 | x :: z :: r,y :: u :: s,_,_,h1,h2,e=>by
  obtain⟨e1,e2⟩:=Zpi (h1 x (by simp)) (h2 y (by simp)) (show x ++ c :: jl c (z :: r)=y ++ c :: jl c (u :: s) from e)
  have:=Zpo (z :: r) (u :: s) (by simp) (by simp) (λp hp=>h1 p (List.mem_cons_of_mem _ hp)) (λp hp=>h2 p (List.mem_cons_of_mem _ hp)) e2
  rw [e1,this]
theorem ZnU(x y:Str):Txt.split x y ≠ []:=by
 unfold Txt.split
 split
 ·simp
 ·split
  ·simp
  ·rw [StrLaws.partsBetween_eq]
   obtain⟨p,q,e⟩:=StrLaws.partsFrom_ne x y.length 0 (Builtin.Str.occurrences x y 0 x.length (x.length + 1))
   rw [e]
   simp
theorem Zft:∀ {xs ys:List Str},xs.map (λz=>z.cps.toList)=ys.map (λz=>z.cps.toList)->xs=ys
 | [],[],_=>rfl
 | [],_ :: _,e=>by cases e
 | _ :: _,[],e=>by cases e
 | x :: xs,y :: ys,e=>by
  rw [Yq,Yq,List.cons.injEq] at e
  rw [ext_toList e.1,Zft e.2]
theorem Zcf{c:Nat}{xs:List Str}(h:xs ≠ [])(hf:∀ p∈xs,c ∉ p.cps.toList):Txt.split (Txt.join (one c) xs) (one c)=xs:=by
 have e1:=StrLaws.join_split (Txt.join (one c) xs) (one c)
 have e2:Txt.join (one c) xs=Str.join (one c) xs:=StrLaws.glued_eq_join _ _
 have e3:=StrLaws.split_free (Txt.join (one c) xs) c
 have e4:=congrArg (λz:Str=>z.cps.toList) (e1.trans e2)
 simp only [Zh9] at e4
 refine Zft (Zpo (c:=c) _ _ (by simpa using ZnU _ _) (by simpa using h) (λp hp=>?_) (λp hp=>?_) e4)
 ·obtain⟨z,hz,rfl⟩:=Yo.mp hp
  exact e3 z hz
 ·obtain⟨z,hz,rfl⟩:=Yo.mp hp
  exact hf z hz
def Zjh(c:Nat)(a b:Str):Txt.join (one c) [a,b]=a ++ one c ++ b:=StrLaws.glued_eq_join _ _
def ZjM(c:Nat)(a:Str):Txt.join (one c) [a]=a:=StrLaws.glued_eq_join _ _
def Zp3(c:Nat)(x:Str):Txt.slice (one c ++ x) (some 1) none=x:=by
 have l:(one c ++ x).length=1 + x.cps.toList.length:=by rw [<- ZhI,JI,YL,Ze8]; rfl
 have e:=slice_from_eq (x:=one c ++ x) (i:=1) (b:=((one c ++ x).length:Int)) (by decide) (by omega) rfl
 apply ext_toList
 rw [e]
 show List.take _ (List.drop 1 (one c ++ x).cps.toList)=_
 rw [JI,Ze8]
 show List.take _ x.cps.toList=_
 exact List.take_of_length_le (by omega)
section
variable {X:Cx}{a b c e e2:Expr}{es:List Expr}{ta tb tc te te2 to:TE}{t:TA}{o:Expr}{apos cpos p pos p1 p2 p3:Pos}{k1:Nat}{c1:Str}
def Zrk:List V->Hp->VK->Prop:=λxs H Q=>∃ i:Int,xs=[.int i]/\i.natAbs.log2 < 1920/\Q (.str (ZK i)) H
def ZfG(hg:Gl X "str")(hm:X.mg "str"=none)(ha:QA X (e :: es) t)(hp:(e :: es).all ZF=true:=by rfl) :
  QE X (.Call (.Name "str" p) (e :: es) [] pos) (tCB Zrk t):=⟨Zlh Zd7 hg hm (by rfl) ha.h hp⟩
def Zm7:List V->Hp->VK->Prop:=λxs H Q=>∃ (z:Str) (n:Int),xs=[.str z]/\PySem.intText? z=some n/\z.length<=640/\Q (.int n) H
def ZkL:JC X (.type "int") Zm7:=by
 intro pins s σ H xs us Q I r h
 obtain⟨z,n,rfl,hn,hl,q⟩:=h
 obtain⟨u,rfl,ru⟩:=JZ r
 obtain⟨tk,rfl⟩:=ru
 exact PySem.W.KIN.call_text hn hl ⟨.int n,H,I.tok _,⟨_,rfl⟩,q⟩
def Zr1(hg:Gl X "int")(hm:X.mg "int"=none)(ha:QA X (e :: es) t)(hp:(e :: es).all ZF=true:=by rfl) :
  QE X (.Call (.Name "int" p) (e :: es) [] pos) (tCB Zm7 t):=⟨Zlh ZkL hg hm (by rfl) ha.h hp⟩
def Zmb(x:V)(z:Str):Prop:=(∃ i:Int,x=.int i/\i.natAbs.log2 < 1920/\z=ZK i)\/x=.str z/\z.length<=100000
theorem Jj{n:Nat}(h:n<=1000000):n<=sizeLine:=Yj h (by decide)
theorem Zmb.len{x:V}{z:Str}(h:Zmb x z):z.length<=100000:=by
 rcases h with ⟨i,rfl,hd,rfl⟩ | ⟨rfl,hl⟩
 ·have l2:=int_text_length_le (k:=1920) (by decide) hd
  unfold ZK
  rw [PySem.ofString_length]
  omega
 ·exact hl
theorem Zmb.at{pins:List (Addr × Obj)}{σ:St}{H:Hp}{s:Shared}{v:Value}{x:V}{z:Str}{Q:VSP}{E:VSP}(I:Inv X pins σ H s)(h:Zmb x z)(r:ZH x v)
  (q:∀ t' s',Inv X pins σ H s'->Q (.str z t') s'):wpAny (model X.prog X.w) X.A (formatField v Str.empty) Q E s:=by
 have hl:=h.len
 rcases h with ⟨i,rfl,hd,rfl⟩ | ⟨rfl,hl⟩
 ·obtain⟨t,rfl⟩:=r
  exact PyProof.Rows.formatField_int_small hd (q _ _ (I.tok _))
 ·obtain⟨t,rfl⟩:=r
  exact PyProof.Rows.formatField_str (λt' tk=>q _ _ (I.tok _)) (Jj (by omega))
def ZtS(te:TE):TE:=λσ H Q=>te σ H λx H1=>∃ z,Zmb x z/\Q (.str z) H1
def ZrG(he:QE X e te):QE X (.JoinedStr [.FormattedValue e (-1) none p2] pos) (ZtS te):=⟨by
 intro pins s σ H Q I h
 refine PyProof.Rows.JoinedStr_one (PyProof.Rows.FormattedValue_plain (Z0 (he.h pins s σ H _ I h) λv s1 ⟨x,H1,I1,r1,z,hz,q1⟩=>?_))
 exact hz.at I1 r1 λt' s' I'=>⟨.str z,H1,I',⟨_,rfl⟩,q1⟩⟩
def Zum(c:Str)(te te2:TE):TE:=λσ H Q=>te σ H λx H1=>∃ y,Zmb x y/\te2 σ H1 λx2 H2=>∃ z,Zmb x2 z/\Q (.str (y ++ c ++ z)) H2
def ZqL(he:QE X e te)(he2:QE X e2 te2)(h1:c1.length<=1000:=by decide +kernel):QE X (.JoinedStr [.FormattedValue e (-1) none p1,.Constant (.str c1) k1 p2,.FormattedValue e2 (-1) none p3] pos) (Zum c1 te te2):=⟨by
 intro pins s σ H Q I h
 refine PyProof.Rows.JoinedStr_many (joinParts_cons ?_)
 refine PyProof.Rows.FormattedValue_plain (Z0 (he.h pins s σ H _ I h) λv s1 ⟨x,H1,I1,r1,y,hy,q1⟩=>?_)
 have ly:=hy.len
 refine hy.at I1 r1 λt' s' I'=>?_
 have e0:=PySem.W.KT.empty_app y
 refine⟨by rw [e0]; exact Jj (by omega),?_⟩
 rw [e0]
 refine joinParts_cons ?_
 have l4:(y ++ c1).length<=101000:=by rw [strLen_append]; omega
 refine Calls.Constant_str ⟨Jj (by omega),joinParts_cons (PyProof.Rows.FormattedValue_plain (Z0 (he2.h pins _ σ H1 _ (I'.tok _) q1) λv2 s2 ⟨x2,H2,I2,r2,z,hz,q2⟩=>?_))⟩
 have lz:=hz.len
 have l5:(y ++ c1 ++ z).length<=201000:=by rw [strLen_append]; omega
 refine hz.at I2 r2 λt' s' I'=>?_
 exact⟨Jj (by omega),joinParts_nil ⟨.str _,H2,I'.tok _,⟨_,rfl⟩,q2⟩ (Jj (by omega))⟩⟩
def Zhk:V->List V->Hp->VK->Prop:=λx vs H Q=>∃ (z:Str) (d:Nat),x=.str z/\vs=[.str (one d)]/\z.length<=100000/\∀ l H2,H l=none->Zn H H2->H2 l=some (.lst ((Txt.split z (one d)).map V.str))->Q (.ref l) H2
def ZnY{prog:Program}{w:World}{A:Around}{E:VSP}{s:Shared}{x:Str}{t u:Tok}{y:Str}{Q:VSP}(hy:(y.length == 0)=false)(hsz:x.length<=sizeLine)(hsz2:(Builtin.Str.partsBetween x (Builtin.Str.occurrences x y 0 x.length (x.length + 1)) y.length).length<=sizeLine)
  (hq:∀ (l:List (Str × Tok)) (k:Nat),l.map (·.1)=Txt.split x y->Q (.ref s.heap.objs.size) { s with heap:=s.heap.push { cls:=.type "list",data:=.seq (strValues l).toArray },toks:=k }) :
  wpAny (model prog w) A (call (.builtin "str.split") [.str x t,.str y u]) Q E s:=by
 cases h1:(decide (x.length < y.length) || decide (Builtin.Str.strKind x < Builtin.Str.strKind y))
 ·cases hf:(Builtin.Str.occurrences x y 0 x.length (x.length + 1)).isEmpty
  ·refine call_meets F.slot_str_split (typeIs_str _ _ _) F.entry_str_split (F.args_str_split_2 _ _) (meets_str_split_sep x y t u h1 hy hf hsz hsz2) ?_
   show wants Q E _ { s with toks:=_,heap:=s.heap.push { cls:=.type "list",data:=.seq (strsFrom s.toks (Builtin.Str.partsBetween x (Builtin.Str.occurrences x y 0 x.length (x.length + 1)) y.length)).toArray } }
   rw [strsFrom_eq]
   exact hq (numbered s.toks _) _ ((numbered_texts _ _).trans ((if_neg (ne_true_of_eq_false h1)).trans (if_neg (ne_true_of_eq_false hf))).symm)
  ·exact call_meets F.slot_str_split (typeIs_str _ _ _) F.entry_str_split (F.args_str_split_2 _ _) (meets_str_split_not_found x y t u h1 hy hf)
    (hq [(x,t)] s.toks ((if_neg (ne_true_of_eq_false h1)).trans (if_pos hf)).symm)
 ·exact call_meets F.slot_str_split (typeIs_str _ _ _) F.entry_str_split (F.args_str_split_2 _ _) (meets_str_split_cannot_occur x y t u h1)
   (hq [(x,t)] s.toks (if_pos h1).symm)
def Zho:∀ (l:List (Str × Tok)),ZB ((l.map (·.1)).map V.str) (strValues l)
 | []=>.nil
 | (x,t) :: l=>.cons ⟨t,rfl⟩ (Zho l)
def ZoB:MtM X "str.split" Zhk:=by
 intro pins s σ H x vs v us Q I rx rv h
 obtain⟨z,d,rfl,rfl,hz,q⟩:=h
 obtain⟨t,rfl⟩:=rx
 obtain⟨u,rfl,ru⟩:=JZ rv
 obtain⟨t2,rfl⟩:=ru
 have hp:(Builtin.Str.partsBetween z (Builtin.Str.occurrences z (one d) 0 z.length (z.length + 1)) (one d).length).length<=z.length + 2:=by
  have:=StrLaws.occ_length_le z (one d) 0 z.length (z.length + 1)
  unfold Builtin.Str.partsBetween
  simp
  omega
 refine ZnY (by rfl) (Jj (by omega)) (Jj (by omega)) λl k e=>?_
 have hD:s.heap.objs.size<=s.heap.objs.size:=Yd _
 have hf:H s.heap.objs.size=none:=I.hok.fresh hD
 have hll:l.length=(Txt.split z (one d)).length:=by rw [<- e,Yg]
 have hsp:(Txt.split z (one d)).length<=z.length + 2:=by
  unfold Txt.split
  split
  ·simp
  ·split
   ·simp
   ·exact hp
 refine⟨.ref s.heap.objs.size,upd H s.heap.objs.size (.lst ((Txt.split z (one d)).map V.str)),I.laid (t':=k) (o:=.lst ((Txt.split z (one d)).map V.str)) (λb o eb=>Yi _ eb) hD (show Ja X.prog X.w _ _ _ (.lst ((Txt.split z (one d)).map V.str)) from ⟨?_,strValues l,0,?_,?_⟩),rfl,q _ _ hf (ZS hf _) Zl⟩
 ·rw [Yg]
  exact Jj (by omega)
 ·rw [<- e]
  exact Zho l
 ·exact Yv _ rfl
def ZfU(ho:QE X o to)(ha:QA X [e] t)(hbase:attributeBase o "split" X.env (eval o X.env)=eval o X.env:=by rfl)(hline:(apos.endLine == cpos.line)=true:=by rfl)(hp:ZF e=true:=by rfl) :
  QE X (.Call (.Attribute o "split" apos) [e] [] cpos) (tXm Zhk to t):=⟨Zqj F.slot_str_split F.type_str_split ZoB ho.h ha.h hbase (by rw [ZG hp]; rfl) hline (ZG hp) rfl⟩
def Zgl:V->List V->Hp->VK->Prop:=λx vs H Q=>∃ z y,x=.str z/\vs=[.str y]/\Q (.bl (Txt.startswith z y)) H
def ZkZ:MtM X "str.startswith" Zgl:=by
 intro pins s σ H x vs v us Q I rx rv h
 obtain⟨z,y,rfl,rfl,q⟩:=h
 obtain⟨t,rfl⟩:=rx
 obtain⟨u,rfl,ru⟩:=JZ rv
 obtain⟨t2,rfl⟩:=ru
 exact SC.startswith ⟨.bl _,H,I,rfl,q⟩
def Zjf(ho:QE X o to)(ha:QA X [e] t)(hbase:attributeBase o "startswith" X.env (eval o X.env)=eval o X.env:=by rfl)(hline:(apos.endLine == cpos.line)=true:=by rfl)(hp:ZF e=true:=by rfl) :
  QE X (.Call (.Attribute o "startswith" apos) [e] [] cpos) (tXm Zgl to t):=⟨Zqj F.slot_str_startswith F.type_str_startswith ZkZ ho.h ha.h hbase (by rw [ZG hp]; rfl) hline (ZG hp) rfl⟩
def ZtA:R2:=λx y H Q=>∃ (d:Nat) (z:Str),x=.str (one d)/\y=.str z/\Q (.bl (decide (d∈z.cps.toList))) H
theorem ZsM:OpR X (compareOp .In) ZtA:=by
 intro pins s σ H x y v u Q I rx ry h
 obtain⟨d,z,rfl,rfl,q⟩:=h
 refine Zl6 pins s σ H _ _ v u Q I rx ry ⟨one d,z,rfl,rfl,?_⟩
 rw [show one d=⟨#[d]⟩ from rfl,StrLaws.found_one]
 exact q
theorem Zr3(ha:QE X a ta)(hb:QE X b tb)(hm:behindInMarks .In b=false:=by with_unfolding_all rfl):QE X (.Compare a [.In] [b] pos) (JQ ZtA ta tb):=⟨ZdN ZsM ha.h hb.h hm⟩
def Zqc(ha:QE X a ta)(hb:QE X b tb):QE X (.Subscript a (.Slice (some b) none none p2) pos) (tSl ZrU ta (Ziq tb) Zc7):=⟨Zgc Zsc ha.h (Ziv hb.h) ZiP⟩
def Zpp{x z:Str}{tk:Tok}(hg:Gl X x)(hm:X.mg x=some (.str z tk))(hd:(x == ("__debug__":Str))=false:=by decide):QE X (.Name x pos) (tC (.str z)):=⟨ZhN hg hm ⟨_,rfl⟩ hd⟩
def Zpr(hg:Gl X "len")(hm:X.mg "len"=none)(ha:QA X (e :: es) t)(hp:(e :: es).all ZF=true:=by rfl) :
  QE X (.Call (.Name "len" p) (e :: es) [] pos) (tCB (λxs H Q=>∃ z,xs=[.str z]/\z.length<=sizeLine/\Q (.int z.length) H) t):=⟨ZjY ZgZ hg hm PySem.boot_len ha.h hp⟩
def ZnZ:List V->Hp->VK->Prop:=λxs H Q=>∃ (a:Addr) (bs:List Bool),xs=[.ref a]/\H a=some (.lst (bs.map V.bl))/\Q (.bl (bs.all id)) H
def ZfE:∀ {bs:List Bool}{us:List Value},ZB (bs.map V.bl) us->us=bs.map Value.bool
 | [],us,h=>by cases h; rfl
 | b :: bs,us,h=>by
  cases h with
  | cons h1 h2 =>
   cases h1
   rw [ZfE h2]
   rfl
theorem Zon{bs:List Bool}:(List.range bs.length).all (λi=>bs.getD i false)=bs.all id:=by
 rw [Ve,List.all_eq_true,List.all_eq_true]
 constructor
 ·intro h x hx
  obtain⟨i,hi⟩:=YT hx
  have:=h i (YI.mpr (Yf.mp hi).1)
  rw [List.getD_eq_getElem?_getD,hi] at this
  exact this
 ·intro h i hi
  have hi':=YI.mp hi
  rw [List.getD_eq_getElem?_getD,Yb hi']
  exact h _ (Yy hi')
def Zlo(hc:X.calm=true):JC X (.builtin "all") ZnZ:=by
 intro pins s σ H xs us Q I r h
 obtain⟨a,bs,rfl,e,q⟩:=h
 obtain⟨u,rfl,ru⟩:=JZ r
 cases ru
 obtain⟨_,its,n,hv,g⟩:=I.hok a _ e
 have ei:=ZfE hv
 subst ei
 have hL:s.heap.IsList a (bs.map Value.bool).toArray:=⟨_,g,rfl,n,by simp⟩
 refine call_all_walk (wpAny_pyIter_list hL ?_)
 have hn:a ≠ s.heap.objs.size:=Yn (Ye g)
 refine⟨_,_,_,_,_,_,λi=>bs.getD i false,rfl,Walks.list (A:=X.A.in1) (I.ok.hd hc) _ a hn (bs.map Value.bool).toArray,?_,?_,λh' tk hk=>?_⟩
 ·exact⟨⟨_,Heap.get?_push_size _ rfl,rfl,rfl⟩,⟨_,Heap.get?_push_of_some _ g,rfl,n,by simp⟩⟩
 ·intro i v s1 Q1 E1 hP hQ
  have:v=Value.bool (bs.getD i false):=by
   have hP':(bs.map Value.bool).toArray[i]?=some v:=hP
   rw [List.getElem?_toArray,Yh] at hP'
   rw [List.getD_eq_getElem?_getD]
   cases hb:bs[i]? with
   | none=>rw [hb] at hP'; cases hP'
   | some b=>rw [hb] at hP'; cases hP'; rfl
  subst this
  exact YG hQ
 ·rw [show (bs.map Value.bool).toArray.size=bs.length by simp,Zon]
  exact⟨.bl (bs.all id),H,I.kept (old_kept hk),rfl,q⟩
def Zpy(hg:Gl X "all")(hm:X.mg "all"=none)(ha:QA X [e] t)(hp:ZF e=true:=by rfl)(hc:X.calm=true:=by rfl):QE X (.Call (.Name "all" p) [e] [] pos) (tCB ZnZ t) :=
 ⟨ZcN (Zlo hc) hg hm (by decide +kernel) ha.h (by decide) (by decide) (ZG hp) rfl⟩
end
def Itx(z:Str):It:=⟨λi _=>i < z.cps.toList.length,λi H x H'=>H'=H/\∃ d,z.cps.toList[i]?=some d/\x=.str (one d),λi _=>z.cps.toList.length<=i⟩
def ZkP{P:Program}{w:World}{K:PySem.W.Frag}{tg:Expr}(it:Addr)(z:Str)(t:Tok):Turn P w K tg (Itx z) [it] it (λi h=>h.IsStrIter it "str_ascii_iterator" z t i) where
 mem:=by simp
 obj:=λi h st b hb=>by
  have e:b=it:=by simpa using hb
  subst e
  obtain⟨o,e,c,d⟩:=st
  exact⟨o,e,λv z=>by rw [d] at z; cases z⟩
 keep:=λi h h' st k=>let ⟨o,ho,r⟩:=st; ⟨o,k it (by simp) o ho,r⟩
 item:=by
  intro X hP hw hK hc i pins s σ H E I hf st hg
  subst hP hw hK
  obtain⟨f0,f1,f2,f3,f4,f5⟩:=hf it (by simp)
  have hg2:i < z.cps.toList.length:=hg
  have hg':i < z.cps.size:=by simpa using hg2
  refine wpAny_pyNext_ascii_item st (c:=z.cps[i]) (by simp [hg']) λh' st' sb=>?_
  have I1:Inv X pins σ H { s with heap:=h',toks:=s.toks + 1 }:=I.turned (λb o hb e=>(sb.2 b hb).trans e) f0 f1 f3 f4 f5
  obtain⟨o,e,c,d⟩:=id st'
  exact⟨_,rfl,Zoo (s:={ s with heap:=h',toks:=s.toks + 1 }) e c d (by decide) ⟨.str (one z.cps[i]),H,I1,⟨_,rfl⟩,⟨rfl,_,by simp [hg'],rfl⟩,st',λb hb=>(hf b hb).1⟩⟩
 done:=by
  intro X hP hw hK hc i pins s σ H E I hf st hg
  subst hP hw hK
  obtain⟨f0,f1,f2,f3,f4,f5⟩:=hf it (by simp)
  have hg':z.cps.toList.length<=i:=hg
  exact wpAny_pyNext_ascii_end (I.ok.hd hc) st (by simp at hg' ⊢; omega) λh' eb=>⟨rfl,I.turned (t':=s.toks) (λb o hb e=>eb b o hb e) f0 f1 f3 f4 f5⟩
 self:=λ_ _ _ _ _ st h=>wpAny_pyIter_striter_ascii st h
section
variable {X:Cx}{tg l:Expr}{tl:TE}
def Zuf(tl:TE):TI:=λσ H R=>tl σ H λx H1=>∃ z,x=.str z/\(∀ d∈z.cps.toList,d < 128)/\R (Itx z) H1
def Zsl(hl:QE X l tl):QI X tg l (Zuf tl):=⟨by
 intro pins s σ H R I h
 refine Z0 (hl.h pins s σ H _ I h) λv s1 ⟨x,H1,I1,r1,q1⟩=>?_
 obtain⟨z,e,ha,q⟩:=q1
 subst e
 obtain⟨t,rfl⟩:=r1
 have hall:z.cps.all (· < 128)=true:=by
  rw [Array.all_eq_true_iff_forall_mem]
  intro d hd
  exact decide_eq_true (ha d (by simpa using hd))
 refine wpAny_pyIter_ascii hall ?_
 refine⟨s1.heap.objs.size,[s1.heap.objs.size],_,_,H1,rfl,I1.kept (t':=s1.toks) λb o e=>Yi _ e,ZkP _ z t,⟨_,Yv _ rfl,rfl,rfl⟩,λb hb=>?_,q⟩
 have e:b=s1.heap.objs.size:=by simpa using hb
 subst e
 exact I1.fpOk (Yd _) (I1.hok.fresh (Yd _))⟩
end
section
variable {X:Cx}{a b c e:Expr}{es:List Expr}{ta tb tc:TE}{t:TA}{p pos:Pos}
theorem Zpb(ha:QE X a ta)(hb:QE X b tb)(hc:QE X c tc)(hm:lastMarks [CmpOp.LtE,CmpOp.LtE] [b,c]=false:=by with_unfolding_all rfl):QT X (.Compare a [.LtE,.LtE] [b,c] pos) (Jt (Zfu (rI0 λi j=>.bl (decide (i<=j))) (rI0 λi j=>.bl (decide (i<=j))) ta tb tc)):=⟨Zn5 Zri Zri ha.h hb.h hc.h hm⟩
structure OwnCls(K:PySem.W.Frag)(C:Addr):Prop where
 cl:Cls K C
 a:PySem.W.findIn K (.ref C) "__class__"=some (some (.builtin "object.__class__"))
 b:PySem.W.specialIn K (.builtin "object.__class__") "__get__"=some (some (.builtin "getset_descriptor.__get__"))
 t:PySem.W.takesIn K (.builtin "object.__class__")=some true
 m:PySem.W.mroIn K C (.type "object")=some true
 k:kitOne K (.ref C) (.ref C)=some true
def Zpc(K:PySem.W.Frag):List V->Hp->VK->Prop:=λxs H Q=>∃ a C dx fs,xs=[.ref a,.ref C]/\H a=some (.ins C dx fs)/\OwnCls K C/\Q (.bl true) H
end
def ZoL{z:Str}{nt:Nat}{cp:St}{g:TG}{tt:TT}{te:TE}{H1:Hp}{Q:VK}(Pv:Addr->Nat->List V->Hp->Prop)(h0:∀ acc H2,H1 acc=none->Zn H1 H2->H2 acc=some (.lst [])->Pv acc 0 [] H2)
  (hl:∀ acc i ys H,H1 acc=none->Pv acc i ys H->H acc=some (.lst ys)/\ys.length < 1000000)
  (hs:∀ acc i d ys H os,H1 acc=none->z.cps.toList[i]?=some d->Pv acc i ys H->os.length=nt->g (.str (one d)) (os ++ cp) H λτ H3=>∃ os',os'.length=nt/\τ=os' ++ cp/\tt τ H3 λb H4=>if b=true then te τ H4 λv H5=>H5 acc=some (.lst ys)/\Pv acc (i + 1) (ys ++ [v]) (upd H5 acc (.lst (ys ++ [v]))) else Pv acc (i + 1) ys H4)
  (hd:∀ acc ys H,H1 acc=none->Pv acc z.cps.toList.length ys H->Q (.ref acc) H):ZhZ nt cp (Itx z) g tt te H1 Q:=by
 intro acc H2 hn sm e
 refine⟨λi m ys H=>m=z.cps.toList.length - i/\i<=z.cps.toList.length/\Pv acc i ys H,⟨z.cps.toList.length,by simp,Nat.zero_le _,h0 acc H2 hn sm e⟩,?_⟩
 rintro i m ys H ⟨rfl,hi,p⟩
 obtain⟨q1,q2⟩:=hl acc i ys H hn p
 refine⟨q1,?_⟩
 by_cases hlt:i < z.cps.toList.length
 ·refine .inr ⟨hlt,q2,Pv acc (i + 1),λys' H' p'=>⟨z.cps.toList.length - (i + 1),by omega,rfl,hlt,p'⟩,λos x H' ol y=>?_⟩
  obtain⟨rfl,d,hy,rfl⟩:=y
  exact hs acc i d ys _ os hn hy p ol
 ·have e:i=z.cps.toList.length:=by omega
  subst e
  exact .inl ⟨Yd _,hd _ _ _ hn p⟩
section
variable {X:Cx}{o e:Expr}{apos cpos:Pos}{td ty te:TE}
def Zo8(ho:QE X o td)(he:QE X e ty)(m:M1 X o "pop" apos e cpos:=by exact⟨rfl,rfl,rfl,rfl⟩):QE X (.Call (.Attribute o "pop" apos) [e] [] cpos) (ZjL td ty):=⟨ZnT ho.h he.h m⟩
def ZsI(td:TE):TE:=λσ H Q=>td σ H λx H1=>∃ a kvs,x=.ref a/\H1 a=some (.dK kvs)/\Q .non (upd H1 a (.dK []))
def Zuq(K:PySem.W.Frag)(ta:TE):TT:=λσ H Q=>ta σ H λx H'=>∃ k,Zuk K x H' k/\Q k H'
def Zta(ha:QE X e te)(he:∀ whole,isTrue e X.env whole=(do let v <- whole; standAt e.pos; holding [v] (truthy v)):=by intro _; rfl):QT X e (Zuq X.K te):=⟨Zor ha.h he⟩
end
section
variable {X:Cx}{j k:Nat}{C:Addr}{m:Str}{ps:List Str}{sp:Sp}{pos apos:Pos}{o:Expr}{ta:TE}
end
structure GDict(P:Program)(w:World)(K:PySem.W.Frag)(a:Addr)(kvs:List (Z7 × V)):Prop where
 ex:(a == sysModules)=false/\∃ o vs,K.lookup a=some o/\o.IsDictOf (ZU P w) vs/\KV kvs vs
section
variable {X:Cx}{pins:List (Addr × Obj)}{σ:St}{H:Hp}{s:Shared}{a:Addr}{kvs:List (Z7 × V)}{k:Z7}{u r:Value}{A:Around}{E:VSP}
theorem GDict.at(g:GDict X.prog X.w X.K a kvs)(I:Inv X pins σ H s):(a == sysModules)=false/\∃ vs,s.heap.DictOf (ZU X.prog X.w) a vs/\KV kvs vs:=by
 obtain⟨h1,o,vs,h2,h3,h4⟩:=g.ex
 exact⟨h1,vs,Heap.dictOf_iff.mpr ⟨o,I.kIn _ _ h2,h3⟩,h4⟩
end
section
variable {X:Cx}{o e f a b:Expr}{apos cpos pos:Pos}{td ty tx ta tb:TE}
def tGI(P:Program)(w:World)(K:PySem.W.Frag)(neg:Bool)(ty td:TE):TE:=λσ H Q=>ty σ H λy H1=>td σ H1 λx H2=>∃ a kvs k,x=.ref a/\GDict P w K a kvs/\y=kV k/\Q (.bl (if neg=true then !(Ji kvs k).isSome else (Ji kvs k).isSome)) H2
theorem Zs3(hi:PE X a ta)(ho:PE X b tb):PC X .In a b (tGI X.prog X.w X.K false ta tb):=by
 intro pins s σ H Q I h
 refine Z0 (hi pins s σ H _ I h) λiv s1 ⟨y,H1,I1,ry,q1⟩=>Z0 (ho pins s1 σ H1 _ I1 q1) λu s2 ⟨x,H2,I2,rx,a,kvs,k,ex,g,ey,q2⟩=>?_
 subst ex ey
 obtain rfl:u=Value.ref a:=rx
 obtain⟨hd,vs,dd,rel⟩:=g.at I2
 refine wpAny_in_of (Zfp ry) hd dd.mapOf ?_
 rw [<- (rel.val k).isSome_eq]
 exact⟨.bl _,H2,I2.tok _,rfl,by simpa using q2⟩
theorem ZpH(hi:PE X a ta)(ho:PE X b tb):PC X .NotIn a b (tGI X.prog X.w X.K true ta tb):=by
 intro pins s σ H Q I h
 refine Z0 (hi pins s σ H _ I h) λiv s1 ⟨y,H1,I1,ry,q1⟩=>Z0 (ho pins s1 σ H1 _ I1 q1) λu s2 ⟨x,H2,I2,rx,a,kvs,k,ex,g,ey,q2⟩=>?_
 subst ex ey
 obtain rfl:u=Value.ref a:=rx
 obtain⟨hd,vs,dd,rel⟩:=g.at I2
 refine wpAny_notIn_of (Zfp ry) hd dd.mapOf ?_
 rw [<- (rel.val k).isSome_eq]
 exact⟨.bl _,H2,I2.tok _,rfl,by simpa using q2⟩
theorem Zup(ha:QE X a ta)(hb:QE X b tb)(hm:behindInMarks .In b=false:=by with_unfolding_all rfl):QT X (.Compare a [.In] [b] pos) (tB (tGI X.prog X.w X.K false ta tb)):=⟨ZjT (Zs3 ha.h hb.h) hm⟩
theorem Ztc(ha:QE X a ta)(hb:QE X b tb)(hm:behindInMarks .NotIn b=false:=by with_unfolding_all rfl):QT X (.Compare a [.NotIn] [b] pos) (tB (tGI X.prog X.w X.K true ta tb)):=⟨ZjT (ZpH ha.h hb.h) hm⟩
def ZrD{pins:List (Addr × Obj)}{σ:St}{H:Hp}{s:Shared}{a:Addr}{kvs:List (Z7 × V)}(I:Inv X pins σ H s)(g:GDict X.prog X.w X.K a kvs):s.TypeIs (.ref a) "dict"/\(∀ b,Value.ref a=.ref b->∃ ob,s.heap.get? b=some ob/\ob.dict=none):=by
 obtain⟨hd,vs,dd,rel⟩:=g.at I
 refine⟨dd.typeIs,λb q=>?_⟩
 cases q
 obtain⟨ob,_,_,h1,h2,_⟩:=dd
 exact⟨ob,h1,h2.2.1⟩
def ZlM(P:Program)(w:World)(K:PySem.W.Frag)(td ty:TE):TE:=λσ H Q=>td σ H λx H1=>∃ a kvs,x=.ref a/\GDict P w K a kvs/\ty σ H1 λy H2=>∃ k,y=kV k/\Q ((Ji kvs k).getD .non) H2
def Zmn(P:Program)(w:World)(K:PySem.W.Frag)(td ty tx:TE):TE:=λσ H Q=>td σ H λx H1=>∃ a kvs,x=.ref a/\GDict P w K a kvs/\ty σ H1 λy H2=>tx σ H2 λz H3=>∃ k,y=kV k/\Q ((Ji kvs k).getD z) H3
def Zqn(ho:QE X o td)(he:QE X e ty)(m:M1 X o "get" apos e cpos:=by exact⟨rfl,rfl,rfl,rfl⟩):QE X (.Call (.Attribute o "get" apos) [e] [] cpos) (ZlM X.prog X.w X.K td ty):=⟨by
 intro pins s σ H Q I h
 refine wpAny_Call_method m.base m.few m.line PySem.F.plainAttrs_dict PySem.F.slot_dict_get PySem.F.type_dict_get (Z0 (ho.h pins s σ H _ I h) λu s1 ⟨x,H1,I1,rx,a,kvs,ex,g,q1⟩=>?_)
 subst ex
 obtain rfl:u=Value.ref a:=rx
 obtain⟨t1,t2⟩:=ZrD I1 g
 refine⟨t1,t2,?_⟩
 rw [m.trees]
 refine YX rfl (Y6 (Y8 (Z0 (he.h pins s1 σ H1 _ I1 q1) λiv s2 ⟨y,H2,I2,ry,k,ey,q2⟩=>Vd ?_)))
 subst ey
 obtain⟨hd,vs,dd,rel⟩:=g.at I2
 exact call_meetsIn PySem.F.slot_dict_get dd.typeIs PySem.F.entry_dict_get (PySem.F.args_dict_get_2 _ _) (meets_dict_get (ZU X.prog X.w) a (Zfp ry) hd) ⟨_,dd.mapOf,_,H2,I2.tok _,(rel.val k).getD (d:=.non) rfl,q2⟩⟩
def Zra(ho:QE X o td)(he:QE X e ty)(hf:QE X f tx)(m:M2 X o "get" apos e f cpos:=by exact⟨rfl,rfl,rfl,rfl⟩):QE X (.Call (.Attribute o "get" apos) [e,f] [] cpos) (Zmn X.prog X.w X.K td ty tx):=⟨by
 intro pins s σ H Q I h
 refine wpAny_Call_method m.base m.few m.line PySem.F.plainAttrs_dict PySem.F.slot_dict_get PySem.F.type_dict_get (Z0 (ho.h pins s σ H _ I h) λu s1 ⟨x,H1,I1,rx,a,kvs,ex,g,q1⟩=>?_)
 subst ex
 obtain rfl:u=Value.ref a:=rx
 obtain⟨t1,t2⟩:=ZrD I1 g
 refine⟨t1,t2,?_⟩
 rw [m.trees]
 refine YX rfl (Y6 (Y8 (Z0 (he.h pins s1 σ H1 _ I1 q1) λiv s2 ⟨y,H2,I2,ry,q2⟩ =>
  Y8 (Z0 (hf.h pins s2 σ H2 _ I2 q2) λfv s3 ⟨z,H3,I3,rz,k,ey,q3⟩=>Vd ?_))))
 subst ey
 obtain⟨hd,vs,dd,rel⟩:=g.at I3
 exact call_meetsIn PySem.F.slot_dict_get dd.typeIs PySem.F.entry_dict_get (PySem.F.args_dict_get_3 _ _ _) (meets_dict_get_default (ZU X.prog X.w) a (Zfp ry) hd fv) ⟨_,dd.mapOf,_,H3,I3.tok _,(rel.val k).getD rz,q3⟩⟩
def Zj7:QE X e (λ_ _ _=>False):=⟨λ_ _ _ _ _ _ h=>h.elim⟩
end
inductive EntsOf (w:World):List DictEntry->List (Z7 × V)->Prop
 | nil:EntsOf w [] []
 | cons {e:DictEntry}{k:Z7}{v:V}{es:List DictEntry}{kvs:List (Z7 × V)}:ZhQ k e.key=true->e.hash=JG w k->ZH v e.val->EntsOf w es kvs->EntsOf w (e :: es) ((k,v) :: kvs)
theorem EntsOf.vs{P:Program}{w:World}{es:List DictEntry}{kvs:List (Z7 × V)}(h:EntsOf w es kvs):∃ vs,Pairs (ZU P w) es vs/\KV kvs vs/\vs.map (·.1)=kvs.map (·.1)/\∀ e∈es,∃ k,(ZU P w).is k e.key=true/\e.hash=(ZU P w).hash k:=by
 induction h with
 | nil=>exact⟨[],.nil,.nil,rfl,λe h=>by cases h⟩
 | @cons e k v es kvs h1 h2 h3 _ ih =>
  obtain⟨vs,g1,g2,g3,g4⟩:=ih
  refine⟨(k,e.val) :: vs,.cons h1 rfl g1,.cons ⟨rfl,h3⟩ g2,by rw [Yq,Yq,g3],λe' he=>?_⟩
  rcases Ym.mp he with rfl | he
  ·exact⟨k,h1,h2⟩
  ·exact g4 e' he
def ZgQ{P:Program}{w:World}{K:PySem.W.Frag}{a:Addr}{es:Array DictEntry}{ep:Nat}{kvs:List (Z7 × V)}(lk:K.lookup a=some ⟨.type "dict",none,.dict es ep,#[]⟩)(ha:(a == sysModules)=false)(he:EntsOf w es.toList kvs)(hn:(kvs.map (·.1)).Nodup):GDict P w K a kvs:=by
 obtain⟨vs,g1,g2,g3,g4⟩:=he.vs (P:=P)
 exact⟨ha,_,vs,lk,⟨es,ep,⟨rfl,rfl,rfl⟩,rfl,λe hm=>g4 e (by simpa using hm),g1,by rw [g3]; exact hn⟩,g2⟩
section
variable {X:Cx}{E:XK}{ts cs:List Str}{caps:List Nat}{sc:Scope}{cl:List (Str × Addr)}
end
section
variable {X:Cx}{pins:List (Addr × Obj)}{σ:St}{H:Hp}{s:Shared}{l:Addr}{xs:List V}{ks:List Int}{b:Bool}{f:Value}{kw:List (Str × Value)}{E:VSP}{Q:VSP}
end
end My
namespace My
open PySem PySem.W PySem.Calls PyProof.Rows
structure KaOrd(lt:Nat->Nat->Bool):Prop where
 refl:∀ a,lt a a=false
 trans:∀ a b c,lt b a=false->lt c b=false->lt c a=false
 asym:∀ a b,lt a b=true->lt b a=false
section
variable {lt:Nat->Nat->Bool}{cmp:Nat->Nat->(Bool->Shared->Prop)->Shared->Prop}{I:Shared->Prop}{N:Nat}
def ZgI(lt:Nat->Nat->Bool)(cmp:Nat->Nat->(Bool->Shared->Prop)->Shared->Prop)(I:Shared->Prop)(N:Nat):Prop :=
 ∀ i j,i < N->j < N->∀ (C:Bool->Shared->Prop) s,I s->(∀ s',I s'->C (lt i j) s')->cmp i j C s
def JT(N:Nat)(p:Array Nat):Prop:=p.Perm (List.range N).toArray
theorem JT.size{p:Array Nat}(h:JT N p):p.size=N:=by
 have:=(Array.perm_iff_toList_perm.mp h).length_eq
 simpa using this
def JT.blw{p:Array Nat}(h:JT N p){i:Nat}(hi:i < N):p.getD i 0 < N:=by
 have hs:=h.size
 have hm:p.getD i 0∈p.toList:=by
  rw [Array.getD,dif_pos (hs ▸ hi)]
  exact Array.getElem_mem_toList _
 have:=(List.Perm.mem_iff (Array.perm_iff_toList_perm.mp h)).mp hm
 simpa using this
def JT.rev{p:Array Nat}(h:JT N p)(i j:Nat):JT N (kas_rev p i j):=(mirror_perm p i j _).trans h
def JT.bub{p:Array Nat}(h:JT N p)(i j:Nat):JT N (bubble p i j):=(bubble_perm p i j).trans h
def ZeF{p q:Array Nat}{i j:Nat}(h:p[i]?=q[j]?):p.getD i 0=q.getD j 0:=by
 rw [Array.getD_eq_getD_getElem?,Array.getD_eq_getD_getElem?,h]
def Zje{p:Array Nat}{i j:Nat}(hj:j<=p.size)(k:Nat):(kas_rev p i j).getD k 0=if i<=k/\k < j then p.getD (i + j - 1 - k) 0 else p.getD k 0:=by
 have e:=getElem?_mirror_all (i:=i) hj k
 unfold kas_rev
 by_cases h1:i<=k/\k < j
 ·rw [if_pos h1] at e ⊢; exact ZeF e
 ·rw [if_neg h1] at e ⊢; exact ZeF e
def ZpA{p:Array Nat}{src d:Nat}(hs:src < p.size)(hd:d<=src)(k:Nat):(bubble p src d).getD k 0=if k=src - d then p.getD src 0 else if src - d < k/\k<=src then p.getD (k - 1) 0 else p.getD k 0:=by
 have e:=getElem?_bubble hs d hd k
 by_cases h1:k=src - d
 ·rw [if_pos h1] at e ⊢; exact ZeF e
 ·rw [if_neg h1] at e ⊢
  by_cases h2:src - d < k/\k<=src
  ·rw [if_pos h2] at e ⊢; exact ZeF e
  ·rw [if_neg h2] at e ⊢; exact ZeF e
def Zjb(lt:Nat->Nat->Bool)(p:Array Nat)(k:Nat):Prop:=∀ i j,i<=j->j < k->lt (p.getD j 0) (p.getD i 0)=false
def ZcW(lt:Nat->Nat->Bool)(p:Array Nat)(k:Nat):Prop:=∀ i j,i<=j->j < k->lt (p.getD i 0) (p.getD j 0)=false
def Zq6(O:KaOrd lt){p:Array Nat}{k:Nat}(h1:1<=k)(h:Zjb lt p k)(e:lt (p.getD k 0) (p.getD (k - 1) 0)=false):Zjb lt p (k + 1):=by
 intro i j hij hj
 by_cases hk:j < k
 ·exact h i j hij hk
 ·have:j=k:=by omega
  subst this
  by_cases hi:i=j
  ·rw [hi]; exact O.refl _
  ·exact O.trans _ _ _ (h i (j - 1) (by omega) (by omega)) e
def ZdB(O:KaOrd lt){p:Array Nat}{k:Nat}(h1:1<=k)(h:ZcW lt p k)(e:lt (p.getD (k - 1) 0) (p.getD k 0)=false):ZcW lt p (k + 1):=by
 intro i j hij hj
 by_cases hk:j < k
 ·exact h i j hij hk
 ·have:j=k:=by omega
  subst this
  by_cases hi:i=j
  ·rw [hi]; exact O.refl _
  ·exact O.trans _ _ _ e (h i (j - 1) (by omega) (by omega))
def Zk0(O:KaOrd lt)(hc:ZgI lt cmp I N){p:Array Nat}(hp:JT N p):∀ (f k:Nat) {Q:Nat->Shared->Prop}{s:Shared},I s->1<=k->k + f=N->Zjb lt p k ->
  (∀ m s',I s'->k<=m->m<=N->Zjb lt p m->(m < N->lt (p.getD m 0) (p.getD (m - 1) 0)=true)->Q m s')->(kas_asc p f k).kasWp cmp Q s
 | 0,k,Q,s,hi,h1,hf,hu,q=>q k s hi (Yd _) (by omega) hu λh=>absurd h (by omega)
 | f + 1,k,Q,s,hi,h1,hf,hu,q=>by
  refine hc _ _ (hp.blw (by omega)) (hp.blw (by omega)) _ s hi λs' hi'=>?_
  cases hl:lt (p.getD k 0) (p.getD (k - 1) 0) with
  | true =>
   dsimp only
   rw [if_pos rfl]
   exact q k s' hi' (Yd _) (by omega) hu λ_=>hl
  | false =>
   dsimp only
   rw [if_neg (by simp)]
   exact Zk0 O hc hp f (k + 1) hi' (by omega) (by omega) (Zq6 O h1 hu hl) λm s2 i2 g1 g2=>q m s2 i2 (by omega) g2
def ZgB{p:Array Nat}{k a b:Nat}(hb:b<=p.size)(hbk:b<=k)(h:ZcW lt p k)(he:∀ i j,a<=i->i < b->a<=j->j < b->lt (p.getD i 0) (p.getD j 0)=false):ZcW lt (kas_rev p a b) k:=by
 intro i j hij hj
 rw [Zje hb,Zje hb]
 split
 ·split
  ·exact he _ _ (by omega) (by omega) (by omega) (by omega)
  ·exact h _ _ (by omega) (by omega)
 ·split
  ·exact h _ _ (by omega) (by omega)
  ·exact h _ _ hij hj
def ZfW(O:KaOrd lt)(hc:ZgI lt cmp I N):∀ (f:Nat) (p:Array Nat) (k q:Nat) {Q:Array Nat × Nat × Nat->Shared->Prop}{s:Shared},JT N p->I s->1<=k->q + 1<=k->k + f=N->ZcW lt p k ->
  (∀ i j,k - (q + 1)<=i->i < k->k - (q + 1)<=j->j < k->lt (p.getD i 0) (p.getD j 0)=false) ->
  (∀ p' m r s',JT N p'->I s'->1<=m->m<=N->r + 1<=m->ZcW lt p' m->(∀ i j,m - (r + 1)<=i->i < m->m - (r + 1)<=j->j < m->lt (p'.getD i 0) (p'.getD j 0)=false)->Q (p',m,r) s') ->
  (kas_desc f p k q).kasWp cmp Q s
 | 0,p,k,q,Q,s,hp,hi,h1,hq,hf,hd,he,g=>g p k q s hp hi h1 (by omega) hq hd he
 | f + 1,p,k,q,Q,s,hp,hi,h1,hq,hf,hd,he,g=>by
  have hs:=hp.size
  refine hc _ _ (hp.blw (by omega)) (hp.blw (by omega)) _ s hi λs' hi'=>?_
  cases hl:lt (p.getD k 0) (p.getD (k - 1) 0) with
  | true =>
   dsimp only
   rw [if_pos rfl]
   have hd':ZcW lt p (k + 1):=ZdB O h1 hd (O.asym _ _ hl)
   have one:∀ (p':Array Nat) i j,k + 1 - (0 + 1)<=i->i < k + 1->k + 1 - (0 + 1)<=j->j < k + 1->lt (p'.getD i 0) (p'.getD j 0)=false:=by
    intro p' i j a b c d
    have e1:i=k:=by omega
    have e2:j=k:=by omega
    rw [e1,e2]; exact O.refl _
   split
   ·exact ZfW O hc f _ (k + 1) 0 (hp.rev _ _) hi' (by omega) (by omega) (by omega) (ZgB (by omega) (by omega) hd' he) (one _) g
   ·exact ZfW O hc f _ (k + 1) 0 hp hi' (by omega) (by omega) (by omega) hd' (one _) g
  | false =>
   dsimp only
   rw [if_neg (by simp)]
   refine hc _ _ (hp.blw (by omega)) (hp.blw (by omega)) _ s' hi' λs2 hi2=>?_
   cases hm:lt (p.getD (k - 1) 0) (p.getD k 0) with
   | true =>
    dsimp only
    rw [if_pos rfl]
    exact g p k q s2 hp hi2 h1 (by omega) hq hd he
   | false =>
    dsimp only
    rw [if_neg (by simp)]
    refine ZfW O hc f p (k + 1) (q + 1) hp hi2 (by omega) (by omega) (by omega) (ZdB O h1 hd hm) (λi j a b c d=>?_) g
    by_cases e1:i=k
    ·by_cases e2:j=k
     ·rw [e1,e2]; exact O.refl _
     ·rw [e1]; exact O.trans _ _ _ (he (k - 1) j (by omega) (by omega) (by omega) (by omega)) hl
    ·by_cases e2:j=k
     ·rw [e2]; exact O.trans _ _ _ hm (he i (k - 1) (by omega) (by omega) (by omega) (by omega))
     ·exact he i j (by omega) (by omega) (by omega) (by omega)
def Zjv(O:KaOrd lt)(hc:ZgI lt cmp I N){p:Array Nat}{k:Nat}{Q:Nat × Array Nat->Shared->Prop}{s:Shared}(hp:JT N p)(hi:I s)(h1:1<=k)(hk:k<=N)(hd:ZcW lt p k)
  (g:∀ m p' s',JT N p'->I s'->1<=m->m<=N->Zjb lt p' m->Q (m,p') s'):(kas_tail3 k N p).kasWp cmp Q s:=by
 have hs:=hp.size
 unfold kas_tail3
 rw [Vg]
 refine Zk0 O hc (hp.rev 0 k) (N - k) k hi h1 (by omega) (λi j a b=>?_) λm s' i' a b c _=>g m _ s' (hp.rev _ _) i' (by omega) b c
 rw [Zje (by omega),Zje (by omega),if_pos ⟨by omega,by omega⟩,if_pos ⟨by omega,by omega⟩]
 exact hd _ _ (by omega) (by omega)
def ZeP(O:KaOrd lt)(hc:ZgI lt cmp I N){p:Array Nat}{k:Nat}{Q:Nat × Array Nat->Shared->Prop}{s:Shared}(hp:JT N p)(hi:I s)(h1:1<=k)(hk:k + 1<=N)(hd:ZcW lt p (k + 1))
  (g:∀ m p' s',JT N p'->I s'->1<=m->m<=N->Zjb lt p' m->Q (m,p') s'):(kas_descPart k N p).kasWp cmp Q s:=by
 unfold kas_descPart
 rw [Vg]
 refine ZfW O hc (N - (k + 1)) p (k + 1) 0 hp hi (by omega) (by omega) (by omega) hd (λi j a b c d=>?_) λp' m r s' hp' i' g1 g2 g3 g4 g5=>?_
 ·have e1:i=k:=by omega
  have e2:j=k:=by omega
  rw [e1,e2]; exact O.refl _
 ·have hs:=hp'.size
  show KasT.kasWp cmp (if r > 0 then kas_tail3 m N (kas_rev p' (m - (r + 1)) m) else kas_tail3 m N p') Q s'
  split
  ·exact Zjv O hc (hp'.rev _ _) i' g1 g2 (ZgB (by omega) (Yd _) g4 g5) g
  ·exact Zjv O hc hp' i' g1 g2 g4 g
def Znt(O:KaOrd lt)(hc:ZgI lt cmp I N){p:Array Nat}{Q:Nat × Array Nat->Shared->Prop}{s:Shared}(hN:1<=N)(hp:JT N p)(hi:I s)
  (g:∀ m p' s',JT N p'->I s'->1<=m->m<=N->Zjb lt p' m->Q (m,p') s'):(kas_count N p).kasWp cmp Q s:=by
 have hs:=hp.size
 unfold kas_count
 rw [Vg]
 refine Zk0 O hc hp (N - 1) 1 hi (Yd _) (by omega) (λi j a b=>?_) λm s' i' g1 g2 g3 g4=>?_
 ·have e1:i=0:=by omega
  have e2:j=0:=by omega
  rw [e1,e2]; exact O.refl _
 ·by_cases e:m=N
  ·rw [if_pos (by simp [e])]
   exact g m p s' hp i' g1 g2 g3
  ·rw [if_neg (by simp [e])]
   have hl:=g4 (by omega)
   split
   ·refine hc _ _ (hp.blw (by omega)) (hp.blw (by omega)) _ s' i' λs2 i2=>?_
    cases hm:lt (p.getD 0 0) (p.getD (m - 1) 0) with
    | true =>
     dsimp only
     rw [if_pos rfl]
     exact g m p s2 hp i2 g1 g2 g3
    | false =>
     dsimp only
     rw [if_neg (by simp)]
     have heq:∀ i j,i < m->j < m->lt (p.getD i 0) (p.getD j 0)=false:=λi j a b =>
      O.trans _ _ _ (g3 j (m - 1) (by omega) (by omega)) (O.trans _ _ _ hm (g3 0 i (by omega) a))
     have hd:ZcW lt p (m + 1):=ZdB O g1 (λi j _ b=>heq i j (by omega) b) (O.asym _ _ hl)
     exact ZeP O hc (hp.rev _ _) i2 g1 (by omega) (ZgB (by omega) (by omega) hd λi j _ b _ d=>heq i j b d) g
   ·have e1:m=1:=by omega
    subst e1
    refine ZeP O hc hp i' g1 (by omega) (ZdB O g1 (λi j a b=>?_) (O.asym _ _ hl)) g
    have e1:i=0:=by omega
    have e2:j=0:=by omega
    rw [e1,e2]; exact O.refl _
def ZgO(O:KaOrd lt)(hc:ZgI lt cmp I N){p:Array Nat}{k:Nat}(hp:JT N p)(hk:k < N)(hu:Zjb lt p k):∀ (f l r:Nat) {Q:Nat->Shared->Prop}{s:Shared},I s->l<=r->r<=k->r - l<=f ->
  (∀ i,i < l->lt (p.getD k 0) (p.getD i 0)=false)->(∀ i,r<=i->i < k->lt (p.getD k 0) (p.getD i 0)=true) ->
  (∀ m s',I s'->m<=k->(∀ i,i < m->lt (p.getD k 0) (p.getD i 0)=false)->(∀ i,m<=i->i < k->lt (p.getD k 0) (p.getD i 0)=true)->Q m s')->(kas_place p k f l r).kasWp cmp Q s
 | 0,l,r,Q,s,hi,h1,h2,hf,a,b,g=>g l s hi (by omega) a λi x y=>b i (by omega) y
 | f + 1,l,r,Q,s,hi,h1,h2,hf,a,b,g=>by
  unfold kas_place
  by_cases e:l >= r
  ·rw [if_pos e]
   exact g l s hi (by omega) a λi x y=>b i (by omega) y
  ·rw [if_neg e]
   refine hc _ _ (hp.blw hk) (hp.blw (by omega)) _ s hi λs' i'=>?_
   cases hl:lt (p.getD k 0) (p.getD ((l + r) / 2) 0) with
   | true =>
    dsimp only
    rw [if_pos rfl]
    refine ZgO O hc hp hk hu f l ((l + r) / 2) i' (by omega) (by omega) (by omega) a (λi x y=>?_) g
    cases hx:lt (p.getD k 0) (p.getD i 0) with
    | true=>rfl
    | false=>exact absurd (O.trans _ _ _ (hu _ _ x y) hx) (by rw [hl]; simp)
   | false =>
    dsimp only
    rw [if_neg (by simp)]
    exact ZgO O hc hp hk hu f ((l + r) / 2 + 1) r i' (by omega) h2 (by omega) (λi x=>O.trans _ _ _ (hu i _ (by omega) (by omega)) hl) b g
def Zo7(O:KaOrd lt)(hc:ZgI lt cmp I N):∀ (f:Nat) (p:Array Nat) (k:Nat) {Q:Array Nat->Shared->Prop}{s:Shared},JT N p->I s->k + f=N->Zjb lt p k ->
  (∀ p' s',JT N p'->I s'->Zjb lt p' N->Q p' s')->(kas_bin f p k).kasWp cmp Q s
 | 0,p,k,Q,s,hp,hi,hf,hu,g=>g p s hp hi (by rw [show N=k by omega]; exact hu)
 | f + 1,p,k,Q,s,hp,hi,hf,hu,g=>by
  have hs:=hp.size
  unfold kas_bin
  rw [Vg]
  refine ZgO O hc hp (by omega) hu k 0 k hi (by omega) (Yd _) (by omega) (λi x=>absurd x (by omega)) (λi x y=>absurd x (by omega)) λm s' i' g1 g2 g3=>?_
  refine Zo7 O hc f _ (k + 1) (hp.bub _ _) i' (by omega) (λi j a b=>?_) g
  have ek:k - (k - m)=m:=by omega
  rw [ZpA (by omega) (by omega),ZpA (by omega) (by omega),ek]
  repeat' split
  all_goals first
   | exact O.refl _
   | exact hu _ _ (by omega) (by omega)
   | exact g2 _ (by omega)
   | exact O.asym _ _ (g3 _ (by omega) (by omega))
   | (exfalso; omega)
def Zp7(O:KaOrd lt)(hc:ZgI lt cmp I N){Q:Array Nat->Shared->Prop}{s:Shared}(hN:1<=N)(hi:I s)(g:∀ p s',JT N p->I s'->Zjb lt p N->Q p s'):(kas_sort N).kasWp cmp Q s:=by
 unfold kas_sort
 rw [Vg]
 refine Znt O hc hN (Array.Perm.refl _) hi λm p' s' hp' i' g1 g2 g3=>?_
 show KasT.kasWp cmp (if m < N then kas_bin (N - max m 1) p' (max m 1) else .ret p') Q s'
 have e:max m 1=m:=by omega
 rw [e]
 split
 ·exact Zo7 O hc (N - m) p' m hp' i' (by omega) g3 g
 ·exact g p' s' hp' i' (by rw [show N=m by omega]; exact g3)
end
end My
namespace My
open PySem PySem.SeqAt PySem.MeetsSeq PySem.MeetsSeq2 PySem.MeetsSeq3 PyProof.Rows
open AutoSeq1 (wpAny_loadPart')
end My
namespace My
open PySem PySem.Spec L2
open PyProof.Rows hiding St
open PySem.W (kat_end kas_ask KatFin KasFin katRev)
def Zla{xs:List V}{vs:List Value}(h:ZB xs vs)(i:Nat):ZH (xs.getD i .non) (vs.getD i Value.none):=by
 induction h generalizing i with
 | nil=>exact rfl
 | cons h1 _ ih =>
  cases i with
  | zero=>exact h1
  | succ i=>exact ih i
theorem Zjd{xs:List V}{vs:List Value}(h:ZB xs vs):∀ l:List Nat,ZB (l.map λi=>xs.getD i .non) (l.map λi=>vs.getD i Value.none)
 | []=>.nil
 | i :: l=>.cons (Zla h i) (Zjd h l)
section
variable {X:Cx}{pins:List (Addr × Obj)}{σ:St}{H:Hp}{s:Shared}{l:Addr}{xs:List V}{f:Value}{kw:List (Str × Value)}{E:VSP}{Q:VSP}{KeyIs:Nat->Hp->Value->Prop}{lt:Nat->Nat->Bool}{κ:SortKind}
end
end My
namespace My
open PySem PySem.Spec L2
open PyProof.Rows hiding St
open PySem.W (kat_lt kat_cons kat_nil kat_yes kat_no kat_one kat_kind KatTups KatLex KatGo)
structure Sto{α:Type}(r:α->α->Bool):Prop where
 irr:∀ a,r a a=false
 tr:∀ a b c,r a b=true->r b c=true->r a c=true
 tri:∀ a b,r a b=false->r b a=false->a=b
def Sto.asym{α:Type}{r:α->α->Bool}(h:Sto r){a b:α}(e:r a b=true):r b a=false:=by
 cases q:r b a with
 | false=>rfl
 | true=>have:=h.tr _ _ _ e q; rw [h.irr] at this; cases this
def Sto.ka{α:Type}{r:α->α->Bool}(h:Sto r)(f:Nat->α):KaOrd λi j=>r (f i) (f j) where
 refl a:=h.irr _
 trans a b c h1 h2:=by
  cases q:r (f c) (f a) with
  | false=>rfl
  | true =>
   exfalso
   cases q2:r (f b) (f c) with
   | true=>have:=h.tr _ _ _ q2 q; rw [h1] at this; cases this
   | false =>
    have e:=h.tri _ _ q2 h2
    rw [e,q] at h1
    cases h1
 asym a b e:=h.asym e
def Zlf:Sto λx y:Str=>decide (x.cps.toList < y.cps.toList) where
 irr a:=Yp (List.lt_irrefl _)
 tr a b c h1 h2:=Yt (List.lt_trans (of_decide_eq_true h1) (of_decide_eq_true h2))
 tri a b h1 h2:=by
  have e:a.cps.toList=b.cps.toList:=List.le_antisymm (of_decide_eq_false h2) (of_decide_eq_false h1)
  cases a; cases b
  simpa using e
section
variable {X:Cx}{pins:List (Addr × Obj)}{σ:St}{H:Hp}{s:Shared}{E:VSP}
end
end My
namespace My
open PySem PySem.Spec L2
open PyProof.Rows hiding St
open PySem.W (kat_lt kat_cons kat_nil kat_yes kat_no kat_one kat_kind kat_run kat_snds kas_item kas_ask KatTups KatLex KatGo)
section
variable {prog:Program}{w:World}{A:Around}{E:VSP}{s:Shared}
def Zf7{a:Addr}{vs:List Value}{n:Nat}{P:PySem.Fin->Shared->Prop}{lt:Nat->Nat->Bool}{κ:SortKind}(ho:s.heap.get? a=some (seqObj "list" vs.toArray n))(h64:vs.length < 64)(O:KaOrd lt)
  (kind:2<=vs.length->∀ h',(∀ b o,b ≠ a->s.heap.get? b=some o->h'.get? b=some o)->∀ C:SortKind->Shared->Prop,C κ { s with heap:=h' }->wpAny (model prog w) A (keyKind' vs.toArray) C E { s with heap:=h' })
  (cmp:∀ h',(∀ b o,b ≠ a->s.heap.get? b=some o->h'.get? b=some o)->∀ i j,i < vs.length->j < vs.length->∀ C:Bool->Shared->Prop,C (lt i j) { s with heap:=h' }->wpAny (model prog w) A (keyLt' κ (vs.getD i Value.none) (vs.getD j Value.none)) C (λ_ _=>False) { s with heap:=h' })
  (h:∀ p:Array Nat,JT vs.length p->Zjb lt p vs.length->P (.done (.ret .none)) { s with heap:=sortedHeap s.heap a vs (List.toArray (p.toList.map λi=>vs.getD i Value.none)) }) :
  wpAny (model prog w) A (Builtin.«list.sort» ⟨[.ref a],[]⟩) P E s:=by
 rw [list_sort_plain]
 have ha:a < s.heap.objs.size:=Ye ho
 refine Ya (listItems_at ho rfl ?_)
 refine Ya (listUpdate_at ho rfl ?_ (by rw [YA,Y2]; omega) (YC _))
 obtain⟨e1,ho1⟩:∃ e1,(s.heap.update a (Obj.mapSeq λ_=>#[])).get? a=some (seqObj "list" #[] e1):=⟨_,get?_update_seq ho (λ_=>#[])⟩
 refine Ya (seqEpoch_at ho1 rfl ?_)
 refine Ya (wpAny_newTuple ?_ (by show vs.length<=_; rw [Y2]; omega))
 refine Ya (wpAny_newList ?_ (YC _))
 refine YJ ?_
 have ho6:(((s.heap.update a (Obj.mapSeq λ_=>#[])).push (seqObj "tuple" vs.toArray 0)).push (seqObj "list" #[] 0)).get? a=some (seqObj "list" #[] e1) :=
  Yi _ (Yi _ ho1)
 have kp:∀ b o,b ≠ a->s.heap.get? b=some o->(((s.heap.update a (Obj.mapSeq λ_=>#[])).push (seqObj "tuple" vs.toArray 0)).push (seqObj "list" #[] 0)).get? b=some o:=λb o hb e =>
  Yi _ (Yi _ ((Heap.get?_update_ne _ _ _ _ hb).trans e))
 show wpAny (model prog w) A _ P E { s with heap:=((s.heap.update a (Obj.mapSeq λ_=>#[])).push (seqObj "tuple" vs.toArray 0)).push (seqObj "list" #[] 0) }
 dsimp only
 by_cases h2:vs.toArray.size < 2
 ·rw [if_pos h2,if_pos h2]
  refine Ya (Yc ?_)
  rw [StateT.run_pure]
  refine Ya (Yc ?_)
  dsimp only
  refine Ya (seqEpoch_at ho6 rfl ?_)
  have hv:∀ l:List Value,l.length < 2->((l.toArray.zip l.toArray).map (·.2))=List.toArray ((List.toArray (List.range l.length)).toList.map λi=>l.getD i Value.none):=λl hl=>by
   match l,hl with
   | [],_=>simp
   | [v],_=>simp
  have hz:vs.length < 2:=by simpa using h2
  have e:(arrOf (SortSt.mk' general' (vs.toArray.zip vs.toArray) #[] 7 none)).map (·.2)=List.toArray ((List.toArray (List.range vs.length)).toList.map λi=>vs.getD i Value.none):=hv vs hz
  rw [e]
  refine wpAny_bind (listUpdate_at ho6 rfl ?_ (Nat.zero_le _) (by simp; rw [sizeLine_eq]; omega))
  simp only [bne_self_eq_false,Bool.false_eq_true,if_false]
  refine Yc (h (List.toArray (List.range vs.length)) (Array.Perm.refl _) λi j hij hj=>?_)
  have:i=j:=by omega
  subst this; exact O.refl _
 ·have hn:2<=vs.length:=by simpa using h2
  rw [if_neg h2,if_neg h2]
  refine Ya (kind hn _ kp _ ?_)
  refine Ya (Yk (kat_run (G:=λp s'=>JT vs.length p/\Zjb lt p vs.length/\s'={ s with heap:=((s.heap.update a (Obj.mapSeq λ_=>#[])).push (seqObj "tuple" vs.toArray 0)).push (seqObj "list" #[] 0) })
   (Q:=λst' s'=>∃ p:Array Nat,p.size=vs.length/\arrOf st'=p.map (kas_item (vs.toArray.zip vs.toArray))/\failedOf st'=none/\JT vs.length p/\Zjb lt p vs.length/\s'={ s with heap:=((s.heap.update a (Obj.mapSeq λ_=>#[])).push (seqObj "tuple" vs.toArray 0)).push (seqObj "list" #[] 0) })
   rfl hn h64 (λp' st' s' a1 a2 a3 ⟨a4,a5,a6⟩=>⟨p',a1,a2,a3,a4,a5,a6⟩) ?_) ?_ λ_ _ e=>e)
  ·have Zlz:ZgI lt (kas_ask prog w A κ vs) (λs2=>s2={ s with heap:=((s.heap.update a (Obj.mapSeq λ_=>#[])).push (seqObj "tuple" vs.toArray 0)).push (seqObj "list" #[] 0) }) vs.length:=by
    rintro i j hi hj C s2 rfl hC
    exact cmp _ kp i j hi hj C (hC _ rfl)
   exact Zp7 O Zlz (by omega) rfl λp s2 hp e2 hu=>⟨hp,hu,e2⟩
  rintro⟨⟨⟩,st'⟩ s' ⟨p,hp,har,hf,hin,hup,rfl⟩
  dsimp only
  have hout:=kat_snds rfl har
  rw [hout]
  have hsz:(List.toArray (p.toList.map λi=>vs.getD i Value.none)).size=vs.length:=by rw [YA,Yg,YO,hp]
  refine Ya (seqEpoch_at ho6 rfl ?_)
  refine Ya (listUpdate_at ho6 rfl ?_ (YC _) (Yj (Vh hsz) (by rw [Y2]; omega)))
  rw [hf]
  simp only [bne_self_eq_false,Bool.false_eq_true,if_false]
  exact Yc (h p hin hup)
end
def ZtT(h:Heap)(k:Int × Str)(v:Value):Prop:=∃ (a:Addr) (o:Obj) (t u n:Nat) (r:Value),v=.ref a/\h.get? a=some o/\o.cls=.type "tuple"/\o.data=.seq #[.int k.1 t,.str k.2 u,r] n
theorem ZtT.kept{h h':Heap}{k:Int × Str}{v:Value}(kp:∀ b o,h.get? b=some o->h'.get? b=some o)(r:ZtT h k v):ZtT h' k v:=by
 obtain⟨a,o,t,u,n,r,h1,h2,h3⟩:=r
 exact⟨a,o,t,u,n,r,h1,kp _ _ h2,h3⟩
section
variable {prog:Program}{w:World}{A:Around}{E:VSP}{s:Shared}
end
section
variable {X:Cx}{e:Expr}{t:TA}{p pos:Pos}
end
end My
namespace My
open PySem PySem.Spec L2
open PyProof.Rows hiding St
open PySem.W (kat_lt kat_cons kat_nil kat_yes kat_no kat_kind KatTups KatLex KdxG kdx_collect)
section
variable {X:Cx}{pins:List (Addr × Obj)}{σ:List (Option V)}{H G:Hp}{s:Shared}{h':Heap}
def Zm0{t':Nat}(I:Inv X pins σ H s)(k:∀ b u,s.heap.get? b=some u->h'.get? b=some u)(hs:Zn H G)(hn:∀ a o,G a=some o->H a=some o\/s.heap.objs.size<=a/\Ja X.prog X.w G h' a o):Inv X pins σ G { s with heap:=h',toks:=t' }:=by
 refine I.un ⟨λb u q _ _ _=>k b u q,λb u q _ _ _=>⟨u.slots,k b u q⟩,λb u q n _=>?_,λb u q _=>⟨u,k b u q⟩,λb xs q=>hs _ _ q,λb u xs q=>hs _ _ q,λb ps q=>⟨#[],by rw [hs _ _ q]; simp⟩⟩ (λb u e=>?_)
 ·cases z:G b with
  | none=>rfl
  | some o =>
   rcases hn b o z with h | ⟨h,_⟩
   ·rw [n] at h; cases h
   ·exact absurd (Yl (Ye q) h) (YE _)
 ·rcases hn b u e with h | ⟨_,h⟩
  ·exact (I.hok b u h).stay (λc v _ q=>k c v q) (λc q=>hs _ _ q) (λc xs q=>hs _ _ q) λc o q=>hs _ _ q
  ·exact h
end
def ZoY(h:Heap)(z:Str)(v:Value):Prop:=∃ (a:Addr) (o:Obj) (u n:Nat) (r:Value),v=.ref a/\h.get? a=some o/\o.cls=.type "tuple"/\o.data=.seq #[.str z u,r] n
theorem ZoY.kept{h h':Heap}{z:Str}{v:Value}(kp:∀ b o,h.get? b=some o->h'.get? b=some o)(r:ZoY h z v):ZoY h' z v:=by
 obtain⟨a,o,u,n,r,h1,h2,h3⟩:=r
 exact⟨a,o,u,n,r,h1,kp _ _ h2,h3⟩
section
variable {prog:Program}{w:World}{A:Around}{E:VSP}{s:Shared}
def Zln{ks:List Value}(h2:2<=ks.length)(h:∀ v∈ks,∃ z,ZoY s.heap z v){C:SortKind->Shared->Prop}(q:C (tuples' true) s):wpAny (model prog w) A (keyKind' ks.toArray) C E s:=by
 have:∀ (l:List Value),(∀ v∈l,∃ k,ZoY s.heap k v)->∃ fs:List Value,KatTups s.heap l fs/\fs.length=l.length/\∀ v∈fs,∃ n t,v=.str n t:=by
  intro l
  induction l with
  | nil=>intro _; exact⟨[],.nil,rfl,λv hv=>by cases hv⟩
  | cons v l ih =>
   intro hl
   obtain⟨k,a,o,u,n,r,rfl,ho,hc,hd⟩:=hl v (.head _)
   obtain⟨fs,g1,g2,g3⟩:=ih λw hw=>hl w (.tail _ hw)
   refine⟨.str k u :: fs,.cons ho hc hd rfl g1,by simp [g2],λw hw=>?_⟩
   rcases Ym.mp hw with rfl | hw
   ·exact⟨_,_,rfl⟩
   ·exact g3 w hw
 obtain⟨fs,g1,g2,g3⟩:=this ks h
 refine kat_kind (T:=.type "str") g1 (by omega) (λv hv=>?_) rfl ?_
 ·obtain⟨n,t,rfl⟩:=g3 v hv
  exact .now
 ·exact q
def ZpX{k k':Str}{v v':Value}(h:ZoY s.heap k v)(h':ZoY s.heap k' v')(hne:k=k'->v=v'){C:Bool->Shared->Prop}(q:C (decide (k.cps.toList < k'.cps.toList)) s):wpAny (model prog w) A (keyLt' (tuples' true) v v') C E s:=by
 obtain⟨a,o,u,n,r,rfl,ho,hc,hd⟩:=h
 obtain⟨a',o',u',n',r',rfl,ho',hc',hd'⟩:=h'
 refine kat_lt ho hd ho' hd' ?_
 show KatLex prog w A true (decide (2 < 2)) C [(.str k u,.str k' u'),(r,r')] 0 s
 refine kat_cons (wpAny_eqBool_str ?_)
 by_cases e2:k=k'
 ·rw [Yt e2]
  have ea:a=a':=by have:=hne e2; cases this; rfl
  subst ea
  rw [ho] at ho'
  cases ho'
  rw [hd] at hd'
  have er:r=r':=by
   injection hd' with h1
   injection h1 with h1
   injection h1 with _ h1
   injection h1 with h1
  subst er
  refine kat_yes (kat_cons (SeqAt.EqAt.same _ _ _ _ _ ?_))
  refine kat_yes (kat_nil ?_)
  rw [e2,Zlf.irr] at q
  exact q
 ·rw [Yp e2]
  exact kat_no (oneLt_str q)
end
def ZoQ{kvs:List (Z7 × V)}{vs:List (Z7 × Value)}(r:KV kvs vs):∀ {i:Nat}{kv:Z7 × V}{k:Z7}{u:Value},kvs[i]?=some kv->vs[i]?=some (k,u)->ZH kv.2 u:=by
 unfold KV at r
 induction r with
 | nil=>intro i kv k u h; simp at h
 | cons h t ih =>
  intro i kv k u h1 h2
  cases i with
  | zero=>simp at h1 h2; subst h1; rw [h2] at h; exact h.2
  | succ i=>exact ih (by simpa using h1) (by simpa using h2)
section
variable {X:Cx}{l:Expr}{tl:TE}{p pos apos cpos:Pos}
def ZtR(H:Hp)(x:V)(kv:Z7 × V):Prop:=∃ t,x=.ref t/\H t=some (.tup [kV kv.1,kv.2])
def Zi3(tl:TE):TE:=λσ H Q=>tl σ H λx H1=>∃ (a:Addr) (kvs:List (Z7 × V)) (ss:List Str),x=.ref a/\Rd H1 a (.dK kvs)/\kvs.map (·.1)=ss.map Sum.inr/\ss.Nodup/\ss.length < 64 /\
 ∀ b H2 (ys:List V) (qs:List (Z7 × V)) (ts:List Str),H1 b=none->Zn H1 H2->H2 b=some (.lst ys)->ys.length=qs.length->(∀ (i:Nat) y kv,ys[i]?=some y->qs[i]?=some kv->ZtR H2 y kv)->qs.Perm kvs->qs.map (·.1)=ts.map Sum.inr->ts.Pairwise leS->Q (.ref b) H2
def Zoi(hg:Gl X "sorted")(hm:X.mg "sorted"=none)(hl:QE X l tl)(hc:X.calm=true:=by rfl)(hbase:attributeBase l "items" X.env (eval l X.env)=eval l X.env:=by rfl)(hline:(apos.endLine == cpos.line)=true:=by rfl) :
  QE X (.Call (.Name "sorted" p) [.Call (.Attribute l "items" apos) [] [] cpos] [] pos) (Zi3 tl):=⟨by
 intro pins s σ H Q I h
 refine Vb (Zfc I hg hm (show bootBuiltins "sorted"=some (.builtin "sorted") by decide +kernel) ?_ (by decide) (by decide))
 refine PyProof.Rows.callWith_builtin1 ?_ rfl rfl
 show wpAny _ _ (spliced ((false,eval (.Call (.Attribute l "items" apos) [] [] cpos) X.env) :: [])) _ _ s
 refine Y8 ?_
 refine wpAny_Call_method0_late hbase hline (Z0 (hl.h pins s σ H _ I h) λv s1 ⟨x,H1,I1,r1,a,kvs,ss,ex,ea,hss,hnd,h64,q⟩=>?_)
 subst ex
 obtain rfl:v=Value.ref a:=r1
 obtain⟨t1,t2,_⟩:=Zpt I1 (.inl ⟨kvs,ea⟩)
 obtain⟨z,hd,vs,rel,dd⟩:=Zdq I1.hok ea
 obtain⟨ep,at_⟩:=dd.dictAt
 have hkl:kvs.length=ss.length:=by have:=congrArg List.length hss; simpa using this
 refine⟨"dict","dict.items",PySem.F.plainAttrs_dict,PySem.F.slot_dict_items,PySem.F.type_dict_items,t1,t2,YX rfl (PySem.evalArgs_none ?_)⟩
 refine call_meetsIn PySem.F.slot_dict_items dd.typeIs PySem.F.entry_dict_items (PySem.F.args_dict_items_1 _) (meets_dict_items (ZU X.prog X.w) a hd) ⟨⟨vs,dd⟩,?_⟩
 refine Vd ?_
 refine Calls.call_function_entry kind_sorted plain_sorted entry_sorted (args_sorted1 _) ?_
 unfold Builtin.«sorted»
 refine Ya (m:=checkCount "sorted" 1 1 _) (Yc ?_)
 refine Ya (kdx_collect (A:=X.A.in1) (s:={ s1 with heap:=s1.heap.push { cls:=.type "dict_items",data:=.fields #[.ref a] } }) (knd:=ZU X.prog X.w) (kvs:=vs) (ep:=ep) (I1.ok.hd hc) ⟨_,Yv _ rfl,rfl,rfl⟩ (at_.push _) (by rw [<- rel.length]; exact z) λh' tk as hk hl hG=>?_)
 have hal:as.length=ss.length:=by rw [hl,<- rel.length,hkl]
 have hlo:s1.heap.objs.size < h'.objs.size:=Ye (hk _ _ (Yv s1.heap rfl))
 have hab:∀ b∈as,s1.heap.objs.size<=b:=λb hb=>by
  have:=hG.above b hb
  have e:(s1.heap.push { cls:=.type "dict_items",data:=.fields #[.ref a] }).objs.size=s1.heap.objs.size + 1:=Heap.size_push ..
  have this:(s1.heap.push { cls:=.type "dict_items",data:=.fields #[.ref a] }).objs.size < b:=this
  rw [e] at this
  exact YF (Nat.lt_of_succ_lt this)
 have hun:as.Nodup:=hG.rise.imp λh e=>by rw [e] at h; exact YE _ h
 have hD:h'.objs.size ∉ as:=λm=>YE _ (hG.there m)
 refine Ya (wpAny_newList ?_ (by rw [Yg,hal]; exact Yj (YF h64) (by decide)))
 have hoL:(h'.push (seqObj "list" (as.map Value.ref).toArray 0)).get? h'.objs.size=some (seqObj "list" (as.map Value.ref).toArray 0):=Yv _ rfl
 have hvl:(as.map Value.ref).length=ss.length:=by rw [Yg,hal]
 have hrow:∀ j,(hj:j < as.length)->∃ kv key x,kvs[j]?=some kv/\kv.1=Sum.inr (ss.getD j Str.empty)/\ZH (kV kv.1) key/\ZH kv.2 x/\h'.get? as[j]=some { cls:=.type "tuple",data:=.seq #[key,x] }:=λj hj=>by
  obtain⟨key,k,x,e1,e2,e3⟩:=hG.pairs j _ (Yb hj)
  have hjk:j < kvs.length:=by omega
  obtain⟨kv,v,g1,g2⟩:=Zo2 rel hjk
  have e0:=e1
  rw [g2] at e0
  cases e0
  refine⟨kv,key,x,g1,?_,ZsZ e2,ZoQ rel g1 e1,e3⟩
  have:=congrArg (λl=>l[j]?) hss
  simp only [List.getElem?_map,g1,Option.map_some,List.getElem?_eq_getElem (show j < ss.length by omega)] at this
  rw [List.getD_eq_getElem?_getD,Yb (show j < ss.length by omega)]
  exact YB this
 have hr:∀ i,i < as.length->ZoY h' (ss.getD i Str.empty) ((as.map Value.ref).getD i Value.none):=λi hi=>by
  obtain⟨kv,key,x,g1,g2,g3,g4,g5⟩:=hrow i hi
  rw [g2] at g3
  obtain⟨t,rfl⟩:∃ t,key=.str (ss.getD i Str.empty) t:=g3
  exact⟨as[i],_,t,_,x,by rw [List.getD_eq_getElem?_getD,Yh,Yb hi]; rfl,g5,rfl,rfl⟩
 have hinj:∀ i j,i < as.length->j < as.length->ss.getD i Str.empty=ss.getD j Str.empty->i=j:=λi j hi hj e=>by
  have h1:=Vl hnd i (by omega)
  have h2:=Vl hnd j (by omega)
  rw [List.getD_eq_getElem?_getD,List.getD_eq_getElem?_getD,Yb (show i < ss.length by omega),Yb (show j < ss.length by omega)] at e
  simp only [Option.getD_some] at e
  rw [e,h2] at h1
  exact h1.symm
 have lt2:∀ {b:Addr}{o:Obj},h'.get? b=some o->b ≠ h'.objs.size:=λe=>Yn (Ye e)
 refine Ya (YJ (Vf slot_list_sort ⟨_,hoL,rfl⟩ entry_list_sort ?body (args_list_sort _)))
 case body =>
  refine Zf7 (s:={ s1 with heap:=h'.push (seqObj "list" (as.map Value.ref).toArray 0),toks:=tk }) hoL (by rw [hvl]; exact h64) (Zlf.ka λi=>ss.getD i Str.empty) (κ:=tuples' true)
   (λh2 h3 kp C hC=>?_) (λh3 kp i j hi hj C hC=>?_) λpp hpp hu=>⟨_,rfl,Yc ⟨_,rfl,?_⟩⟩
  ·refine Zln h2 (λv hv=>?_) hC
   obtain⟨i,hi,ei⟩:=List.getElem_of_mem hv
   have:=(hr i (by simpa using hi)).kept (h':=h3) λb o e=>kp b o (lt2 e) (Heap.get?_push_of_some _ e)
   rw [show (as.map Value.ref).getD i Value.none=(as.map Value.ref)[i] by rw [List.getD_eq_getElem?_getD,Yb hi]; rfl] at this
   exact⟨_,ei ▸ this⟩
  ·have hi':i < as.length:=by simpa using hi
   have hj':j < as.length:=by simpa using hj
   refine ZpX ((hr i hi').kept (h':=h3) λb o e=>kp b o (lt2 e) (Yi _ e)) ((hr j hj').kept (h':=h3) λb o e=>kp b o (lt2 e) (Yi _ e)) (λek=>?_) hC
   rw [hinj i j hi' hj' ek]
  have hpl:pp.toList.Perm (List.range as.length):=by
   have:=Array.perm_iff_toList_perm.mp hpp
   simpa using this
  have hplt:∀ i∈pp.toList,i < as.length:=λi hi=>YI.mp (hpl.mem_iff.mp hi)
  have hpn:pp.toList.Nodup:=hpl.symm.nodup List.nodup_range
  obtain⟨c,e1⟩:=Zha hoL (out:=List.toArray (pp.toList.map λi=>(as.map Value.ref).getD i Value.none))
  have kall:∀ b o,h'.get? b=some o->(sortedHeap (h'.push (seqObj "list" (as.map Value.ref).toArray 0)) h'.objs.size (as.map Value.ref) (List.toArray (pp.toList.map λi=>(as.map Value.ref).getD i Value.none))).get? b=some o:=λb o e=>Zfj (lt2 e) (Yi _ e)
  generalize sortedHeap (h'.push (seqObj "list" (as.map Value.ref).toArray 0)) h'.objs.size (as.map Value.ref) (List.toArray (pp.toList.map λi=>(as.map Value.ref).getD i Value.none))=h4 at e1 kall ⊢
  have vals:∀ l:List Addr,ZB (l.map V.ref) (l.map Value.ref):=λl=>by
   induction l with
   | nil=>exact .nil
   | cons a l ih=>exact .cons rfl ih
  have hDn:H1 h'.objs.size=none:=I1.hok.fresh (YF hlo)
  have han:∀ b∈as,H1 b=none:=λb hb=>I1.hok.fresh (hab b hb)
  let ys:List V:=pp.toList.map λi=>(as.map V.ref).getD i .non
  let G:Hp:=λb=>if b=h'.objs.size then some (.lst ys) else if b∈as then (kvs[as.idxOf b]?).map (λkv=>HO.tup [kV kv.1,kv.2]) else H1 b
  have hGD:G h'.objs.size=some (.lst ys):=if_pos rfl
  have hGa:∀ j,(hj:j < as.length)->∀ kv,kvs[j]?=some kv->G as[j]=some (.tup [kV kv.1,kv.2]):=λj hj kv e=>by
   have c1:as[j] ≠ h'.objs.size:=λz=>hD (z ▸ Yy hj)
   show (if as[j]=h'.objs.size then some (HO.lst ys) else if as[j]∈as then (kvs[as.idxOf as[j]]?).map (λkv=>HO.tup [kV kv.1,kv.2]) else H1 as[j])=_
   rw [if_neg c1,if_pos (Yy hj),Vl hun j hj,e]
   rfl
  have hS:Zn H1 G:=λb o e=>by
   show (if b=h'.objs.size then some (HO.lst ys) else if b∈as then (kvs[as.idxOf b]?).map (λkv=>HO.tup [kV kv.1,kv.2]) else H1 b)=_
   rw [if_neg (Ze e hDn),if_neg (λm=>by rw [han b m] at e; cases e)]
   exact e
  have hyl:ys.length=as.length:=by show (pp.toList.map _).length=_; rw [Yg,hpl.length_eq,List.length_range]
  have IG:Inv X pins σ G { s1 with heap:=h4,toks:=tk }:=Zm0 I1 (λb o e=>kall b o (hk b o (Yi _ e))) hS λb o e=>by
   have e':(if b=h'.objs.size then some (HO.lst ys) else if b∈as then (kvs[as.idxOf b]?).map (λkv=>HO.tup [kV kv.1,kv.2]) else H1 b)=some o:=e
   by_cases c1:b=h'.objs.size
   ·rw [if_pos c1] at e'
    cases e'
    subst c1
    exact .inr ⟨Nat.le_of_lt hlo,by rw [hyl,hal]; exact Nat.le_trans (Nat.le_of_lt h64) (by decide),_,c,Zjd (vals as) _,by simpa using e1⟩
   ·rw [if_neg c1] at e'
    by_cases c2:b∈as
    ·rw [if_pos c2] at e'
     obtain⟨j,hj,rfl⟩:=List.getElem_of_mem c2
     rw [Vl hun j hj] at e'
     obtain⟨kv,key,x,g1,g2,g3,g4,g5⟩:=hrow j hj
     rw [g1] at e'
     cases e'
     exact .inr ⟨hab _ c2,by show 2<=sizeLine; decide,[key,x],.cons g3 (.cons g4 .nil),⟨_,kall _ _ g5,rfl,_,rfl⟩⟩
    ·rw [if_neg c2] at e'
     exact .inl e'
  have kvl:kvs.length=as.length:=by omega
  obtain⟨d0,hd0⟩:∃ d0:Z7 × V,∀ i,i < as.length->kvs[i]?=some (kvs.getD i d0):=⟨(Sum.inr Str.empty,.non),λi hi=>by rw [List.getD_eq_getElem?_getD,Yb (show i < kvs.length by omega)]; rfl⟩
  have hsm:∀ i,i < as.length->(kvs.getD i d0).1=Sum.inr (ss.getD i Str.empty):=λi hi=>by
   obtain⟨kv,key,x,g1,g2,_⟩:=hrow i hi
   rw [hd0 i hi] at g1
   cases g1
   exact g2
  refine⟨.ref h'.objs.size,G,IG,rfl,q _ G ys (pp.toList.map λi=>kvs.getD i d0) (pp.toList.map λi=>ss.getD i Str.empty) hDn hS hGD (by rw [hyl,Yg,hpl.length_eq,List.length_range]) (λi y kv e2 e3=>?_) ?_ ?_ ?_⟩
  ·rw [Yh] at e2 e3
   cases e4:pp.toList[i]? with
   | none=>rw [e4] at e2; cases e2
   | some j =>
    rw [e4] at e2 e3
    have hj:=hplt j (Yx e4)
    cases e2
    cases e3
    refine⟨as[j],?_,hGa j hj _ (hd0 j hj)⟩
    show (as.map V.ref).getD j V.non=_
    rw [List.getD_eq_getElem?_getD,Yh,Yb hj]
    rfl
  ·have h1:(pp.toList.map λi=>kvs.getD i d0).Perm ((List.range as.length).map λi=>kvs.getD i d0):=hpl.map _
   have h2:((List.range as.length).map λi=>kvs.getD i d0)=kvs:=Y7 λi=>by
    rw [Yh]
    by_cases c:i < as.length
    ·rw [Vu c]; exact (hd0 i c).symm
    ·rw [List.getElem?_eq_none (by simp; omega),List.getElem?_eq_none (by omega)]; rfl
   rw [h2] at h1
   exact h1
  ·rw [YQ,YQ]
   exact Vt λi hi=>hsm i (hplt i hi)
  ·refine List.pairwise_map.mpr (List.pairwise_iff_getElem.mpr λi j hi hj hij=>?_)
   have hs:=hpp.size
   have gi:pp.getD i 0=pp.toList[i]:=by simp at hi; simp [hi]
   have gj:pp.getD j 0=pp.toList[j]:=by simp at hj; simp [hj]
   have h1:=hu i j (by omega) (by simp at hj; simp at hs; simp; omega)
   simp only [gi,gj] at h1
   exact List.not_lt.mp (of_decide_eq_false h1)⟩
end
section
variable {X:Cx}{a b e:Expr}{es:List Expr}{tx tb:TE}{t:TA}{p p2 pos:Pos}
def Zng:List V->Hp->VK->Prop:=λxs H Q=>∃ (x:V) (z:Str),xs=[x]/\Zmb x z/\Q (.str z) H
def Zlk:JC X (.type "str") Zng:=by
 intro pins s σ H xs us Q I r h
 obtain⟨x,z,rfl,hz,q⟩:=h
 rcases hz with ⟨i,rfl,hi,rfl⟩ | ⟨rfl,_⟩
 ·exact Zd7 pins s σ H _ us Q I r ⟨i,rfl,hi,q⟩
 ·obtain⟨u,rfl,ru⟩:=JZ r
  obtain⟨tk,rfl⟩:=ru
  exact PySem.P.str_of_str ⟨.str z,H,I.tok _,⟨_,rfl⟩,q⟩
def ZrH(hg:Gl X "str")(hm:X.mg "str"=none)(ha:QA X (e :: es) t)(hp:(e :: es).all ZF=true:=by rfl) :
  QE X (.Call (.Name "str" p) (e :: es) [] pos) (tCB Zng t):=⟨Zlh Zlk hg hm (by rfl) ha.h hp⟩
def ZqY(ha:QE X a tx)(hb:QE X b tb):QE X (.Subscript a (.Slice (some b) none none p2) pos) (tSl (ZuL X.K) tx (Ziq tb) Zc7):=⟨Zgc ZsE ha.h (Ziv hb.h) ZiP⟩
end
section
variable {X:Cx}{a b:Expr}{ta tb:TE}{pos:Pos}{k:Nat}
def ZtC:R2:=λx y H Q=>∃ p c ka,x=.ref p/\y=.ref c/\Rd H p (.dK ka)/\Rd H c (.dK [])/\Q (.bl (decide (ka.length=0))) H
def Zth(hr:Room k X.A):OpR X (compareOp .Eq) ZtC:=by
 intro pins s σ H x y v u Q I rx ry h
 obtain⟨p,c,ka,rfl,rfl,ha,hb,q⟩:=h
 have hu:=hr.units
 cases rx
 cases ry
 obtain⟨_,n1,va,kv1,d1⟩:=Zdq I.hok ha
 obtain⟨_,n2,vb,kv2,d2⟩:=Zdq I.hok hb
 have lA:va.length=ka.length:=kv1.length.symm
 have eB:vb=[]:=List.eq_nil_of_length_eq_zero kv2.length.symm
 subst eB
 refine PySem.W.keq_eq (A:=X.A) n1 n2 d1 d2 (by omega) (r:=true) (λe=>?_) ?_
 ·have:va=[]:=List.eq_nil_of_length_eq_zero e
  subst this
  exact .nil
 ·have e:(va.length == ([]:List (Z7 × Value)).length && true)=decide (ka.length=0):=by
   rw [lA]
   cases h:ka.length <;> rfl
  rw [e]
  exact⟨.bl _,H,I,rfl,q⟩
def ZuG(hr:Room k X.A)(ha:QE X a ta)(hb:QE X b tb):QT X (.Compare a [.Eq] [b] pos) (Jt (JQ ZtC ta tb)):=⟨Zcr (Zth hr) ha.h hb.h (Zb1 _)⟩
end
section
variable {X:Cx}{CX:CXT}{j k:Nat}{C:Addr}{x m fl:Str}{ps:List Str}{sp:Sp}{p pos apos:Pos}{e o value:Expr}{es:List Expr}{t:TA}{ta tv:TE}{E:XK}
def Zoq{pl:Sem Bool}(g:Goes X E)(F:Mth X.prog X.w X.K X.mg X.base (CX1 X.prog X.w) j C m ps sp)(hr:Room k X.A)(hj:j<=k)(ho:QE X o ta)
  (ht:eval (.Call (.Attribute o m apos) [] [] pos) X.env=(do
   let ov <- eval o X.env
   standAt apos.atName
   let (f,first) <- holding [ov] (getMethod ov m pl)
   callWith pos f first (backTo pos (starEach [] X.env)) (backToKw pos (keywordEach [] X.env))):=by rfl) :
  QE X (.Call (.Attribute o m apos) [] [] pos) (Zii C m sp [] E ta Zpg):=by
 obtain⟨f,fd,G,b,hm,c⟩:=F.ex
 exact⟨Zjc ho.h c hm G (hr.mono hj) b .nil g.pass ht⟩
end
section
variable {X:Cx}{a b:Expr}{ta tb:TE}{pos:Pos}{k:Nat}{ea:Addr}
def Ztb(hr:Room k X.A)(ha:QE (Xh X ea) a ta)(hb:QE (Xh X ea) b tb):QE (Xh X ea) (.Compare a [.Eq] [b] pos) (JQ Ztp ta tb):=⟨ZdN (λpins s σ H x y v u Q I rx ry h=>by
 obtain⟨t,n,p,c,e1,e2,h,hn,q⟩:=h
 have hu:=hr.units
 have hu2:(Xh X ea).A.units=X.A.units:=rfl
 exact ((h.at I rx ry (by omega)).2 ⟨p,c,e1,e2⟩) _ _ _ _ ⟨.bl t,H,I,rfl,q⟩) ha.h hb.h (Zb1 _)⟩
end
end My
set_option maxHeartbeats 4000000
namespace My
open PySem L2
theorem ZkV{i j:Int}:Zts (.int i) (.int j)=true:=rfl
theorem Zk7{i j:Str}:Zts (.str i) (.str j)=true:=rfl
end My
local macro_rules | `(tactic| walk_at "rd") => `(tactic| ((try dsimp only [L2.Znk, L2.Zf6, L2.Zrx, L2.Zs0, L2.ZnI, L2.Zny, L2.ZmT, L2.Zef, L2.J2, L2.tC, L2.JQ, L2.tUn, L2.rI, L2.rI0, L2.rU, L2.rEq, L2.rNe, L2.Jt, L2.tB, L2.Zto, L2.tOr, L2.ZtD, L2.Zm6, L2.ZuR, L2.Zoh, L2.tIf, L2.ZiF, L2.tCB, L2.Zpg, L2.Zhq, My.Zox, My.ZoI, L2.ZtM, My.ZnA, L2.Zom, L2.ZtH, My.ZdI, My.Zod, L2.ZtK, L2.ZtJ, L2.Ztt, L2.Zru, L2.Ztl, L2.tBM, L2.ZiQ, List.getElem?_cons_zero, List.getElem?_cons_succ, List.set_cons_zero, List.set_cons_succ, List.cons_append, List.nil_append, My.ZkV, My.Zk7, Bool.not_true, Bool.not_false, List.length_cons, List.length_nil, My.ZtF, My.ZpC, My.Zsn, My.Zmh, My.tFs, My.ZtG, My.tLm, L2.Zjk, L2.Zo6, L2.Ztu, L2.ZmA, My.tDG, My.sDP, My.tDI, L2.Ztx, L2.tSl, L2.Zc7, L2.Ziq, My.tXm, My.ZsJ, My.ZnX, My.ZrU, My.Zjm, My.ZuJ, My.ZuO, My.Zjp, My.Zjw, My.ZsC, L2.Zph, My.Zrk, My.Zm7, My.ZtS, My.Zum, My.Zhk, My.Zgl, My.ZtA, My.ZnZ, My.Zpc, L2.ZjL, My.ZsI, My.Zuq, My.tGI, My.ZlM, My.Zmn, My.Zi3, My.Zng, My.ZtC, My.Zli, L2.Zfu, L2.Zty, L2.Zm9, L2.Zii, L2.ZmD, L2.ZtB, L2.Ztz, My.Ztn, My.tXE, My.tXS, My.ZoZ, My.Zjl]); (try simp only [L2.Znk, L2.Zf6, L2.Zrx, L2.Zs0, L2.ZnI, L2.Zny, L2.ZmT, L2.Zef, L2.J2, L2.tC, L2.JQ, L2.tUn, L2.rI, L2.rI0, L2.rU, L2.rEq, L2.rNe, L2.Jt, L2.tB, L2.Zto, L2.tOr, L2.ZtD, L2.Zm6, L2.ZuR, L2.Zoh, L2.tIf,
 L2.ZiF,L2.tCB,L2.Zpg,L2.Zhq,My.Zox,My.ZoI,L2.ZtM,My.ZnA,L2.Zom,L2.ZtH,My.ZdI,My.Zod,L2.ZtK,L2.ZtJ,L2.Ztt,L2.Zru,L2.Ztl,L2.tBM,L2.ZiQ,
 List.getElem?_cons_zero,List.getElem?_cons_succ,List.set_cons_zero,List.set_cons_succ,Vs,List.cons_append,List.nil_append,Option.some.injEq,Option.some_inj,exists_eq_left,exists_eq_left',exists_eq_right,exists_eq,exists_eq',exists_and_left,exists_and_right,exists_const,
 L2.V.int.injEq,L2.V.bl.injEq,L2.V.ref.injEq,L2.V.str.injEq,L2.V.ty.injEq,L2.HO.lst.injEq,L2.HO.tup.injEq,reduceCtorEq,List.cons.injEq,and_true,true_and,and_false,false_and,exists_false,or_false,false_or,My.ZkV,My.Zk7,Bool.not_true,Bool.not_false,decide_eq_true_eq,Bool.false_eq_true,if_true,if_false,Bool.not_eq_true',decide_eq_false_iff_not,ite_self,ge_iff_le,gt_iff_lt,My.Zsa,My.Zu9,My.Zu6,My.Zu2,YH,List.length_nil,Nat.zero_add,and_assoc,My.ZtF,My.ZpC,My.Zsn,My.Zmh,My.tFs,My.ZtG,My.tLm,L2.Zjk,L2.Zo6,L2.Ztu,L2.ZmA,My.tDG,My.sDP,My.tDI,L2.Ztx,L2.tSl,L2.Zc7,L2.Ziq,My.tXm,My.ZsJ,My.ZnX,My.ZrU,My.Zjm,My.ZuJ,My.ZuO,My.Zjp,My.Zjw,My.ZsC,L2.Zph,My.Zrk,My.Zm7,My.ZtS,My.Zum,My.Zhk,My.Zgl,My.ZtA,My.ZnZ,My.Zpc,L2.ZjL,My.ZsI,My.Zuq,My.tGI,My.ZlM,My.Zmn,My.Zi3,My.Zng,My.ZtC,My.Zli,L2.Zfu,L2.Zty,L2.Zm9,L2.Zii,L2.ZmD,L2.ZtB,L2.Ztz,My.Ztn,My.tXE,My.tXS,My.ZoZ,My.Zjl,My.Zp1,My.ZnO,My.ZpI,My.Zoz,My.ZlZ,My.Znv,My.Zq2,My.Zsv,My.ZsO,My.ZrT,My.ZsU,My.Zsw,My.ZrV,Bool.true_eq_false,Int.reduceToNat,Int.reducePow,Int.reduceLT,Int.reduceLE,Int.reduceNeg,Int.reduceAbs,Int.reduceSub,Int.reduceMul,Nat.reduceLT,Nat.reduceLeDiff,Nat.reducePow,Int.zero_add,true_or,or_true,eq_self])))
namespace My
open PySem PySem.Spec L2
open PyProof.Rows hiding St
theorem Jx{N P:List Str}{sc:Scope}(a:sc.kind=.function:=by rfl)(b:sc.isCoroutine=false:=by rfl)(c:sc.isGenerator=false:=by rfl)(d:N.Nodup:=by decide +kernel)(e:N.take P.length=P:=by rfl)(f:∀ x∈P,sc.names.lookup x=some .local\/sc.names.lookup x=some .cell:=by decide +kernel)(g:∀ y∈sc.names,y.2 ≠ .free:=by decide +kernel):FnScope N P sc:=⟨a,b,c,d,e,f,g⟩
variable {K:PySem.W.Frag}
theorem JA{P:Program}{w:World}{mg:Str->Option Value}{base:Heap}{x qual:Str}{st:Stmt}{f:Addr}{fd:FuncData}{N ps:List Str}{k:Nat}{sp:Sp}(F:Fun K x qual st f fd)(S:FnScope N ps (Za st))(hb:∀ (cdv:Value) (A:Around) (outer:List Env) (s:Shared) (H:Hp) (vs:List V) (Q:VK) (E:XK),Room k (A.deeper (envOfC qual (Za st) s.heap.objs.size f cdv))->sp vs H Q E->∃ t,QB (ZjU Zx P w K mg base N qual (Za st) f cdv A outer s H E).nox (Zh st) t/\t { nx:=λ_ H'=>Q .non H',rt:=Q } (Zu N vs) H)(len:∀ vs H Q E,sp vs H Q E->vs.length=ps.length:=by intro vs H Q E h; repeat (first | (obtain⟨e,_⟩:=h; subst e; rfl) | (obtain⟨_,h⟩:=h))):FnOk P w K mg base Zx (k + 1) f fd ps sp:=okQ F S len hb
def Jy(i:Nat):Stmt:=PySem.Challenge.pw_roadshare_k84_a_desk_told.main.body.getD i (.Pass ⟨0,0,0,0⟩)
abbrev ZbR:Stmt:=Jy 16
def Zib:FnScope ["thing"] ["thing"] (Za ZbR):=Jx
abbrev Zam:Stmt:=Jy 17
def Zak:FnScope ["one","other","larger","smaller","rest"] ["one","other"] (Za Zam):=Jx
abbrev ZbF:Stmt:=Jy 20
def ZcZ:FnScope ["thing","top","bottom"] ["thing"] (Za ZbF):=Jx
abbrev Zbx:Stmt:=Jy 21
def ZfT:FnScope ["top","bottom","divisor"] ["top","bottom"] (Za Zbx):=Jx
abbrev Zb9:Stmt:=Jy 23
def ZjX:FnScope ["one","other"] ["one","other"] (Za Zb9):=Jx
abbrev Zcd:Stmt:=Jy 25
def Zj1:FnScope ["one","other"] ["one","other"] (Za Zcd):=Jx
abbrev Zcc:Stmt:=Jy 14
def Zj6:FnScope ["thing"] ["thing"] (Za Zcc):=Jx
abbrev ZbI:Stmt:=Jy 79
def ZhR:FnScope ["thing"] ["thing"] (Za ZbI):=Jx
abbrev Zcb:Stmt:=Jy 80
def ZfJ:FnScope ["thing","many","to"] ["thing","many"] (Za Zcb):=Jx
abbrev Za5:Stmt:=Jy 81
def Zch:FnScope ["thing","many","road"] ["thing"] (Za Za5):=Jx
abbrev ZbH:Stmt:=Jy 82
def Zct:FnScope ["roads","k","way","place"] ["roads","k"] (Za ZbH):=Jx
abbrev Zai:Stmt:=Z1 (Jy 83) 0
def Zej:FnScope ["self","roads"] ["self","roads"] (Za Zai):=Jx
abbrev Zaw:Stmt:=Z1 (Jy 83) 1
def ZgC:FnScope ["self"] ["self"] (Za Zaw):=Jx
abbrev ZaH:Stmt:=Z1 (Jy 83) 2
def Zhr:FnScope ["self"] ["self"] (Za ZaH):=Jx
abbrev Zaj:Stmt:=Z1 (Jy 83) 3
def Zem:FnScope ["self","k"] ["self","k"] (Za Zaj):=Jx
abbrev ZaA:Stmt:=Z1 (Jy 83) 4
def Zgh:FnScope ["self","k"] ["self","k"] (Za ZaA):=Jx
abbrev Zaa:Stmt:=Z1 (Jy 83) 7
def ZcB:FnScope ["self","k"] ["self","k"] (Za Zaa):=Jx
abbrev Zae:Stmt:=Z1 (Jy 83) 8
def ZdY:FnScope ["self","k"] ["self","k"] (Za Zae):=Jx
abbrev Zbb:Stmt:=Jy 86
def ZgP:FnScope ["price"] ["price"] (Za Zbb):=Jx
abbrev Zbi:Stmt:=Jy 87
def ZgY:FnScope ["tree"] ["tree"] (Za Zbi):=Jx
abbrev Zbl:Stmt:=Jy 88
def Zec:FnScope ["tree","k","road","roads"] ["tree","k","road"] (Za Zbl):=Jx
abbrev ZaG:Stmt:=Jy 89
def Zeh:FnScope ["tree","road"] ["tree","road"] (Za ZaG):=Jx
abbrev Zaf:Stmt:=Z1 (Jy 90) 0
def ZdM:FnScope ["self","tree"] ["self","tree"] (Za Zaf):=Jx
abbrev Zax:Stmt:=Z1 (Jy 90) 1
def Zgd:FnScope ["self","name","k"] ["self","name","k"] (Za Zax):=Jx
abbrev ZaZ:Stmt:=Z1 (Jy 90) 2
def Zfl:FnScope ["self","name","places"] ["self","name"] (Za ZaZ):=Jx
abbrev ZaC:Stmt:=Z1 (Jy 90) 3
def Zgs:FnScope ["self","name","k"] ["self","name","k"] (Za ZaC):=Jx
abbrev Zag:Stmt:=Z1 (Jy 90) 4
def Zed:FnScope ["self","k","price"] ["self","k","price"] (Za Zag):=Jx
abbrev ZaK:Stmt:=Z1 (Jy 90) 5
def Zb0:FnScope ["self","k","price","whole","fresh","longer"] ["self","k","price"] (Za ZaK):=Jx
abbrev Zaq:Stmt:=Z1 (Jy 90) 6
def ZcU:FnScope ["self","to","price","fresh"] ["self","to","price"] (Za Zaq):=Jx
abbrev Zau:Stmt:=Z1 (Jy 90) 7
def Zdv:FnScope ["self","ahead"] ["self"] (Za Zau):=Jx
abbrev Zay:Stmt:=Z1 (Jy 90) 8
def Zf8:FnScope ["self"] ["self"] (Za Zay):=Jx
abbrev Zap:Stmt:=Z1 (Jy 90) 9
def Zfr:FnScope ["self"] ["self"] (Za Zap):=Jx
abbrev Zab:Stmt:=Z1 (Jy 90) 13
def ZcG:FnScope ["self","name"] ["self","name"] (Za Zab):=Jx
abbrev Zao:Stmt:=Z1 (Jy 90) 14
def ZcX:FnScope ["self","name","k","places"] ["self","name","k"] (Za Zao):=Jx
abbrev Za0:Stmt:=Z1 (Jy 90) 15
def ZiO:FnScope ["self","land","places"] ["self","land","places"] (Za Za0):=Jx
abbrev Zbc:Stmt:=Jy 94
def Zcn:FnScope ["one","top","bottom"] ["one"] (Za Zbc):=Jx
abbrev Zbj:Stmt:=Jy 96
def ZcE:FnScope ["road","to","price"] ["road"] (Za Zbj):=Jx
abbrev Zbt:Stmt:=Jy 95
def Zhu:FnScope ["tree"] ["tree"] (Za Zbt):=Jx
abbrev Zbd:Stmt:=Jy 115
def Zf3:FnScope ["homes"] ["homes"] (Za Zbd):=Jx
abbrev Zb8:Stmt:=Jy 112
def ZkE:FnScope ["words"] ["words"] (Za Zb8):=Jx
abbrev Za7:Stmt:=Jy 97
def Zgm:FnScope ["text"] ["text"] (Za Za7):=Jx
abbrev Za6:Stmt:=Jy 98
def Zbf:FnScope ["text","below","numbers","top","one"] ["text"] (Za Za6):=Jx
abbrev Zbm:Stmt:=Jy 99
def Zd2:FnScope ["text","rows"] ["text"] (Za Zbm):=Jx
abbrev Zbk:Stmt:=Jy 100
def Zd8:FnScope ["row","words"] ["row"] (Za Zbk):=Jx
abbrev Zbr:Stmt:=Jy 101
def Zht:FnScope ["thing"] ["thing"] (Za Zbr):=Jx
abbrev ZbK:Stmt:=Jy 106
def Zc3:FnScope ["row","words","kinds"] ["row"] (Za ZbK):=Jx
abbrev ZaP:Stmt:=Jy 107
def Zcz:FnScope ["first","many","kinds"] ["first","many"] (Za ZaP):=Jx
abbrev Zbo:Stmt:=Jy 108
def ZgW:FnScope ["kind","word"] ["kind","word"] (Za Zbo):=Jx
abbrev Zbp:Stmt:=Jy 109
def Zg3:FnScope ["word"] ["word"] (Za Zbp):=Jx
abbrev ZdG:Stmt:=Jy 119
def Zp9:FnScope ["shire","first","words"] ["shire","first","words"] (Za ZdG):=Jx
abbrev ZfN:Stmt:=Jy 120
def ZpL:FnScope ["shire","first","words"] ["shire","first","words"] (Za ZfN):=Jx
abbrev Zah:Stmt:=Z1 (Jy 121) 0
def Zee:FnScope ["self","text"] ["self","text"] (Za Zah):=Jx
abbrev Za1:Stmt:=Z1 (Jy 121) 1
def Zcm:FnScope ["self","row","words","first","fresh"] ["self","row"] (Za Za1):=Jx
abbrev ZaV:Stmt:=Jy 123
def Zfs:FnScope ["_law_script","_law_k"] ["_law_script","_law_k"] (Za ZaV):=Jx
abbrev ZaX:Stmt:=Jy 124
def ZcV:FnScope ["_law_one","_law_other"] ["_law_one","_law_other"] (Za ZaX):=Jx
abbrev Zce:Stmt:=Jy 125
def ZfR:FnScope ["_law_top","_law_bottom","_law_part"] ["_law_top","_law_bottom"] (Za Zce):=Jx
abbrev ZaW:Stmt:=Jy 126
def ZaS:FnScope ["_law_cell","_law_many","_law_found","_law_rest","_law_k","_law_one"] ["_law_cell","_law_many"] (Za ZaW):=Jx
abbrev ZbG:Stmt:=Jy 127
def ZaL:FnScope ["_law_k","_law_seed","_law_letters","_law_size","_law_spot","_law_word_here","_law_place","_law_at"] ["_law_k","_law_seed"] (Za ZbG):=Jx
abbrev ZaR:Stmt:=Jy 128
def ZcD:FnScope ["_law_v","_law_wide","_law_cell","_law_top"] ["_law_v","_law_wide","_law_cell"] (Za ZaR):=Jx
abbrev Zar:Stmt:=Jy 129
def Zad:FnScope ["_law_cell","_law_most","_law_xs","_law_many","_law_wide","_law_turn","_law_roads","_law_k","_law_to"] ["_law_cell","_law_most"] (Za Zar):=Jx
abbrev ZbE:Stmt:=Jy 130
def ZhY:FnScope ["_law_one"] ["_law_one"] (Za ZbE):=Jx
abbrev ZaF:Stmt:=Jy 131
def Zei:FnScope ["_law_roads"] ["_law_roads"] (Za ZaF):=Jx
abbrev ZaN:Stmt:=Jy 132
def ZbS:FnScope ["_law_k","_law_some"] ["_law_k"] (Za ZaN):=Jx
abbrev Za9:Stmt:=Jy 133
def Zaz:FnScope ["_law_v","_law_roads","_law_homes","_law_k","_law_names","_law_way","_law_price","_law_name_here","_law_at","_law_whole"] ["_law_v","_law_roads","_law_homes","_law_k"] (Za Za9):=Jx
abbrev ZbL:Stmt:=Jy 134
def Za4:FnScope ["_law_deed","_law_roads","_law_homes","_law_to","_law_whole","_law_part","_law_rest"] ["_law_deed","_law_roads","_law_homes"] (Za ZbL):=Jx
abbrev ZaO:Stmt:=Jy 135
def ZbV:FnScope ["_law_deed","_law_words","_law_part"] ["_law_deed"] (Za ZaO):=Jx
abbrev Zat:Stmt:=Jy 136
def Zd0:FnScope ["_law_homes"] ["_law_homes"] (Za Zat):=Jx
abbrev Zbn:Stmt:=Jy 137
def Zcy:FnScope ["_law_desk","_law_roads","_law_homes","_law_told","_law_other"] ["_law_desk","_law_roads","_law_homes"] (Za Zbn):=Jx
abbrev ZbJ:Stmt:=Jy 138
def Zc8:FnScope ["_law_desk","_law_past","_law_told","e"] ["_law_desk","_law_past"] (Za ZbJ):=Jx
abbrev Zgz:Stmt:=Jy 139
def ZbX:FnScope ["_law_script","_law_first","_law_desks","_law_stands","_law_k","_law_v","_law_which","_law_past","_law_roads","_law_homes","_law_deed","_law_due","_law_j"] ["_law_script"] (Za Zgz):=Jx
variable {H:Hp}
def Js{c:TT}{a b:TS}{D:Ends}{σ:St}(h:∀ A:St->Hp->Prop,A=a D->∀ B:St->Hp->Prop,B=b D->c σ H λx H1=>if x=true then A σ H1 else B σ H1):ZnI c a b D σ H:=h _ rfl _ rfl
def Zo{a b:TS}{D:Ends}{σ:St}(h:∀ B:St->Hp->Prop,B=b D->a { D with nx:=B } σ H):Znk a b D σ H:=h _ rfl
def isW:V->Bool
 | .int _=>true
 | _=>false
def Th0(H:Hp)(x:V):Prop:=∃ t,Zdt H x=some t
def ZbA:Sp:=λvs H Q _=>∃ x,vs=[x]/\Th0 H x/\Q (.bl (isW x)) H
def Zd9:Sp:=λvs H Q _=>∃ a b:Int,vs=[.int a,.int b]/\Q (.int (Int.gcd a b)) H
def Zk3(K:PySem.W.Frag):Sp:=λvs H Q _=>∃ (a:Addr) (ns:List Int) (k:Nat),vs=[.ref a,.int k]/\JP K H a (ns.map V.int)/\Q (.int (cellOf ns k)) H
variable {P:Program}{w:World}{K:PySem.W.Frag}{mg:Str->Option Value}{base:Heap}{f:Addr}{fd:FuncData}{CT:Addr}{CNP:Addr}{pt:Addr}{c:Addr}
variable {x:V}
def ZoX{t:String}(e:Zdt H x=some t):(isA t "int" && !isA t "bool")=isW x:=by
 unfold Zdt at e
 split at e
 ·cases e; rfl
 ·cases e; rfl
 ·cases e; rfl
 ·cases e; rfl
 ·split at e
  ·cases e; rfl
  ·cases e; rfl
  ·cases e; rfl
  ·cases e
 ·cases e
def ZhX(F:Fun K "is_whole" "is_whole" ZbR f fd)(Zp:mg "isinstance"=none)(Zke:mg "int"=none)(Zl2:mg "bool"=none) :
  FnOk P w K mg base Zx 1 f fd ["thing"] ZbA:=by
 refine JA F Zib λcdv A outer s H vs Q E hr h=>?_
 obtain⟨x,rfl,⟨t,ht⟩,q⟩:=h
 refine⟨_,(Zk (Zr (ZhF (ZcY rfl Zp (Zm (Zf 0) (Zm (ZmN rfl Zke rfl) Zc))) (Zix (Zt7 (ZcY rfl Zp (Zm (Zf 0) (Zm (ZmN rfl Zl2 rfl) Zc)))))))),?_⟩
 rw [show Zu ["thing"] [x]=[some (x)] from rfl]
 rw [<- ZoX ht] at q
 refine⟨_,rfl,x,"int",t,rfl,ht,by decide,_,rfl,?_⟩
 refine JF (λc=>?_) (λc=>?_)
 ·refine⟨_,rfl,x,"bool",t,rfl,ht,by decide,_,rfl,?_⟩
  rw [c] at q
  exact q
 ·rw [Bool.eq_false_iff.mpr c] at q
  exact q
def Pg(a b:Int)(H:Hp)(σ:St)(H':Hp):Prop:=∃ (l m:Int) (r:Option V),σ=[some (.int a),some (.int b),some (.int l),some (.int m),r]/\H'=H/\0<=l/\0<=m/\Int.gcd l m=Int.gcd a b
def Zs7(F:Fun K "greatest_divisor" "greatest_divisor" Zam f fd)(Zh3:mg "abs"=none) :
  FnOk P w K mg base Zx 1 f fd ["one","other"] Zd9:=by
 refine JA F Zak λcdv A outer s H vs Q E hr h=>?_
 obtain⟨a,b,rfl,q⟩:=h
 refine⟨_,(Zd (Zt 2 Zak.nd (Zrl rfl Zh3 (Zm (Zf 0) Zc)))
   (Zd (Zt 3 Zak.nd (Zrl rfl Zh3 (Zm (Zf 1) Zc)))
   (Zd (Zh8 YM (ZlN (Zf 3) Zb) (Zd (Zt 4 Zak.nd (ZX (Zf 2) (Zf 3)))
   (Zd (Zt 2 Zak.nd (Zf 3))
   (Zk (Zt 3 Zak.nd (Zf 4))))))
   (Zk (Zr (Zf 2)))))),?_⟩
 rw [show Zu ["one","other","larger","smaller","rest"] [.int a,.int b]=[some (.int a),some (.int b),none,none,none] from rfl]
 walk_at "rd"
 simp only [ZkU]
 refine Zir (Pg a b H) (λσ _=>(Zrf σ 3).toNat) ⟨_,_,none,rfl,rfl,by omega,by omega,ZpU a b⟩ ?_
 rintro σ H' ⟨l,m,r,rfl,rfl,hl,hm,hg⟩
 walk_at "rd"
 refine JF (λc=>?_) (λc=>?_)
 ·have hm':0 < m:=by omega
  refine⟨_,λσ' H' z=>z,hm',_,?_,rfl,m,l % m,some (.int (l % m)),rfl,rfl,hm,Ys _ (by omega),?_⟩
  ·exact ZiW hm'
  ·rw [ZmV]; exact hg
 ·have e:m=0:=by omega
  subst e
  have e2:(Int.gcd a b:Int)=l:=by rw [<- hg]; simp; omega
  rw [e2] at q
  exact q
def Zq0(F:Fun K "_law_cell_at" "_law_cell_at" ZaV f fd)(ZC:mg "len"=none) :
  FnOk P w K mg base Zx 1 f fd ["_law_script","_law_k"] (Zk3 K):=by
 refine JA F Zfs λcdv A outer s H vs Q E hr h=>?_
 obtain⟨a,ns,k,rfl,hS,q⟩:=h
 refine⟨_,(Zd (ZN (Zrz (Zf 1) (ZlU rfl ZC (Zm (Zf 0) Zc))) (Zk (Zr (ZtY (Zf 0) (Zf 1)))) Zy)
   (Zk (Zr (Z4 (JW Zb (Zf 1)) Zb)))),?_⟩
 rw [show Zu ["_law_script","_law_k"] [.ref a,.int k]=[some (.ref a),some (.int k)] from rfl]
 walk_at "rd"
 refine⟨_,.inl hS,?_⟩
 rw [Yg]
 refine JF (λc=>?_) (λc=>?_)
 ·exact⟨_,hS,_,Zqi (by omega),q⟩
 ·rw [Zm5 (by omega)] at q
  exact q
def ZdZ(i:Int):Th0 H (.int i):=⟨"int",rfl⟩
def Jn(H:Hp)(x:V)(q:Rat):Prop:=∃ p,x=.ref p/\H p=some (.tup [.int q.num,.int (q.den:Int)])
variable {q:Rat}
theorem Jn.same{H H':Hp}(h:Jn H x q)(s:Zn H H'):Jn H' x q:=by
 obtain⟨p,e,h⟩:=h
 exact⟨p,e,s _ _ h⟩
def Big(b:Int):Prop:=b.natAbs < 2 ^ 8000
variable {n:Nat}
theorem Big.of{b:Int}(h:b.natAbs < 2 ^ n)(hn:n<=8000):Big b:=ZcR h hn
def Zfi{t b:Int}(hb:0 < b):t.fdiv (Int.gcd t b:Int)=(Rat.divInt t b).num/\b.fdiv (Int.gcd t b:Int)=((Rat.divInt t b).den:Int):=by
 have e:Jg t b=(Int.gcd t b:Int):=by unfold Jg; rw [if_neg (by omega)]
 have h:=ZbU (t:=t) (b:=b) (by omega)
 rw [<- e,Zcp (Zby t b),Zcp (Za2 t b)]
 exact h
def ZeI:Sp:=λvs H Q _=>∃ t b:Int,vs=[.int t,.int b]/\Big b/\0 < b/\∀ r H',Zn H H'->Jn H' r (Rat.divInt t b)->Q r H'
def ZeA:Sp:=λvs H Q _=>∃ t b:Int,vs=[.int t,.int b]/\Big b/\b ≠ 0/\∀ r H',Zn H H'->Jn H' r (Rat.divInt t b)->Q r H'
section
variable {P:Program}{w:World}{K:PySem.W.Frag}{mg:Str->Option Value}{base:Heap}{f:Addr}{fd:FuncData}{dV:Value}{cNF:Addr}
def ZoW(F:FunD K "ratio" "ratio" Zbx dV f fd)(Zan:Fn P w K mg base Zx 1 "is_whole" ["thing"] ZbA)(Zal:Fn P w K mg base Zx 1 "greatest_divisor" ["one","other"] Zd9) :
  FnOk P w K mg base Zx 2 f fd ["top","bottom"] ZeA:=by
 refine Zvc F ZfT (λvs H Q E h=>?_) (λcdv A outer s H vs Q E hr h=>?_)
 ·obtain⟨t,b,rfl,_⟩:=h; rfl
 obtain⟨t,b,rfl,hz,hb0,q⟩:=h
 refine⟨_,(Zd (ZN (t_w (J3 (Jr (Jk (Jp Zan hr (Zm (Zf 0) Zc)))) (JV (Jr (Jk (Jp Zan hr (Zm (Zf 1) Zc))))))) (Zk Z6) Zy)
   (Zd (ZN (Jq (Zf 1) Zb) (Zk Z6) Zy)
   (Zd (Zt 2 ZfT.nd (Jp Zal hr (Zm (Zf 0) (Zm (Zf 1) Zc))))
   (Zd (ZN (Zrz (Zf 1) Zb) (Zk (Zt 2 ZfT.nd (Zmq (Zf 2)))) Zy)
   (Zk (Zr (Jo (Zm (ZgH (Zf 0) (Zf 2)) (Zm (ZgH (Zf 1) (Zf 2)) Zc))))))))),?_⟩
 rw [show Zu ["top","bottom","divisor"] [.int t,.int b]=[some (.int t),some (.int b),none] from rfl]
 refine Zo λB hB=>?_
 refine Js λA hA C hC=>?_
 walk_at "rd"
 simp only [ZbA]
 walk_at "rd"
 refine⟨ZdZ _,?_⟩
 rw [if_neg (by simp [isW])]
 refine⟨ZdZ _,?_⟩
 rw [if_neg (by simp [isW])]
 subst hC
 walk_at "rd"
 subst hB
 try dsimp only
 refine Zo λB hB=>?_
 refine Js λA hA C hC=>?_
 walk_at "rd"
 refine JF (λc=>absurd c hb0) (λc=>?_)
 subst hC
 walk_at "rd"
 subst hB
 try dsimp only
 walk_at "rd"
 simp only [Zd9]
 walk_at "rd"
 have hne:=ZiI (t:=t) c
 have hlog:(Jg t b).natAbs.log2 < 9000:=by rw [Zjn]; exact ZdU (ZcR (YZ (ZfB c) hz) (by omega)) (by omega)
 have fin:∀ (p:Addr) (H2:Hp),H p=none->Zn H H2->H2 p=some (.tup [.int (t.fdiv (Jg t b)),.int (b.fdiv (Jg t b))])->Q (.ref p) H2:=λp H2 _ hs e=>q _ _ hs ⟨p,rfl,by
  rw [Zcp (Zby t b),Zcp (Za2 t b),(ZbU c).1,(ZbU (t:=t) c).2] at e
  exact e⟩
 refine JF (λcb=>?_) (λcb=>?_)
 ·have e:Jg t b=-(Int.gcd t b:Int):=by unfold Jg; rw [if_pos cb]
  rw [e] at hne hlog fin
  exact⟨hne,hlog,hne,hlog,fin⟩
 ·have e:Jg t b=(Int.gcd t b:Int):=by unfold Jg; rw [if_neg cb]
  rw [e] at hne hlog fin
  exact⟨hne,hlog,hne,hlog,fin⟩
end
def num_nonneg{t b:Int}(ht:0<=t)(hb:0 < b):0<=(Rat.divInt t b).num:=by
 rw [<- (Zfi hb).1]
 exact Int.fdiv_nonneg ht (by omega)
def Jm(H:Hp)(x:V)(r:Nat × Rat):Prop:=∃ p y,x=.ref p/\H p=some (.tup [.int r.1,y])/\Jn H y r.2
def ZR(H:Hp)(xs:List V)(rs:List (Nat × Rat)):Prop:=xs.length=rs.length/\∀ (i:Nat) x r,xs[i]?=some x->rs[i]?=some r->Jm H x r
def Jd(rs:List (Nat × Rat)):Prop:=∃ rank:Nat->Nat,rank 0=0/\(∀ v,rank v<=rs.length)/\∀ (k:Nat) r,rs[k]?=some r->r.1<=rs.length/\rank r.1 < rank (k + 1)
def Zo4(lo:Int)(n:Nat):List Int:=(List.range n).map λk:Nat=>lo + (k:Int)
theorem Zov{lo:Int}:(Zo4 lo n).length=n:=by simp [Zo4]
def ZjP{lo:Int}{x:Int}(h:x∈Zo4 lo n):lo<=x/\x < lo + n:=by
 obtain⟨k,hk,e⟩:=Yo.mp h
 have:=YI.mp hk
 omega
def Zfw{lo:Int}:(Zo4 lo n).Nodup:=by
 refine List.Pairwise.map _ (λa b h=>?_) List.nodup_range
 intro e
 exact h (by omega)
def Zi7{n i:Nat}(h:i < n):ixN n (i:Int)=some i:=by
 unfold ixN
 simp
 omega
def Pr(H0:Hp)(a p pn:Addr)(m c n:Int)(b:Bool)(zs:List V)(i:Nat)(σ:St)(H:Hp):Prop:=∃ (o1 o2 o3:Option V) (ts:List Int),σ=[some (.ref a),some (.int m),some (.int c),some (.int n),some (.bl b),some (.ref p),o1,o2,o3,none,none,none] /\
 Zn H0 H/\H p=some (.lst (ts.map V.int))/\H pn=some (.lst zs)/\ts.Perm (Zo4 1 n.toNat)
variable {i:Nat}
theorem Pr.at{H0:Hp}{a p pn:Addr}{m c n:Int}{b:Bool}{zs:List V}{σ:St}(h:Pr H0 a p pn m c n b zs i σ H):JP K H pn zs:=let ⟨_,_,_,_,_,_,_,e,_⟩:=h; .of e
def ZtL(H:Hp)(ts:List Int)(ys:List V)(j:Nat):Prop:=∃ (k:Nat) (x:V) (r:Nat × Rat),ts[j]?=some ((k:Int) + 1)/\ys[k]?=some x/\Jm H x r/\SzQ 98 r.2/\0<=r.2.num/\(r.1=0\/∃ j',j' < j/\ts[j']?=some (r.1:Int))
def Pq(H0:Hp)(a p acc pp pn:Addr)(m c n:Int)(b:Bool)(ts ps:List Int)(zs:List V)(i:Nat)(σ:St)(H:Hp):Prop:=∃ (o1 o2 o3 o4:Option V) (ys:List V),σ=[some (.ref a),some (.int m),some (.int c),some (.int n),some (.bl b),some (.ref p),o1,o2,o3,some (.ref acc),some (.ref pp),o4] /\
 Zn H0 H/\H p=some (.lst (ts.map V.int))/\H pp=some (.lst (ps.map V.int))/\H pn=some (.lst zs)/\H acc=some (.lst ys)/\(ys.length:Int)=n/\∀ j,j < i->ZtL H ts ys j
theorem Pq.at{H0:Hp}{a p acc pp pn:Addr}{m c n:Int}{b:Bool}{ts ps:List Int}{zs:List V}{σ:St}(h:Pq H0 a p acc pp pn m c n b ts ps zs i σ H):JP K H pn zs:=let ⟨_,_,_,_,_,_,_,_,_,e,_⟩:=h; .of e
variable {r:Nat × Rat}
theorem Jm.same{H H':Hp}(h:Jm H x r)(s:Zn H H'):Jm H' x r:=let ⟨p,y,e,h1,h2⟩:=h; ⟨p,y,e,s _ _ h1,h2.same s⟩
theorem Jm.upd{l:Addr}{ys:List V}{o:HO}(h:Jm H x r)(hl:H l=some (.lst ys)):Jm (upd H l o) x r:=by
 obtain⟨p,y,e,h1,z,e2,h3⟩:=h
 exact⟨p,y,e,by rw [Zj (JD h1 hl (by intro z; cases z))]; exact h1,z,e2,by rw [Zj (JD h3 hl (by intro z; cases z))]; exact h3⟩
variable {α:Type}
def Zih[Inhabited α]{n:Nat}{P:Nat->α->Prop}(h:∀ k,k < n->∃ r,P k r):∃ rs:List α,rs.length=n/\∀ (k:Nat) r,rs[k]?=some r->P k r:=by
 induction n with
 | zero=>exact⟨[],rfl,λk r e=>by simp at e⟩
 | succ n ih =>
  obtain⟨rs,hl,hr⟩:=ih λk hk=>h k (by omega)
  obtain⟨r0,h0⟩:=h n (by omega)
  refine⟨rs ++ [r0],by simp [hl],λk r e=>?_⟩
  by_cases hk:k < rs.length
  ·rw [YD hk] at e; exact hr k r e
  ·rw [YK (by omega)] at e
   have hk2:k=n:=by
    have:=(Yf.mp e).1
    simp at this; omega
   subst hk2
   simp [hl] at e
   rw [<- e]; exact h0
open Classical in
noncomputable def rankOf(ts:List Int)(v:Nat):Nat:=if h:∃ j:Nat,ts[j]?=some (v:Int) then h.choose + 1 else 0
def Zij{ts:List Int}(hnd:ts.Nodup){j v:Nat}(h:ts[j]?=some (v:Int)):rankOf ts v=j + 1:=by
 have hh:∃ j:Nat,ts[j]?=some (v:Int):=⟨j,h⟩
 unfold rankOf
 rw [dif_pos hh]
 have e:=hh.choose_spec
 have:=(List.getElem?_inj (Yf.mp e).1 hnd).mp (e.trans h.symm)
 omega
def Zql{ts:List Int}{v:Nat}:rankOf ts v<=ts.length:=by
 unfold rankOf
 split
 ·rename_i hh
  exact (Yf.mp hh.choose_spec).1
 ·exact YC _
def ZjF{lo:Int}{k:Nat}(h:k < n):lo + (k:Int)∈Zo4 lo n:=Yo.mpr ⟨k,YI.mpr h,rfl⟩
def Znn{ts:List Int}{ys:List V}(hpm:ts.Perm (Zo4 1 n))(hy:ys.length=n)(h:∀ j,j < n->ZtL H ts ys j):∃ rs:List (Nat × Rat),ZR H ys rs/\Jd rs/\rs.length=n/\∀ r∈rs,SzQ 98 r.2/\0<=r.2.num:=by
 have hl:ts.length=n:=by rw [hpm.length_eq,Zov]
 have hnd:ts.Nodup:=hpm.nodup_iff.mpr Zfw
 have hbd:∀ x∈ts,1<=x/\x<=n:=λx hx=>by have:=ZjP (hpm.mem_iff.mp hx); omega
 obtain⟨rs,hrl,hr⟩:=Zih (α:=Nat × Rat) (n:=n) (P:=λk r=>∃ x,ys[k]?=some x/\Jm H x r/\SzQ 98 r.2/\0<=r.2.num/\∃ j,ts[j]?=some (((k + 1:Nat)):Int)/\(r.1=0\/∃ j',j' < j/\ts[j']?=some (r.1:Int))) λk hk=>by
  have hm:(1:Int) + (k:Int)∈ts:=hpm.mem_iff.mpr (ZjF hk)
  obtain⟨j,hj⟩:=YT hm
  obtain⟨k',x,r,g1,g2,g3,g4,g5,g6⟩:=h j (by rw [<- hl]; exact (Yf.mp hj).1)
  have hkk:k'=k:=by rw [hj] at g1; have:=YB g1; omega
  subst hkk
  exact⟨r,x,g2,g3,g4,g5,j,by rw [g1]; simp,g6⟩
 have rz:rankOf ts 0=0:=by
  unfold rankOf
  rw [dif_neg λ⟨j,hj⟩=>by have:=hbd _ (List.mem_of_getElem? hj); simp at this]
 refine⟨rs,⟨by omega,λi x r h1 h2=>?_⟩,⟨rankOf ts,rz,λv=>by rw [hrl,<- hl]; exact Zql,λk r h1=>?_⟩,hrl,λr hm=>?_⟩
 ·obtain⟨x',g,g2,_⟩:=hr i r h2
  rw [h1] at g
  cases g
  exact g2
 ·obtain⟨x',_,_,_,_,j,hj,hc⟩:=hr k r h1
  rcases hc with z | ⟨j',hlt,hj'⟩
  ·exact⟨by omega,by rw [z,rz,Zij hnd hj]; omega⟩
  ·have:=hbd _ (Yx hj')
   exact⟨by omega,by rw [Zij hnd hj',Zij hnd hj]; omega⟩
 ·obtain⟨k,hk⟩:=YT hm
  obtain⟨_,_,_,g4,g5,_⟩:=hr k r hk
  exact⟨g4,g5⟩
theorem cxK{CX:CXT}{N:List Str}{qual:Str}{scope:Scope}{cd:Value}{A:Around}{outer:List Env}{s:Shared}{E:XK}:(ZjU CX P w K mg base N qual scope f cd A outer s H E).K=K:=rfl
inductive WayR (rs:List (Nat × Rat)):Nat->List Nat->Prop where
 | nil:WayR rs 0 []
 | cons {k:Nat}{r:Nat × Rat}{w:List Nat}(h:rs[k]?=some r) (hw:WayR rs r.1 w):WayR rs (k + 1) ((k + 1) :: w)
variable {rs:List (Nat × Rat)}
def WayR.uniq{k:Nat}{w:List Nat}(h:WayR rs k w):∀ {w':List Nat},WayR rs k w'->w'=w:=by
 induction h with
 | nil=>intro w' h'; cases h'; rfl
 | cons h _ ih =>
  intro w' h'
  cases h' with
  | cons h2 hw2 =>
   rw [h] at h2
   cases h2
   rw [ih hw2]
def Zoy(T:Jd rs){k:Nat}(hk:k<=rs.length):∃ w,WayR rs k w/\w.length<=rs.length:=by
 obtain⟨rank,r0,hb,hr⟩:=T
 have key:∀ m k,k<=rs.length->rank k<=m->∃ w,WayR rs k w/\w.length<=rank k:=by
  intro m
  induction m with
  | zero =>
   intro k hk hm
   cases k with
   | zero=>exact⟨[],.nil,YC _⟩
   | succ j =>
    have h2:=(hr j _ (Yb (l:=rs) (i:=j) (by omega))).2
    omega
  | succ m ih =>
   intro k hk hm
   cases k with
   | zero=>exact⟨[],.nil,YC _⟩
   | succ j =>
    have e:=Yb (l:=rs) (i:=j) (by omega)
    obtain⟨h1,h2⟩:=hr j _ e
    obtain⟨w,hw,hl⟩:=ih rs[j].1 h1 (by omega)
    exact⟨(j + 1) :: w,.cons e hw,by simp; omega⟩
 obtain⟨w,hw,hl⟩:=key _ k hk (Yd _)
 exact⟨w,hw,Yj hl (hb k)⟩
theorem WayR.mem{k:Nat}{w:List Nat}(h:WayR rs k w):∀ x∈w,1<=x/\x<=rs.length:=by
 induction h with
 | nil=>intro x hx; cases hx
 | cons h _ ih =>
  intro x hx
  rcases Ym.mp hx with z | z
  ·have:=(Yf.mp h).1
   omega
  ·exact ih x z
open Classical in
noncomputable def wayM(rs:List (Nat × Rat))(k:Nat):Nat:=if h:∃ w,WayR rs k w then h.choose.length else 0
def ZlD{k:Nat}{w:List Nat}(h:WayR rs k w):wayM rs k=w.length:=by
 have hh:∃ w,WayR rs k w:=⟨w,h⟩
 unfold wayM
 rw [dif_pos hh,h.uniq hh.choose_spec]
def ZmO(w:List Nat):List V:=w.map λk:Nat=>V.int (k:Int)
theorem WayR.zero{w:List Nat}(h:WayR rs 0 w):w=[]:=by cases h; rfl
def PrP(H:Hp)(x:V):Prop:=∃ a t b,x=.ref a/\H a=some (.tup [.int t,.int b])/\1<=b/\Int.gcd t b=1/\0<=t
def RdP(H:Hp)(x:V)(n:Int):Prop:=∃ a t y,x=.ref a/\H a=some (.tup [.int t,y])/\0<=t/\t < n/\PrP H y
def PrZ(H:Hp)(x:V):Prop:=∃ a t b,x=.ref a/\H a=some (.tup [.int t,.int b])/\1<=b/\Int.gcd t b=1
def ZnD:Sp:=λvs H Q _=>∃ x,vs=[x]/\PrZ H x/\Q (.bl true) H
def ZcQ:Sp:=λvs H Q _=>∃ x,vs=[x]/\PrP H x/\Q (.bl true) H
def ZeK:Sp:=λvs H Q _=>∃ x n,vs=[x,.int n]/\RdP H x n/\Q (.bl true) H
def Zie(F:Fun K "is_ratio" "is_ratio" ZbF f fd)(Zp:mg "isinstance"=none)(Zcs:mg "tuple"=none)(ZC:mg "len"=none)
  (Zan:Fn P w K mg base Zx 1 "is_whole" ["thing"] ZbA) (Zal:Fn P w K mg base Zx 1 "greatest_divisor" ["one","other"] Zd9) :
  FnOk P w K mg base Zx 2 f fd ["thing"] ZnD:=by
 refine JA F ZcZ λcdv A outer s H vs Q E hr h=>?_
 obtain⟨x,rfl,⟨a,t,b,rfl,ha,h1,h2⟩,q⟩:=h
 refine⟨_,(Zd (ZN (t_w (J3 (Jr (Jk (ZcY rfl Zp (Zm (Zf 0) (Zm (ZmN rfl Zcs rfl) Zc))))) (JV (ZlN (JE rfl ZC (Zm (Zf 0) Zc)) Zb)))) (Zk (Zr ZnR)) Zy)
   (Zd (Zt 1 ZcZ.nd (ZD (Zf 0) Zb))
   (Zd (Zt 2 ZcZ.nd (ZD (Zf 0) Zb))
   (Zd (ZN (t_w (J3 (Jr (Jk (Jp Zan hr (Zm (Zf 1) Zc)))) (JV (Jr (Jk (Jp Zan hr (Zm (Zf 2) Zc))))))) (Zk (Zr ZnR)) Zy)
   (Zk (Zr (ZhF (ZuN (Zf 2) Zb) (Zix (Ztd (Jp Zal hr (Zm (Zf 1) (Zm (Zf 2) Zc))) Zb))))))))),?_⟩
 rw [show Zu ["thing","top","bottom"] [.ref a]=[some (.ref a),none,none] from rfl]
 refine Zo λB hB=>?_
 refine Js λA hA C hC=>?_
 walk_at "rd"
 simp only [Zgy ha,ha]
 walk_at "rd"
 rw [if_neg (by decide)]
 subst hC
 walk_at "rd"
 subst hB
 try dsimp only
 refine Zo λB hB=>?_
 walk_at "rd"
 refine⟨_,ha,_,rfl,?_⟩
 subst hB
 try dsimp only
 refine Zo λB hB=>?_
 walk_at "rd"
 refine⟨_,ha,_,rfl,?_⟩
 subst hB
 try dsimp only
 refine Zo λB hB=>?_
 refine Js λA hA C hC=>?_
 walk_at "rd"
 simp only [ZbA]
 walk_at "rd"
 refine⟨ZdZ _,?_⟩
 rw [if_neg (show ¬ isW (V.int t)=false from nofun)]
 refine⟨ZdZ _,?_⟩
 rw [if_neg (show ¬ isW (V.int b)=false from nofun)]
 subst hC
 walk_at "rd"
 subst hB
 try dsimp only
 walk_at "rd"
 simp only [Zd9]
 walk_at "rd"
 rw [if_pos h1,h2]
 exact q
def Zh5(F:Fun K "is_price" "is_price" ZbI f fd)(ZbM:Fn P w K mg base Zx 2 "is_ratio" ["thing"] ZnD):FnOk P w K mg base Zx 3 f fd ["thing"] ZcQ:=by
 refine JA F ZhR λcdv A outer s H vs Q E hr h=>?_
 obtain⟨x,rfl,⟨a,t,b,rfl,ha,h1,h2,h3⟩,q⟩:=h
 refine⟨_,(Zk (Zr (ZhF (Jp ZbM hr (Zm (Zf 0) Zc)) (Zix (ZuN (ZD (Zf 0) Zb) Zb))))),?_⟩
 rw [show Zu ["thing"] [.ref a]=[some (.ref a)] from rfl]
 walk_at "rd"
 simp only [ZnD,ha]
 walk_at "rd"
 rw [Yt h3]
 exact⟨⟨a,t,b,rfl,ha,h1,h2⟩,q⟩
def ZjW(F:Fun K "is_road" "is_road" Zcb f fd)(Zp:mg "isinstance"=none)(Zcs:mg "tuple"=none)(ZC:mg "len"=none)(Zan:Fn P w K mg base Zx 1 "is_whole" ["thing"] ZbA)
  (ZbP:Fn P w K mg base Zx 3 "is_price" ["thing"] ZcQ):FnOk P w K mg base Zx 4 f fd ["thing","many"] ZeK:=by
 refine JA F ZfJ λcdv A outer s H vs Q E hr h=>?_
 obtain⟨x,n,rfl,⟨a,t,y,rfl,ha,h1,h2,hp⟩,q⟩:=h
 refine⟨_,(Zd (ZN (t_w (J3 (Jr (Jk (ZcY rfl Zp (Zm (Zf 0) (Zm (ZmN rfl Zcs rfl) Zc))))) (JV (ZlN (JE rfl ZC (Zm (Zf 0) Zc)) Zb)))) (Zk (Zr ZnR)) Zy)
   (Zd (Zt 2 ZfJ.nd (ZD (Zf 0) Zb))
   (Zk (Zr (ZhF (Jp Zan hr (Zm (Zf 2) Zc)) (ZhF (Ztf Zb (Zf 2) (Zf 1)) (Zix (Jp ZbP hr (Zm (ZD (Zf 0) Zb) Zc))))))))),?_⟩
 rw [show Zu ["thing","many","to"] [.ref a,.int n]=[some (.ref a),some (.int n),none] from rfl]
 refine Zo λB hB=>?_
 refine Js λA hA C hC=>?_
 walk_at "rd"
 simp only [Zgy ha,ha]
 walk_at "rd"
 rw [if_neg (by decide)]
 subst hC
 walk_at "rd"
 subst hB
 try dsimp only
 refine Zo λB hB=>?_
 walk_at "rd"
 refine⟨_,ha,_,rfl,?_⟩
 subst hB
 try dsimp only
 walk_at "rd"
 simp only [ZbA,ZcQ,ha]
 walk_at "rd"
 refine⟨ZdZ _,?_⟩
 rw [if_pos (show isW (V.int t)=true from rfl),if_pos h1,if_pos h2]
 exact⟨hp,q⟩
def Zim:Sp:=λvs H Q _=>∃ (a:Addr) (xs:List V),vs=[.ref a]/\H a=some (.lst xs)/\xs.length<=40/\(∀ x∈xs,RdP H x (xs.length + 1))/\Q .non H
def Zmf:Sp:=λvs H Q _=>∃ (a:Addr) (xs:List V) (rs:List (Nat × Rat)) (k:Nat) (w:List Nat),vs=[.ref a,.int k]/\H a=some (.lst xs)/\ZR H xs rs/\WayR rs k w/\w.length<=rs.length/\rs.length<=40/\k<=rs.length/\(∀ r∈rs,r.1<=rs.length) /\
 ∀ p H',H p=none->Zn H H'->H' p=some (.lst (ZmO w))->Q (.ref p) H'
def Plk(H0:Hp)(a:Addr)(n:Nat)(i:Nat)(σ:St)(H:Hp):Prop:=∃ o,σ=[some (.ref a),some (.int ((n:Int) + 1)),o]/\H=H0
def Zrh{tk:Tok}(F:Fun K "look_roads" "look_roads" Za5 f fd)(Zp:mg "isinstance"=none)(JJ:mg "list"=none)(ZC:mg "len"=none)(g_MOST_ROADS:mg "MOST_ROADS"=some (.int 40 tk))
  (ZeU:Fn P w K mg base Zx 4 "is_road" ["thing","many"] ZeK):FnOk P w K mg base Zx 5 f fd ["thing"] Zim:=by
 refine JA F Zch λcdv A outer s H vs Q E hr h=>?_
 obtain⟨a,xs,rfl,ha,hl,hx,q⟩:=h
 refine⟨_,(Zd (ZN (Jr (Jk (ZcY rfl Zp (Zm (Zf 0) (Zm (ZmN rfl JJ rfl) Zc))))) (Zk Z6) Zy)
   (Zd (ZN (Zse (JE rfl ZC (Zm (Zf 0) Zc)) (ZhG rfl g_MOST_ROADS)) (Zk Z6) Zy)
   (Zd (Zt 1 Zch.nd (Z4 (JE rfl ZC (Zm (Zf 0) Zc)) Zb))
   (Zk (ZhP YM (Zfd (Zf 0)) (Z3 2 Zch.nd) (Zk (ZN (Jr (Jk (Jp ZeU hr (Zm (Zf 2) (Zm (Zf 1) Zc))))) (Zk Z6) Zy))))))),?_⟩
 rw [show Zu ["thing","many","road"] [.ref a]=[some (.ref a),none,none] from rfl]
 refine Zo λB hB=>?_
 refine Js λA hA C hC=>?_
 walk_at "rd"
 simp only [Znx ha]
 walk_at "rd"
 subst hC
 walk_at "rd"
 subst hB
 try dsimp only
 refine Zo λB hB=>?_
 refine Js λA hA C hC=>?_
 walk_at "rd"
 refine⟨xs,.inl ha,?_⟩
 rw [if_neg (by omega)]
 subst hC
 walk_at "rd"
 subst hB
 try dsimp only
 refine Zo λB hB=>?_
 walk_at "rd"
 refine⟨xs,.inl ha,?_⟩
 subst hB
 try dsimp only
 simp only [ZmB]
 walk_at "rd"
 refine ZnW (Plk H a xs.length) ⟨_,rfl,rfl⟩ (λi σ H' _ ⟨o,_,e⟩=>by rw [e]; exact .of ha) (λi x σ H' hi hP=>?_) (λσ H' hP=>?_)
 ·obtain⟨o,rfl,rfl⟩:=hP
  walk_at "rd"
  simp only [ZeK]
  walk_at "rd"
  exact⟨hx x (Yx hi),_,rfl,rfl⟩
 ·obtain⟨o,rfl,rfl⟩:=hP
  exact q
def Pwf(H0:Hp)(a p:Addr)(k0:Nat)(rs:List (Nat × Rat))(w0:List Nat)(σ:St)(H:Hp):Prop:=∃ (k:Nat) (pre w:List Nat),σ=[some (.ref a),some (.int k0),some (.ref p),some (.int k)]/\Zn H0 H/\H p=some (.lst (ZmO pre))/\WayR rs k w/\w0=pre ++ w
def ZpE(F:Fun K "way_from" "way_from" ZbH f fd)(ZC:mg "len"=none):FnOk P w K mg base Zx 1 f fd ["roads","k"] Zmf:=by
 refine JA F Zct λcdv A outer s H vs Q E hr h=>?_
 obtain⟨a,xs,rs,k0,w0,rfl,ha,hR,hw0,hwl,hrl,_,_,q⟩:=h
 refine⟨_,(Zd (Zt 2 Zct.nd (JK Zc))
   (Zd (Zt 3 Zct.nd (Zf 1))
   (Zd (Zh8 YM (ZlN (Zf 3) Zb) (Zd (ZN (Jq (JE rfl ZC (Zm (Zf 2) Zc)) (JE rfl ZC (Zm (Zf 0) Zc))) (Zk Z6) Zy)
   (Zd (ZL (Zgf (Zf 2) (Zm (Zf 3) Zc)))
   (Zk (Zt 3 Zct.nd (ZD (ZE (Zf 0) (JS (Zf 3) Zb)) Zb))))))
   (Zk (Zr (Zf 2)))))),?_⟩
 rw [show Zu ["roads","k","way","place"] [.ref a,.int k0]=[some (.ref a),some (.int k0),none,none] from rfl]
 walk_at "rd"
 intro p H1 hp s1 e1
 refine Zir (Pwf H a p k0 rs w0) (λσ _=>wayM rs (Zrf σ 3).toNat) ⟨k0,[],w0,rfl,s1,e1,hw0,rfl⟩ ?_
 rintro σ H2 ⟨k,pre,w,rfl,s2,e2,hw,hw1⟩
 walk_at "rd"
 have hap:a ≠ p:=λz=>by rw [z,hp] at ha; cases ha
 refine JF (λhc=>?_) (λhc=>?_)
 ·cases hw with
  | nil=>exact absurd rfl hc
  | @cons k r w h hw' =>
   have hkl:k < rs.length:=(Yf.mp h).1
   have hkx:k < xs.length:=by rw [hR.1]; exact hkl
   obtain⟨pr,y,ex,hpr,hy⟩:=hR.2 k _ r (Yb hkx) h
   have hrp:pr ≠ p:=λz=>by rw [z,hp] at hpr; cases hpr
   have hpl:pre.length < rs.length:=by
    have:=congrArg List.length hw1
    simp at this
    omega
   have hlen:(ZmO pre).length < 1000000:=by simp [ZmO]; omega
   simp only [e2,s2 _ _ ha]
   walk_at "rd"
   refine⟨λσ' H'=>σ'=[some (.ref a),some (.int k0),some (.ref p),some (.int r.1)]/\Pwf H a p k0 rs w0 σ' H',λσ' H' ⟨e,hP⟩=>⟨_,?_,rfl,hP⟩,?_⟩
   ·subst e
    show wayM rs ((r.1:Nat):Int).toNat < wayM rs (((k + 1:Nat)):Int).toNat
    rw [Int.toNat_natCast,Int.toNat_natCast,ZlD hw',ZlD (.cons h hw')]
    simp
   rw [if_neg (by have:=hR.1; simp [ZmO]; omega)]
   refine⟨hlen,xs,by rw [Zj hap]; exact s2 _ _ ha,xs[k],?_,pr,ex,_,by rw [Zj hrp]; exact s2 _ _ hpr,_,rfl,rfl,?_⟩
   ·rw [show (((k + 1:Nat)):Int) - 1=(k:Int) by omega]
    exact Z5 (Yb hkx)
   ·exact⟨r.1,pre ++ [k + 1],w,rfl,ZW hp s2,by rw [Zl]; simp [ZmO],hw',by simp [hw1]⟩
 ·have hk0:k=0:=by omega
  subst hk0
  have e:=hw.zero
  subst e
  rw [Vs] at hw1
  subst hw1
  exact q p H2 hp s2 e2
theorem Jn.keep{H H':Hp}(h:Jn H x q)(s:∀ b ys,H b=some (.tup ys)->H' b=some (.tup ys)):Jn H' x q:=let ⟨p,e,h1⟩:=h; ⟨p,e,s _ _ h1⟩
theorem Jm.keep{H H':Hp}(h:Jm H x r)(s:∀ b ys,H b=some (.tup ys)->H' b=some (.tup ys)):Jm H' x r:=let ⟨p,y,e,h1,h2⟩:=h; ⟨p,y,e,s _ _ h1,h2.keep s⟩
variable {xs:List V}
theorem ZR.keep{H H':Hp}(h:ZR H xs rs)(s:∀ b ys,H b=some (.tup ys)->H' b=some (.tup ys)):ZR H' xs rs:=⟨h.1,λi x r h1 h2=>(h.2 i x r h1 h2).keep s⟩
theorem ZR.same{H H':Hp}(h:ZR H xs rs)(s:Zn H H'):ZR H' xs rs:=h.keep λb ys=>s b _
def Zt9(H:Hp)(ws:List V)(rs:List (Nat × Rat)):Prop:=ws.length=rs.length + 1/\∀ (k:Nat) x,ws[k]?=some x->∃ p w,x=.ref p/\H p=some (.lst (ZmO w))/\WayR rs k w/\w.length<=rs.length
def ZM(C:Addr)(H:Hp)(x:V)(rs:List (Nat × Rat)):Prop:=∃ a dx la wa ls ws,x=.ref a/\H a=some (.ins C dx [("lanes",.ref la),("ways",.ref wa)])/\H la=some (.lst ls)/\ZR H ls rs/\H wa=some (.lst ws)/\Zt9 H ws rs
theorem ZM.same{C:Addr}{H H':Hp}(h:ZM C H x rs)(s:Zn H H'):ZM C H' x rs:=by
 obtain⟨a,dx,la,wa,ls,ws,e,h1,h2,h3,h4,h5,h6⟩:=h
 exact⟨a,dx,la,wa,ls,ws,e,s _ _ h1,s _ _ h2,h3.same s,s _ _ h4,h5,λk x hx=>let ⟨p,w,e,g1,g2⟩:=h6 k x hx; ⟨p,w,e,s _ _ g1,g2⟩⟩
def Zkv{n:Int}(h:Jm H x r)(h1:(r.1:Int) < n)(h2:0<=r.2.num):RdP H x n:=by
 obtain⟨p,y,rfl,hp,q,rfl,hq⟩:=h
 have hg:Int.gcd r.2.num (r.2.den:Int)=1:=by
  show Nat.gcd r.2.num.natAbs (Int.natAbs (r.2.den:Int))=1
  rw [Int.natAbs_natCast]
  exact r.2.reduced
 have hd:1<=(r.2.den:Int):=by have:=r.2.den_pos; omega
 exact⟨p,_,_,rfl,hp,by omega,h1,q,_,_,rfl,hq,hd,hg,h2⟩
def Zfh(C:Addr):Sp:=λvs H Q _=>∃ (x dx a:Addr) (xs:List V) (rs:List (Nat × Rat)),vs=[.ref x,.ref a]/\H x=some (.ins C dx [])/\H a=some (.lst xs)/\ZR H xs rs/\Jd rs/\rs.length<=40/\(∀ r∈rs,0<=r.2.num) /\
 ∀ H',(∀ b o,b ≠ x->H b=some o->H' b=some o)->ZM C H' (.ref x) rs->(∀ l zs,H l=some (.lst zs)->∀ H'',Zn H' H''->∀ ys,ZM C (upd H'' l (.lst ys)) (.ref x) rs)->Q .non H'
def Zp4(F:Fun K "__init__" "Tree.__init__" Zai f fd)(JJ:mg "list"=none)(ZC:mg "len"=none)(Jh:mg "range"=none)(ZP:Cls K CT)(ZaT:ZJ K CT "lanes")(ZcJ:ZJ K CT "ways")
  (ZcI:Fn P w K mg base Zx 5 "look_roads" ["thing"] Zim) (ZdX:Fn P w K mg base Zx 1 "way_from" ["roads","k"] Zmf):FnOk P w K mg base Zx 6 f fd ["self","roads"] (Zfh CT):=by
 refine JA F Zej λcdv A outer s H vs Q E hr h=>?_
 obtain⟨x,dx,a,xs,rs,rfl,hx,ha,hR,hT,hl,hn,q⟩:=h
 refine⟨_,(Zd (ZL (Jp ZcI hr (Zm (Zf 1) Zc)))
   (Zd (Zfn (Zf 0) (Zjs rfl JJ (Zm (Zf 1) Zc)))
   (Zk (Zfn (Zf 0) (Zdy (ZuP ["k"] [1] ["roads"]) (Zg6 rfl Jh (Zm (Z4 (JE rfl ZC (Zm (Zf 1) Zc)) Zb) Zc)) (by exact λs H fp=>(Z3 0 (show List.Nodup (["k","roads"]:List Str) from by decide +kernel))) (by exact λs H fp=>(Jp ZdX hr (Zm (Zf 1) (Zm (Zf 0) Zc))))))))),?_⟩
 rw [show Zu ["self","roads"] [.ref x,.ref a]=[some (.ref x),some (.ref a)] from rfl]
 walk_at "rd"
 simp only [Zim,ZjV]
 walk_at "rd"
 refine⟨xs,ha,by rw [hR.1]; exact hl,λy hy=>?_,xs,.inl (.of ha),λl H1 hl1 s1 e1=>?_⟩
 ·obtain⟨i,hi⟩:=YT hy
  have hi':i < rs.length:=by rw [<- hR.1]; exact (Yf.mp hi).1
  obtain⟨_,_,_,hT2⟩:=hT
  have h2:=hT2 i _ (Yb hi')
  exact Zkv (hR.2 i y _ hi (Yb hi')) (by rw [hR.1]; omega) (hn _ (Yy hi'))
 refine⟨CT,dx,[],s1 _ _ hx,ZP,ZaT,by decide,?_⟩
 have hax:a ≠ x:=JD ha hx (by intro z; cases z)
 rw [show JN (Str.ofString "lanes") (.ref l) []=[(Str.ofString "lanes",V.ref l)] from rfl]
 have k1:∀ b o,b ≠ x->H b=some o->upd H1 x (.ins CT dx [(Str.ofString "lanes",V.ref l)]) b=some o:=λb o hb e=>by rw [Zj hb]; exact s1 _ _ e
 have ha2:upd H1 x (.ins CT dx [(Str.ofString "lanes",V.ref l)]) a=some (.lst xs):=k1 _ _ hax ha
 have hl2:upd H1 x (.ins CT dx [(Str.ofString "lanes",V.ref l)]) l=some (.lst xs):=by rw [Zj (JD e1 (s1 _ _ hx) (by intro z; cases z))]; exact e1
 have hx2:upd H1 x (.ins CT dx [(Str.ofString "lanes",V.ref l)]) x=some (.ins CT dx [(Str.ofString "lanes",V.ref l)]):=Zl
 generalize upd H1 x (.ins CT dx [(Str.ofString "lanes",V.ref l)])=H2 at k1 ha2 hl2 hx2 ⊢
 simp only [JY,Zk1,cxK]
 walk_at "rd"
 have hxl:=hR.1
 have hto:∀ r∈rs,r.1<=rs.length:=λr hr=>by
  obtain⟨_,_,_,g⟩:=id hT
  obtain⟨i,hi⟩:=YT hr
  exact (g i r hi).1
 refine⟨xs,.inl ha2,by omega,by omega,?_⟩
 rw [show JB [some (V.ref x),some (V.ref a)] [1]=[some (V.ref a)] from rfl]
 have tk:∀ H3,Zn H2 H3->ZR H3 xs rs:=λH3 sm=>hR.keep λb ys e=>sm _ _ (k1 b _ (JD e hx (by intro z; cases z)) e)
 refine Zle (λacc i ys H'=>Zn H2 H'/\H' acc=some (.lst ys)/\ys.length=i/\i<=50/\∀ (k:Nat) y,ys[k]?=some y->∃ p w,y=.ref p/\p ≠ acc/\H2 p=none/\H' p=some (.lst (ZmO w))/\WayR rs k w/\w.length<=rs.length)
  (λacc H3 hn sm e=>⟨sm,e,rfl,by omega,λk y hy=>by simp at hy⟩) (λacc i ys H3 ⟨_,e,hl,hi,_⟩=>⟨e,by omega⟩) (λacc i ys H3 os hn hi hP ol=>?_) (λacc ys H3 hn' hP=>?_)
 ·obtain⟨sm,e,hyl,hi2,hE⟩:=hP
  obtain⟨o,rfl⟩:∃ o,os=[o]:=by match os,ol with | [o],_=>exact⟨o,rfl⟩
  obtain⟨w,hw,hwl⟩:=Zoy hT (k:=i) (by omega)
  walk_at "rd"
  refine⟨[some (.int (i:Int))],rfl,rfl,?_⟩
  refine⟨a,xs,rs,i,w,rfl,sm _ _ ha2,tk _ sm,hw,hwl,by omega,by omega,hto,λp' H4 hp' s4 e4=>⟨s4 _ _ e,ZW hn (sm.trans s4),Zl,by simp [hyl],by omega,λk y hy=>?_⟩⟩
  by_cases hk:k < ys.length
  ·rw [YD hk] at hy
   obtain⟨p,w,e5,hpa,hpn,e6,e7⟩:=hE k y hy
   exact⟨p,e5,hpa,hpn,w,by rw [Zj hpa]; exact s4 _ _ e6,e7⟩
  ·have hk2:k=i:=by
    have:=(Yf.mp hy).1
    simp at this; omega
   subst hk2
   rw [YK (by omega),hyl] at hy
   have hy':V.ref p'=y:=by simpa using hy
   subst hy'
   have hpa:p' ≠ acc:=λz=>by rw [z,e] at hp'; cases hp'
   exact⟨p',rfl,hpa,sm.free hp',w,by rw [Zj hpa]; exact e4,hw,hwl⟩
 ·obtain⟨sm,e,hyl,hi2,hE⟩:=hP
  have nx:∀ b ys,H3 b=some (.lst ys)->b ≠ x:=λb ys e=>JD e (sm _ _ hx2) (by intro z; cases z)
  have gen:∀ H5:Hp,H5 x=some (.ins CT dx [("lanes",.ref l),("ways",.ref acc)])->H5 l=some (.lst xs)->H5 acc=some (.lst ys)->(∀ p w,H2 p=none->H3 p=some (.lst (ZmO w))->H5 p=some (.lst (ZmO w)))->(∀ b zs,H3 b=some (.tup zs)->H5 b=some (.tup zs))->ZM CT H5 (.ref x) rs:=by
   intro H5 g1 g2 g3 g4 g5
   refine⟨x,dx,l,acc,xs,ys,rfl,g1,g2,(tk _ sm).keep g5,g3,by omega,λk y hy=>?_⟩
   obtain⟨p,w,e5,_,hpn,e6,e7⟩:=hE k y hy
   exact⟨p,w,e5,g4 _ _ hpn e6,e7⟩
  refine⟨CT,dx,_,sm _ _ hx2,ZP,ZcJ,by show (1:Nat) < 1000; decide,q _ (λb o hb e=>by rw [Zj hb]; exact sm _ _ (k1 b o hb e)) ?_ (λl0 zs h0 H'' s'' us=>?_)⟩
  ·exact gen _ Zl (by rw [Zj (nx _ _ (sm _ _ hl2))]; exact sm _ _ hl2) (by rw [Zj (nx _ _ e)]; exact e) (λp w _ h=>by rw [Zj (nx _ _ h)]; exact h) (λb zs h=>by rw [Zj (JD h (sm _ _ hx2) (by intro z; cases z))]; exact h)
  ·have n1:x ≠ l0:=JD hx h0 (by intro z; cases z)
   have h2:H2 l0=some (.lst zs):=k1 _ _ (λz=>n1 z.symm) h0
   have h3:H'' l0=some (.lst zs):=s'' _ _ (by rw [Zj (λz=>n1 z.symm)]; exact sm _ _ h2)
   have keepL:∀ b ws,b ≠ l0->H3 b=some (.lst ws)->upd H'' l0 (.lst us) b=some (.lst ws):=λb ws hb h=>by
    rw [Zj hb]; exact s'' _ _ (by rw [Zj (nx _ _ h)]; exact h)
   have n2:l ≠ l0:=λz=>by rw [z,h0] at hl1; cases hl1
   have n3:acc ≠ l0:=λz=>by rw [z,h2] at hn'; cases hn'
   exact gen _ (by rw [Zj n1]; exact s'' _ _ Zl) (keepL _ _ n2 (sm _ _ hl2)) (keepL _ _ n3 e) (λp w hp h=>keepL _ _ (λz=>by rw [z,h2] at hp; cases hp) h)
    (λb zs' h=>by
     have hb:b ≠ l0:=JD h (sm _ _ h2) (by intro z; cases z)
     rw [Zj hb]; exact s'' _ _ (by rw [Zj (JD h (sm _ _ hx2) (by intro z; cases z))]; exact h))
def ZdR(C:Addr):Sp:=λvs H Q _=>∃ x rs,vs=[x]/\ZM C H x rs/\Q (.int ((rs.length:Int) + 1)) H
def ZqA(F:Fun K "many" "Tree.many" ZaH f fd)(ZC:mg "len"=none)(ZP:Cls K CT)(ZcJ:ZJ K CT "ways"):FnOk P w K mg base Zx 1 f fd ["self"] (ZdR CT):=by
 refine JA F Zhr λcdv A outer s H vs Q E hr h=>?_
 obtain⟨x,rs,rfl,⟨a,dx,la,wa,ls,ws,rfl,h1,h2,h3,h4,h5,h6⟩,q⟩:=h
 refine⟨_,(Zk (Zr (JE rfl ZC (Zm (Z2 (Zf 0)) Zc)))),?_⟩
 rw [show Zu ["self"] [.ref a]=[some (.ref a)] from rfl]
 walk_at "rd"
 refine⟨CT,dx,_,h1,ZP,ZcJ,.ref wa,rfl,wa,rfl,ws,.inl h4,?_⟩
 rw [show ((ws.length:Nat):Int)=(rs.length:Int) + 1 by omega]
 exact q
def inT(rs:List (Nat × Rat))(k:Int):Prop:=0<=k/\k<=rs.length
def ZdF(C CNP:Addr):Sp:=λvs H Q E=>∃ x rs k,vs=[x,.int k]/\ZM C H x rs/\(inT rs k->Q .non H)/\(¬ inT rs k->E (.ref CNP) none H)
def Znz(F:Fun K "look_crossing" "Tree.look_crossing" Zaa f fd)(Zan:Fn P w K mg base Zx 1 "is_whole" ["thing"] ZbA)
  (Zcw:Mth P w K mg base Zx 1 CT "many" ["self"] (ZdR CT)):FnOk P w K mg base Zx 2 f fd ["self","k"] (λvs H Q _=>ZdF CT CNP vs H Q E0):=by
 refine JA F ZcB λcdv A outer s H vs Q E hr h=>?_
 obtain⟨x,rs,k,rfl,hT,q1,q2⟩:=h
 have hin:inT rs k:=Vk λz=>q2 z
 refine⟨_,(Zk (ZN (t_w (J3 (Jr (Jk (Jp Zan hr (Zm (Zf 1) Zc)))) (J3 (Zrz (Zf 1) Zb) (JV (Ztv (Zf 1) (Zcq Zcw hr (by decide) (Zf 0))))))) (Zk Z6) Zy)),?_⟩
 rw [show Zu ["self","k"] [x,.int k]=[some (x),some (.int k)] from rfl]
 walk_at "rd"
 simp only [ZbA,ZdR]
 walk_at "rd"
 refine⟨ZdZ k,?_⟩
 rw [if_neg (by simp [isW])]
 refine JF (λc=>absurd hin (by unfold inT; omega)) (λc=>?_)
 obtain⟨a,dx,la,wa,ls,ws,rfl,h1,_⟩:=id hT
 exact⟨a,rfl,dx,_,h1,rfl,rs,hT,JF (λc2=>absurd hin (by unfold inT; omega)) (λc2=>q1 hin)⟩
def Zdw(C:Addr):Sp:=λvs H Q _=>∃ x rs,vs=[x]/\ZM C H x rs/\∀ p H' ls,H p=none->Zn H H'->H' p=some (.lst ls)->ZR H' ls rs->Q (.ref p) H'
def ZkH(F:Fun K "roads" "Tree.roads" Zaw f fd)(JJ:mg "list"=none)(ZP:Cls K CT)(ZaT:ZJ K CT "lanes"):FnOk P w K mg base Zx 1 f fd ["self"] (Zdw CT):=by
 refine JA F ZgC λcdv A outer s H vs Q E hr h=>?_
 obtain⟨x,rs,rfl,⟨a,dx,la,wa,ls,ws,rfl,h1,h2,h3,h4,h5,h6⟩,q⟩:=h
 refine⟨_,(Zk (Zr (Zjs rfl JJ (Zm (Z2 (Zf 0)) Zc)))),?_⟩
 rw [show Zu ["self"] [.ref a]=[some (.ref a)] from rfl]
 walk_at "rd"
 simp only [ZjV]
 walk_at "rd"
 exact⟨CT,dx,_,h1,ZP,ZaT,.ref la,rfl,la,rfl,ls,.inl (.of h2),λl H2 hl s e=>q l H2 ls hl s e (h3.same s)⟩
def inR(rs:List (Nat × Rat))(k:Int):Prop:=1<=k/\k<=rs.length
def Zev(C CNP:Addr):Sp:=λvs H Q E=>∃ x rs k,vs=[x,.int k]/\ZM C H x rs/\(inR rs k->Q .non H)/\(¬ inR rs k->E (.ref CNP) none H)
def Zno(F:Fun K "look_road" "Tree.look_road" Zae f fd)
  (Zac:Mth P w K mg base Zx 2 CT "look_crossing" ["self","k"] (λvs H Q _=>ZdF CT CNP vs H Q E0)):FnOk P w K mg base Zx 3 f fd ["self","k"] (λvs H Q _=>Zev CT CNP vs H Q E0):=by
 refine JA F ZdY λcdv A outer s H vs Q E hr h=>?_
 obtain⟨x,rs,k,rfl,hT,q1,q2⟩:=h
 have hin:inR rs k:=Vk λz=>q2 z
 refine⟨_,(Zd (ZL (ZZ Zac hr (by decide) (Zf 0) (Zm (Zf 1) Zc)))
   (Zk (ZN (Jq (Zf 1) Zb) (Zk Z6) Zy))),?_⟩
 rw [show Zu ["self","k"] [x,.int k]=[some (x),some (.int k)] from rfl]
 walk_at "rd"
 obtain⟨a,dx,la,wa,ls,ws,rfl,h1,_⟩:=id hT
 refine⟨a,rfl,dx,_,h1,rfl,.ref a,rs,k,rfl,hT,λ_=>?_,λz=>z ⟨by unfold inR at hin; omega,by unfold inR at hin; omega⟩⟩
 exact JF (λc=>absurd hin (by unfold inR; omega)) (λc=>q1 hin)
def Zhn(C CNP:Addr):Sp:=λvs H Q E=>∃ x rs k,vs=[x,.int k]/\ZM C H x rs/\(∀ (k':Nat) r y,k=(k':Int) + 1->rs[k']?=some r->Jn H y r.2->Q y H)/\(¬ inR rs k->E (.ref CNP) none H)
def Zmu(F:Fun K "price" "Tree.price" ZaA f fd)(ZP:Cls K CT)(ZaT:ZJ K CT "lanes")
  (ZaJ:Mth P w K mg base Zx 3 CT "look_road" ["self","k"] (λvs H Q _=>Zev CT CNP vs H Q E0)):FnOk P w K mg base Zx 4 f fd ["self","k"] (λvs H Q _=>Zhn CT CNP vs H Q E0):=by
 refine JA F Zgh λcdv A outer s H vs Q E hr h=>?_
 obtain⟨x,rs,k,rfl,hT,q1,q2⟩:=h
 have hin:inR rs k:=Vk λz=>q2 z
 refine⟨_,(Zd (ZL (ZZ ZaJ hr (by decide) (Zf 0) (Zm (Zf 1) Zc)))
   (Zk (Zr (ZD (ZE (Z2 (Zf 0)) (JS (Zf 1) Zb)) Zb)))),?_⟩
 rw [show Zu ["self","k"] [x,.int k]=[some (x),some (.int k)] from rfl]
 walk_at "rd"
 obtain⟨a,dx,la,wa,ls,ws,rfl,h1,h2,h3,_⟩:=id hT
 refine⟨a,rfl,dx,_,h1,rfl,.ref a,rs,k,rfl,hT,λ_=>?_,λz=>z hin⟩
 obtain⟨k',hk'⟩:∃ k':Nat,k=(k':Int) + 1:=⟨(k - 1).toNat,by unfold inR at hin; omega⟩
 subst hk'
 have hl:=h3.1
 have hlr:k' < rs.length:=by unfold inR at hin; omega
 have hls:k' < ls.length:=by omega
 obtain⟨p,y,e,e2,e3⟩:=h3.2 k' _ _ (Yb hls) (Yb hlr)
 refine⟨a,rfl,CT,dx,_,h1,ZP,ZaT,.ref la,rfl,la,rfl,ls,h2,_,?_,p,e,_,e2,_,rfl,q1 k' _ y rfl (Yb hlr) e3⟩
 rw [show (k':Int) + 1 - 1=(k':Int) by omega]
 exact Z5 (Yb hls)
def Jb(R:Hp->V->α->Prop)(H:Hp)(xs:List V)(as:List α):Prop:=xs.length=as.length/\∀ (i:Nat) x a,xs[i]?=some x->as[i]?=some a->R H x a
def ZhT(R:Hp->V->α->Prop):Prop:=∀ H H' v a,R H v a->(∀ b ys,H b=some (.tup ys)->H' b=some (.tup ys))->R H' v a
theorem Jb.keep{R:Hp->V->α->Prop}(kR:ZhT R){H H':Hp}{xs:List V}{as:List α}(h:Jb R H xs as)(s:∀ b ys,H b=some (.tup ys)->H' b=some (.tup ys)):Jb R H' xs as:=⟨h.1,λi x a h1 h2=>kR _ _ _ _ (h.2 i x a h1 h2) s⟩
theorem Jb.snoc{R:Hp->V->α->Prop}{as:List α}{a:α}(h:Jb R H xs as)(hx:R H x a):Jb R H (xs ++ [x]) (as ++ [a]):=⟨by simp [h.1],λi y r h1 h2=>by
 by_cases c:i < xs.length
 ·rw [YD c] at h1
  rw [YD (by rw [<- h.1]; exact c)] at h2
  exact h.2 i y r h1 h2
 ·have hi:i=xs.length:=by have:=(List.getElem?_eq_some_iff.mp h1).1; simp at this; omega
  subst hi
  rw [YK (Yd _)] at h1
  rw [h.1,YK (Yd _)] at h2
  simp at h1 h2
  subst h1
  subst h2
  exact hx⟩
def ZdQ{a:Addr}{nt:Nat}{cp:St}{g:TG}{te:TE}{H1:Hp}{Q:VK}(R:Hp->V->α->Prop)(kR:ZhT R){xs:List V}{as:List α}(ha:H1 a=some (.lst xs))(hlen:xs.length=as.length)(hl:xs.length < 1000)
  (ht:∀ (i:Nat) x b,xs[i]?=some x->as[i]?=some b->∀ H' (k:VK) os,Zn H1 H'->os.length=nt->(∀ v H2,Zn H' H2->R H2 v b->k v H2)->g x (os ++ cp) H' λτ H3=>∃ os',os'.length=nt/\τ=os' ++ cp/\te τ H3 k)
  (q:∀ p H' ys,H1 p=none->Zn H1 H'->H' p=some (.lst ys)->Jb R H' ys as->Q (.ref p) H'):ZpV nt cp (Itl K a) g te H1 Q:=by
 unfold ZpV
 refine Zn0 (xs:=xs) (λacc i ys H'=>Zn H1 H'/\H' acc=some (.lst ys)/\Jb R H' ys (as.take i)/\i<=as.length)
  (λacc H2 hn sm e=>⟨sm,e,⟨by simp,λi v r h1 h2=>by simp at h1⟩,Nat.zero_le _⟩) (λacc i ys H2 hn ⟨sm,e,e2,hi⟩=>⟨e,?_,.of (sm _ _ ha)⟩) (λacc i y ys H2 os hn hi hP ol=>?_) (λacc ys H2 hn hP=>?_)
 ·rw [e2.1,YU]; omega
 ·obtain⟨sm,e,e2,_⟩:=hP
  have hil:i < as.length:=by rw [<- hlen]; exact (Yf.mp hi).1
  have hb:=Yb hil
  refine ht i y _ hi hb H2 (λv H5=>H5 acc=some (.lst ys)/\(Zn H1 (upd H5 acc (.lst (ys ++ [v])))/\upd H5 acc (.lst (ys ++ [v])) acc=some (.lst (ys ++ [v]))/\Jb R (upd H5 acc (.lst (ys ++ [v]))) (ys ++ [v]) (as.take (i + 1))/\i + 1<=as.length)) os sm ol λv H3 s3 hv=>⟨s3 _ _ e,ZW hn (sm.trans s3),Zl,?_,hil⟩
  have kp:∀ b ys',H3 b=some (.tup ys')->upd H3 acc (.lst (ys ++ [v])) b=some (.tup ys'):=λb ys' eb=>by rw [Zj (JD eb (s3 _ _ e) (by intro z; cases z))]; exact eb
  rw [List.take_add_one,hb]
  exact ((e2.keep kR λb ys' eb=>s3 _ _ eb).keep kR kp).snoc (kR _ _ _ _ hv kp)
 ·obtain⟨sm,e,e2,_⟩:=hP
  rw [hlen,List.take_length] at e2
  exact q acc H2 ys hn sm e e2
def Zt5(_:Hp)(v:V)(n:Int):Prop:=v=.int n
def Zmg:ZhT Zt5:=λ_ _ _ _ h _=>h
def Zof{ys:List V}{ns:List Int}(h:Jb Zt5 H ys ns):ys=ns.map V.int:=by
 refine Y7 λi=>?_
 rw [Yh]
 by_cases c:i < ys.length
 ·have c2:i < ns.length:=by rw [<- h.1]; exact c
  rw [Yb c,Yb c2]
  exact congrArg some (h.2 i _ _ (Yb c) (Yb c2))
 ·rw [YW (by omega),YW (by rw [<- h.1]; omega)]
  rfl
def ZmS(c:Int):Prop:=Builtin.Int.intBits c<=1048576
def Znw{c v m:Int}(h:ZmS c)(hv:v.natAbs < 2 ^ 60)(hm:m.natAbs < 2 ^ 1000):IntMulOk (c + v) m:=by
 have k1:Builtin.Int.intBits v<=60:=ZiK hv
 have k2:Builtin.Int.intBits m<=1000:=ZiK hm
 refine PyProof.Rows.mulOk_of_bits (PyProof.Rows.bits_add (m:=1048576) (n:=60) h k1) k2 (by decide)
def Zco:Sp:=λvs H Q _=>∃ c n:Int,vs=[.int c,.int n]/\0<=n/\n < 1000/\∀ p H' (xs:List Int),H p=none->Zn H H'->H' p=some (.lst (xs.map V.int))->(xs.length:Int)=n->(∀ x∈xs,0<=x/\x < 99989)->Q (.ref p) H'
def PnE(H0:Hp)(p:Addr)(c n:Int)(i:Nat)(σ:St)(H:Hp):Prop:=∃ (r:Int) (ok oo:Option V) (xs:List Int),σ=[some (.int c),some (.int n),some (.ref p),some (.int r),ok,oo]/\Zn H0 H/\H p=some (.lst (xs.map V.int))/\xs.length=i/\∀ x∈xs,0<=x/\x < 99989
def Ziw(F:Fun K "_law_numbers" "_law_numbers" ZaW f fd)(Jh:mg "range"=none):FnOk P w K mg base Zx 2 f fd ["_law_cell","_law_many"] Zco:=by
 refine JA F ZaS λcdv A outer s H vs Q E hr h=>?_
 obtain⟨c,n,rfl,h1,h2,q⟩:=h
 refine⟨_,(Zd (Zt 2 ZaS.nd (JK Zc))
   (Zd (Zt 3 ZaS.nd (Zf 0))
   (Zd (ZhP YM (Zg6 rfl Jh (Zm (Zf 1) Zc)) (Z3 4 ZaS.nd) (Zk (ZN (Ztv (Zf 0) (Ziz Zb Zb)) (Zd (ZL (Zgf (Zf 2) (Zm (ZX (Zf 3) Zb) Zc)))
   (Zk (Zt 3 ZaS.nd (Zdi (Zf 3) Zb)))) (Zd (Zt 5 ZaS.nd (ZX (Z4 (Z4 (JW (Zf 0) (Z4 Zb (JW Zb (Zf 4)))) (JW Zb (Zf 4))) Zb) Zb))
   (Zk (ZL (Zgf (Zf 2) (Zm (ZX (JW (Zf 5) (Z4 (Z4 (Zf 5) Zb) (Zf 4))) Zb) Zc))))))))
   (Zk (Zr (Zf 2)))))),?_⟩
 rw [show Zu ["_law_cell","_law_many","_law_found","_law_rest","_law_k","_law_one"] [.int c,.int n]=[some (.int c),some (.int n),none,none,none,none] from rfl]
 walk_at "rd"
 intro p H1 hp s1 e1
 simp only [Ze4]
 walk_at "rd"
 refine⟨by omega,by omega,?_⟩
 refine ZeQ (PnE H p c n) ⟨_,_,_,[],rfl,s1,e1,rfl,λx hx=>by cases hx⟩ (λi σ H2 hi hP=>?_) (λσ H2 hP=>?_)
 ·obtain⟨r,ok,oo,xs,rfl,s2,e2,hl,hx⟩:=hP
  walk_at "rd"
  have step:∀ (r' v:Int) (oo':Option V),0<=v->v < 99989->PnE H p c n (i + 1) [some (V.int c),some (V.int n),some (V.ref p),some (V.int r'),some (V.int (i:Int)),oo'] (upd H2 p (.lst (xs.map V.int ++ [.int v]))):=λr' v oo' a b =>
   ⟨r',_,_,xs ++ [v],rfl,ZW hp s2,by rw [Zl,List.map_append]; rfl,by simp [hl],λx hm=>by
    rcases Yz.mp hm with z | z
    ·exact hx x z
    ·have z:x=v:=by simpa using z
     rw [z]; exact⟨a,b⟩⟩
  have hlen:(xs.map V.int).length < 1000000:=by rw [Yg]; omega
  refine JF (λ_=>?_) (λ_=>?_)
  ·exact⟨⟨_,e2⟩,_,e2,hlen,step _ _ _ (Ys _ (by decide)) (Int.lt_trans (Yu _ (by decide)) (by decide))⟩
  ·have u0:∀ u:Int,0<=u % 99991/\u % 99991 < 99991:=λu=>⟨Ys _ (by decide),Yu _ (by decide)⟩
   have hu:=u0 (c * (48271 + 2 * (i:Int)) + 7919 * (i:Int) + 5)
   generalize (c * (48271 + 2 * (i:Int)) + 7919 * (i:Int) + 5) % 99991=o at hu ⊢
   exact⟨.inr ⟨by omega,by omega⟩,⟨_,e2⟩,.inl ⟨by omega,by omega⟩,_,e2,hlen,step _ _ _ (Ys _ (by decide)) (Yu _ (by decide))⟩
 ·obtain⟨r,ok,oo,xs,rfl,s2,e2,hl,hx⟩:=hP
  walk_at "rd"
  exact q p H2 xs hp s2 e2 (by omega) hx
def Ze7:Sp:=λvs H Q _=>∃ (v c:Int) (b:Bool),vs=[.int v,.bl b,.int c]/\0<=v/\v < 99989/\ZmS c/\∀ r H' q,Zn H H'->SzQ 98 q->0<=q.num->Jn H' r q->Q r H'
def ZkG(F:Fun K "_law_price_by" "_law_price_by" ZaR f fd)(ZaU:Fn P w K mg base Zx 2 "_law_low" ["_law_top","_law_bottom"] ZeI):FnOk P w K mg base Zx 3 f fd ["_law_v","_law_wide","_law_cell"] Ze7:=by
 refine JA F ZcD λcdv A outer s H vs Q E hr h=>?_
 obtain⟨v,c,b,rfl,hv0,hv1,hc,q⟩:=h
 refine⟨_,(Zd (ZN (Jk (Zf 1)) (Zd (Zt 3 ZcD.nd (ZX (JW (JW (Z4 (ZX (Zf 2) (Ziz Zb Zb)) (Zf 0)) Zb) (Ziz (Z4 (Zf 0) Zb) Zb)) (JS (Ziz Zb Zb) Zb)))
   (Zk (Zr (Jp ZaU hr (Zm (Zf 3) (Zm (Z4 Zb (ZX (JW (Zdo (Z4 (Zf 2) (Zf 0)) (Ziz Zb Zb)) (Z4 (Zf 0) Zb)) (JS (Ziz Zb Zb) Zb))) Zc)))))) Zy)
   (Zk (Zr (Jp ZaU hr (Zm (ZX (Zf 0) Zb) (Zm (Z4 Zb (ZX (Zdi (Zf 0) Zb) Zb)) Zc)))))),?_⟩
 rw [show Zu ["_law_v","_law_wide","_law_cell","_law_top"] [.int v,.bl b,.int c]=[some (.int v),some (.bl b),some (.int c),none] from rfl]
 walk_at "rd"
 simp only [ZeI]
 walk_at "rd"
 have fin:∀ t d:Int,0<=t->t.natAbs < 2 ^ 98->0 < d->d.natAbs < 2 ^ 98->Big d/\0 < d/\∀ (r:V) (H':Hp),Zn H H'->Jn H' r (Rat.divInt t d)->Q r H':=λt d h1 h2 h3 h4 =>
  ⟨Big.of h4 (by decide),h3,λr H' s v=>q r H' _ s (SzQ.of (by omega) h2 h4) (num_nonneg h1 h3) v⟩
 have key:∀ t d:Int,0<=t->t < 99999999999999999999999999999->0<=d->d < 99999999999999999999999999999->Big (1 + d)/\0 < 1 + d/\∀ (r:V) (H':Hp),Zn H H'->Jn H' r (Rat.divInt t (1 + d))->Q r H':=λt d h1 h2 h3 h4=>fin t (1 + d) h1 (by omega) (by omega) (by omega)
 refine JF (λ_=>?_) (λ_=>?_)
 ·have hp:(v + 3) ^ 3=(((v.toNat + 3) ^ 3:Nat):Int):=by
   rw [Int.natCast_pow]
   congr 1
   omega
  have hq:=Yj (Nat.pow_le_pow_left (show v.toNat + 3<=99991 by omega) 3) (show 99991 ^ 3<=999999999999999 by decide)
  have hu:0<=(v + 3) ^ 3/\(v + 3) ^ 3<=999999999999999:=by
   rw [hp]
   generalize (v.toNat + 3) ^ 3=u at hq
   omega
  refine⟨by omega,.inr ⟨?_,?_⟩,Znw hc (by omega) (by decide),.inr ⟨by omega,by omega⟩,key _ _ (Ys _ (by decide)) (Yu _ (by decide)) (Ys _ (by decide)) (Yu _ (by decide))⟩
  ·exact Int.lt_of_lt_of_le (by decide) hu.1
  ·exact Int.lt_of_le_of_lt hu.2 (by decide)
 ·exact fin _ _ (by omega) (by omega) (by omega) (by omega)
def tsE(n t:Nat):List Int:=(List.range n).map λj=>(((j + t) % n:Nat):Int) + 1
def Zmj{n t j:Nat}(h:j < n):(tsE n t)[j]?=some ((((j + t) % n:Nat):Int) + 1):=by
 unfold tsE
 rw [Yh,Vu h]
 rfl
def ZiM{n t j:Nat}(ht:t < n)(hj:j < n):(j + t) % n=if j + t < n then j + t else j + t - n:=by
 split
 ·rename_i h; exact Nat.mod_eq_of_lt h
 ·rename_i h
  rw [Nat.mod_eq_sub_mod (by omega),Nat.mod_eq_of_lt (by omega)]
def ZkJ{n t a b:Nat}(ht:t < n)(ha:a < n)(hb:b < n)(e:(a + t) % n=(b + t) % n):a=b:=by
 rw [ZiM ht ha,ZiM ht hb] at e
 split at e <;> split at e <;> omega
def ZnN{n t:Nat}(ht:t < n\/n=0):(tsE n t).Perm (Zo4 1 n):=by
 rcases ht with ht | rfl
 ·refine (List.perm_ext_iff_of_nodup ?_ Zfw).mpr λx=>?_
  ·unfold tsE
   refine List.Pairwise.map _ (R:=λa b=>a < n/\b < n/\a ≠ b) (λa b h=>?_) ?_
   ·obtain⟨ha,hb,hne⟩:=h
    intro e
    exact hne (ZkJ ht ha hb (Int.ofNat_inj.mp ((Int.add_left_inj 1).mp e)))
   ·exact List.pairwise_lt_range.imp_of_mem λha hb h=>⟨YI.mp ha,YI.mp hb,by omega⟩
  ·constructor
   ·intro h
    obtain⟨j,hj,rfl⟩:=Yo.mp h
    have h1:=Nat.mod_lt (j + t) (show n > 0 by omega)
    have:=ZjF (lo:=1) (n:=n) h1
    rw [Int.add_comm] at this
    exact this
   ·intro h
    have:=ZjP h
    obtain⟨k,rfl⟩:∃ k:Nat,x=(k:Int) + 1:=⟨(x - 1).toNat,by omega⟩
    refine Yo.mpr ⟨if t<=k then k - t else k + n - t,YI.mpr (by split <;> omega),?_⟩
    have hj:(if t<=k then k - t else k + n - t) < n:=by split <;> omega
    rw [ZiM ht hj]
    split <;> split <;> omega
 ·exact .refl _
def Zqh(x:Int)(i:Nat):∃ k:Nat,x % (1 + (i:Int))=(k:Int)/\k<=i:=by
 have h:(0:Int) < 1 + (i:Int):=by omega
 have a0:=Ys x (Int.ne_of_gt h)
 have a1:=Yu x h
 exact⟨(x % (1 + (i:Int))).toNat,(Int.toNat_of_nonneg a0).symm,by omega⟩
def ZsP{n t k i:Nat}(k0:0 < k)(k1:k<=i)(hi:i < n):∃ to:Nat,1 + ((k:Int) - 1 + (t:Int)) % (n:Int)=(to:Int)/\(to=0\/∃ j',j' < i/\(tsE n t)[j']?=some (to:Int)):=by
 rw [show (k:Int) - 1 + (t:Int)=((k - 1 + t:Nat):Int) by omega,<- Int.natCast_emod]
 refine⟨(k - 1 + t) % n + 1,by omega,.inr ⟨k - 1,by omega,?_⟩⟩
 rw [Zmj (by omega)]
 congr 1
def ZhA:Sp:=λvs H Q _=>∃ c m:Int,vs=[.int c,.int m]/\ZmS c/\1<=m/\m<=20/\∀ p H' xs rs,H p=none->Zn H H'->H' p=some (.lst xs)->ZR H' xs rs->Jd rs->rs.length<=20->(∀ r∈rs,SzQ 98 r.2/\0<=r.2.num)->Q (.ref p) H'
def PqE(H0:Hp)(pn acc:Addr)(c m:Int)(n t:Nat)(b:Bool)(xs:List Int)(i:Nat)(σ:St)(H:Hp):Prop:=∃ (o1 o2:Option V) (ys:List V),σ=[some (.int c),some (.int m),some (.ref pn),some (.int (n:Int)),some (.bl b),some (.int (t:Int)),some (.ref acc),o1,o2] /\
 Zn H0 H/\H pn=some (.lst (xs.map V.int))/\H acc=some (.lst ys)/\ys.length=n/\∀ j,j < i->ZtL H (tsE n t) ys j
def Zlm{H H6 H8:Hp}{pn acc p:Addr}{c m:Int}{n t i to:Nat}{b:Bool}{xs:List Int}{ys:List V}{r:V}{qr:Rat}(h0:H acc=none)(sm6:Zn H H6)(S:Zn H6 H8)(en:H6 pn=some (.lst (xs.map V.int)))(ea:H6 acc=some (.lst ys))(hna:pn ≠ acc)(hyl:ys.length=n)(hdone:∀ j,j < i->ZtL H6 (tsE n t) ys j)(hn0:t < n)(hi:i < n)
  (e8:H8 p=some (.tup [.int (to:Int),r])) (vr:Jn H8 r qr) (zq:SzQ 98 qr) (hqn:0<=qr.num) (hto:to=0\/∃ j',j' < i/\(tsE n t)[j']?=some (to:Int)) :
  PqE H pn acc c m n t b xs (i + 1) [some (V.int c),some (V.int m),some (V.ref pn),some (V.int (n:Int)),some (V.bl b),some (V.int (t:Int)),some (V.ref acc),some (V.int (1 + (i:Int))),some (V.int (to:Int))] (upd H8 acc (HO.lst (ys.set ((i + t) % n) (V.ref p)))):=by
 have ea8:=S _ _ ea
 have hix:(i + t) % n < ys.length:=by rw [hyl]; exact Nat.mod_lt _ (by omega)
 refine⟨_,_,ys.set ((i + t) % n) (.ref p),rfl,ZW h0 (sm6.trans S),by rw [Zj hna]; exact S _ _ en,Zl,by simpa using hyl,λj hj=>?_⟩
 by_cases hji:j=i
 ·subst hji
  exact⟨(j + t) % n,.ref p,(to,qr),Zmj hi,YV hix,Jm.upd ⟨p,r,rfl,e8,vr⟩ ea8,zq,hqn,hto⟩
 ·obtain⟨k',x,r',g1,g2,g3,g4,g5,g6⟩:=hdone j (by omega)
  have hjn:j < n:=by omega
  have hkk:(i + t) % n ≠ k':=λz=>by
   rw [Zmj hjn,Option.some.injEq] at g1
   have g7:(j + t) % n=(i + t) % n:=by rw [z]; exact Int.ofNat_inj.mp ((Int.add_left_inj 1).mp g1)
   exact hji (ZkJ hn0 hjn hi g7)
  exact⟨k',x,r',g1,by rw [YY hkk]; exact g2,(g3.same S).upd ea8,g4,g5,g6⟩
def Zmx(F:Fun K "_law_roads_by" "_law_roads_by" Zar f fd)(Jh:mg "range"=none)(Zkx:mg "min"=none)(ZgK:mg "max"=none)(ZaY:Fn P w K mg base Zx 2 "_law_numbers" ["_law_cell","_law_many"] Zco)
  (Zb6:Fn P w K mg base Zx 3 "_law_price_by" ["_law_v","_law_wide","_law_cell"] Ze7):FnOk P w K mg base Zx 4 f fd ["_law_cell","_law_most"] ZhA:=by
 refine JA F Zad λcdv A outer s H vs Q E hr h=>?_
 obtain⟨c,m,rfl,hc,hm0,hm1,q⟩:=h
 obtain⟨t1,ht1,hr1⟩:∃ t,QB (ZjU Zx P w K mg base ["_law_cell","_law_most","_law_xs","_law_many","_law_wide","_law_turn","_law_roads","_law_k","_law_to"] "_law_roads_by" (Za Zar) f cdv A outer s H E).nox ((Zh Zar).drop 4) t/\∀ (n:Nat) (b:Bool) (pn:Addr) (xs:List Int) (H1:Hp),(n:Int) < m->H pn=none->Zn H H1->H1 pn=some (.lst (xs.map V.int))->(xs.length:Int)=2 * m + 6->(∀ x∈xs,0<=x/\x < 99989) ->
   t { nx:=λ_ H'=>Q .non H',rt:=Q } [some (.int c),some (.int m),some (.ref pn),some (.int (n:Int)),some (.bl b),none,none,none,none] H1:=by
  refine⟨_,(Zd (Zt 5 Zad.nd (ZX (ZE (Zf 2) Zb) (ZqK rfl ZgK (Zm Zb (Zm (Zf 3) Zc)))))
   (Zd (Zhd 6 (ZnJ ["_law_k"]) (Zg6 rfl Jh (Zm (Zf 3) Zc)) (by exact λs H fp=>(Z3 0 (show List.Nodup (["_law_k"]:List Str) from by decide +kernel))) (by exact λs H fp=>ZqS) (Z3 6 Zad.nd))
   (Zd (ZhP YM (Zps rfl Jh (Zm Zb (Zm (Z4 (Zf 3) Zb) Zc))) (Z3 7 Zad.nd) (Zd (Zt 8 Zad.nd (ZX (ZE (Zf 2) (Z4 (JW Zb (Zf 7)) Zb)) (Zf 7)))
   (Zd (ZN (t_w (Zka (Jq (ZX (ZE (Zf 2) Zb) Zb) Zb) (ZfQ (Zse (ZX (ZE (Zf 2) (Z4 (JW Zb (Zf 7)) Zb)) Zb) Zb)))) (Zk (Zt 8 Zad.nd (JS (Zf 7) Zb))) Zy)
   (Zd (ZN (Zse (Zf 8) Zb) (Zk (Zt 8 Zad.nd (Z4 Zb (ZX (Z4 (JS (Zf 8) Zb) (Zf 5)) (Zf 3))))) Zy)
   (Zk (Zky (Jo (Zm (Zf 8) (Zm (Jp Zb6 hr (Zm (ZE (Zf 2) (Z4 (JW Zb (Zf 7)) Zb)) (Zm (Zf 4) (Zm (Zf 0) Zc)))) Zc))) (ZmY (Zf 6) (ZX (Z4 (JS (Zf 7) Zb) (Zf 5)) (Zf 3)))))))))
   (Zk (Zr (Zf 6)))))),λn b pn xs H1 hn hpn s1 e1 hxl hxb=>?_⟩
  walk_at "rd"
  simp only [JY,Zk1,cxK]
  walk_at "rd"
  have at_:∀ {j:Nat}(h:j < xs.length),atI (xs.map V.int) (j:Int)=some (.int xs[j]):=λ{j} h=>Z5 (by rw [Yh,Yb h]; rfl)
  have hl2:2 < xs.length:=by omega
  have hl3:3 < xs.length:=by omega
  obtain⟨t,et,htn⟩:∃ t:Nat,xs[2] % (if 1 < (n:Int) then (n:Int) else 1)=(t:Int)/\(t < n\/n=0):=by
   have hM:0 < (if 1 < (n:Int) then (n:Int) else 1)/\((if 1 < (n:Int) then (n:Int) else 1)<=(n:Int)\/n=0):=by split <;> omega
   generalize (if 1 < (n:Int) then (n:Int) else 1)=M at hM ⊢
   have a0:=Ys xs[2] (b:=M) (by omega)
   have a1:=Yu xs[2] hM.1
   exact⟨(xs[2] % M).toNat,by omega,by omega⟩
  refine⟨_,e1,_,at_ hl2,xs[2],rfl,by split <;> omega,by omega,by omega,?_⟩
  rw [et,show JB [some (V.int c),some (V.int m),some (V.ref pn),some (V.int (n:Int)),some (V.bl b),some (V.int (t:Int)),none,none,none] []=[] from rfl,Int.toNat_natCast]
  clear et hl2
  refine Zle (λacc i ys H'=>Zn H1 H'/\H' acc=some (.lst ys)/\ys.length=i/\i<=20) (λacc H2 hn sm e=>⟨sm,e,rfl,by omega⟩)
   (λacc i ys H2 h=>⟨h.2.1,by omega⟩) (λacc i ys H2 os hn hi h ol=>?_) (λacc ys H2 hn h=>?_)
  ·obtain⟨sm,e,hy,_⟩:=h
   obtain⟨o,rfl⟩:∃ o,os=[o]:=List.length_eq_one_iff.mp ol
   walk_at "rd"
   exact⟨[_],rfl,rfl,e,ZW hn sm,Zl,by simp [hy],by omega⟩
  ·obtain⟨sm,ea,hy,_⟩:=h
   have hna:pn ≠ acc:=Ze e1 hn
   have h0:H acc=none:=s1.free hn
   rw [Zg2]
   walk_at "rd"
   refine⟨by omega,by omega,?_⟩
   rw [show ((n:Int) + 1 - 1).toNat=n by omega]
   refine ZeQ (PqE H pn acc c m n t b xs) ⟨_,_,ys,rfl,s1.trans sm,sm _ _ e1,ea,hy,λj hj=>absurd hj (Nat.not_lt_zero j)⟩ (λi σ H6 hi hP=>?_) (λσ H6 hP=>?_)
   ·obtain⟨o1,o2,ys,rfl,sm6,en,ea,hyl,hdone⟩:=hP
    have hn0:t < n:=by omega
    have hl4:2 * (i + 1) + 4 < xs.length:=by omega
    have hl5:2 * (i + 1) + 5 < xs.length:=by omega
    have hx3:=at_ hl3
    have hx4:=at_ hl4
    have hv:=hxb xs[2 * (i + 1) + 5] (Yy hl5)
    obtain⟨k0,ek0,hk0⟩:=Zqh xs[2 * (i + 1) + 4] i
    have e4:(2:Int) * (1 + (i:Int)) + 4=((2 * (i + 1) + 4:Nat):Int):=by omega
    have e5:(2:Int) * (1 + (i:Int)) + 5=((2 * (i + 1) + 5:Nat):Int):=by omega
    have i1:(0:Int) < 1 + (i:Int):=by omega
    have hnz:(0:Int) < (n:Int):=by omega
    have ii1:(1:Int) + (i:Int) - 1=(i:Int):=by omega
    have iit:(1:Int) + (i:Int) - 1 + (t:Int)=((i + t:Nat):Int):=by omega
    clear htn hxl hn hm0 hm1 hy
    refine Zo λB hB=>?_
    walk_at "rd"
    rw [e4]
    refine⟨_,en,_,hx4,_,rfl,i1,?_⟩
    rw [ek0]
    subst hB
    try dsimp only
    refine Zo λB hB=>?_
    have k2:∀ k:Nat,k<=i->B [some (V.int c),some (V.int m),some (V.ref pn),some (V.int (n:Int)),some (V.bl b),some (V.int (t:Int)),some (V.ref acc),some (V.int (1 + (i:Int))),some (V.int (k:Int))] H6:=by
     intro k hk
     subst hB
     try dsimp only
     refine Zo λB hB=>?_
     have k3:∀ (to:Nat) (TO:Int),TO=(to:Int)->(to=0\/∃ j',j' < i/\(tsE n t)[j']?=some (to:Int))->B [some (V.int c),some (V.int m),some (V.ref pn),some (V.int (n:Int)),some (V.bl b),some (V.int (t:Int)),some (V.ref acc),some (V.int (1 + (i:Int))),some (V.int TO)] H6:=by
      rintro to _ rfl hto
      subst hB
      try dsimp only
      walk_at "rd"
      simp only [Ze7]
      walk_at "rd"
      rw [e5]
      refine⟨_,en,_,at_ hl5,_,rfl,hv.1,hv.2,hc,λr H7 qr s7 zq hqn vr p H8 hp s8 e8=>⟨hnz,ys,(s7.trans s8) _ _ ea,(i + t) % n,?_,?_⟩⟩
      ·rw [iit,<- Int.natCast_emod]
       exact Zi7 (by rw [hyl]; exact Nat.mod_lt _ (YZ (YC _) hn0))
      ·exact Zlm h0 sm6 (s7.trans s8) en ea hna hyl hdone hn0 hi e8 (vr.same s8) zq hqn hto
     walk_at "rd"
     refine JF (λc1=>⟨hnz,?_⟩) (λc1=>?_)
     ·obtain⟨to,e,h⟩:=ZsP (n:=n) (t:=t) (k:=k) (i:=i) (Int.ofNat_lt.mp c1) hk hi
      exact k3 to _ e h
     ·exact k3 0 _ (by omega) (.inl rfl)
    walk_at "rd"
    rw [e4]
    refine⟨_,en,_,hx3,_,rfl,JF (λ_=>⟨_,en,_,hx4,_,rfl,JF (λ_=>?_) (λ_=>k2 k0 hk0)⟩) (λ_=>k2 k0 hk0)⟩
    rw [ii1]
    exact k2 i (Yd _)
   ·obtain⟨o1,o2,ys,rfl,sm6,en,ea,hyl,hdone⟩:=hP
    walk_at "rd"
    obtain⟨rs,hR,hT,hlen,hz⟩:=Znn (n:=n) (ZnN htn) hyl hdone
    exact q acc H6 ys rs h0 sm6 ea hR hT (by omega) hz
 refine⟨_,(Zd (Zt 2 Zad.nd (Jp ZaY hr (Zm (Zf 0) (Zm (Z4 (JW Zb (Zf 1)) Zb) Zc))))
   (Zd (Zt 3 Zad.nd (ZX (ZE (Zf 2) Zb) (Zf 1)))
   (Zd (Zt 4 Zad.nd (Ztd (ZX (ZE (Zf 2) Zb) Zb) Zb))
   (Zd (ZN (Jk (Zf 4)) (Zk (Zt 3 Zad.nd (Zr7 rfl Zkx (Zm (Zf 3) (Zm Zb Zc))))) Zy)
   ht1)))),?_⟩
 rw [show Zu ["_law_cell","_law_most","_law_xs","_law_many","_law_wide","_law_turn","_law_roads","_law_k","_law_to"] [.int c,.int m]=[some (.int c),some (.int m),none,none,none,none,none,none,none] from rfl]
 walk_at "rd"
 simp only [Zco]
 walk_at "rd"
 refine⟨by omega,by omega,λpn H1 xs hpn s1 e1 hxl hxb=>?_⟩
 have at_:∀ {j:Nat}(h:j < xs.length),atI (xs.map V.int) (j:Int)=some (.int xs[j]):=λ{j} h=>Z5 (by rw [Yh,Yb h]; rfl)
 have hl0:0 < xs.length:=by omega
 have hl1:1 < xs.length:=by omega
 have m0:=Ys xs[0] (b:=m) (by omega)
 have m1:=Yu xs[0] (b:=m) (by omega)
 obtain⟨r,er⟩:∃ r:Nat,xs[0] % m=(r:Int):=⟨(xs[0] % m).toNat,by omega⟩
 refine⟨_,e1,_,at_ hl0,xs[0],rfl,by omega,_,e1,_,at_ hl1,xs[1],rfl,?_⟩
 rw [er] at m0 m1 ⊢
 refine JF (λcw=>?_) (λcw=>?_)
 ·rw [show (if 4 < (r:Int) then (4:Int) else (r:Int))=((min 4 r:Nat):Int) by split <;> omega]
  exact hr1 _ _ pn xs H1 (by omega) hpn s1 e1 hxl hxb
 ·exact hr1 _ _ pn xs H1 m1 hpn s1 e1 hxl hxb
theorem ZbZ(h:SzQ n q):(q.den:Int).natAbs < 2 ^ n:=by simpa using h.2
def Pd(a b:Int)(H:Hp)(σ:St)(H':Hp):Prop:=∃ l m:Int,σ=[some (.int l),some (.int m)]/\H'=H/\Int.gcd l m=Int.gcd a b
def ZkC(F:Fun K "_law_divisor" "_law_divisor" ZaX f fd)(Zh3:mg "abs"=none) :
  FnOk P w K mg base Zx 1 f fd ["_law_one","_law_other"] Zd9:=by
 refine JA F ZcV λcdv A outer s H vs Q E hr h=>?_
 obtain⟨a,b,rfl,q⟩:=h
 refine⟨_,(Zd (Zh8 YM (ZlN (Zf 1) Zb) (Zk (ZuE 0 1 ZcV.nd (Zm (Zf 1) (Zm (ZrJ (Zf 0) (Zf 1)) Zc)))))
   (Zk (Zr (Zrl rfl Zh3 (Zm (Zf 0) Zc))))),?_⟩
 rw [show Zu ["_law_one","_law_other"] [.int a,.int b]=[some (.int a),some (.int b)] from rfl]
 walk_at "rd"
 refine Zir (Pd a b H) (λσ _=>(Zrf σ 1).natAbs) ⟨_,_,rfl,rfl,rfl⟩ ?_
 rintro σ H' ⟨l,m,rfl,rfl,hg⟩
 walk_at "rd"
 refine JF (λc=>?_) (λc=>?_)
 ·refine⟨_,λσ' H' z=>z,c,_,ZiD c,rfl,m,l.fmod m,rfl,rfl,?_⟩
  rw [Zms]; exact hg
 ·have e:m=0:=by omega
  subst e
  have e2:(Int.gcd a b:Int)=(if l < 0 then -l else l):=by rw [<- hg,ZkU]; simp
  rw [e2] at q
  exact q
def Zrd(F:Fun K "_law_low" "_law_low" Zce f fd)(Zci:Fn P w K mg base Zx 1 "_law_divisor" ["_law_one","_law_other"] Zd9):FnOk P w K mg base Zx 2 f fd ["_law_top","_law_bottom"] ZeI:=by
 refine JA F ZfR λcdv A outer s H vs Q E hr h=>?_
 obtain⟨a,b,rfl,hz,hb,q⟩:=h
 refine⟨_,(Zd (Zt 2 ZfR.nd (Jp Zci hr (Zm (Zf 0) (Zm (Zf 1) Zc))))
   (Zk (Zr (Jo (Zm (ZgH (Zf 0) (Zf 2)) (Zm (ZgH (Zf 1) (Zf 2)) Zc)))))),?_⟩
 rw [show Zu ["_law_top","_law_bottom","_law_part"] [.int a,.int b]=[some (.int a),some (.int b),none] from rfl]
 walk_at "rd"
 simp only [Zd9]
 walk_at "rd"
 have h1:=Vi a (Int.ne_of_gt hb)
 have h3:(Int.gcd a b:Int).natAbs.log2 < 9000:=ZdU (ZcR (YZ (ZfB (Int.ne_of_gt hb)) hz) (by omega)) (by omega)
 refine⟨by omega,h3,by omega,h3,λp H' _ hs e=>q _ H' hs ⟨p,rfl,?_⟩⟩
 rw [(Zfi hb).1,(Zfi (t:=a) hb).2] at e
 exact e
def ZjI(g:Rat->Rat->Rat):Sp:=λvs H Q _=>∃ (x y:V) (p q:Rat),vs=[x,y]/\Jn H x p/\Jn H y q/\SzQ 2000 p/\SzQ 2000 q/\∀ r H',Zn H H'->Jn H' r (g p q)->Q r H'
def Zq5(F:Fun K "rest_of" "rest_of" Zb9 f fd)(ZiG:Fn P w K mg base Zx 2 "ratio" ["top","bottom"] ZeA):FnOk P w K mg base Zx 3 f fd ["one","other"] (ZjI (· - ·)):=by
 refine JA F ZjX λcdv A outer s H vs Q E hr h=>?_
 obtain⟨x,y,p,t,rfl,⟨a,rfl,ha⟩,⟨b,rfl,hb⟩,z1,z2,q⟩:=h
 refine⟨_,(Zk (Zr (Jp ZiG hr (Zm (JS (Zdo (ZD (Zf 0) Zb) (ZD (Zf 1) Zb)) (Zdo (ZD (Zf 1) Zb) (ZD (Zf 0) Zb))) (Zm (Zdo (ZD (Zf 0) Zb) (ZD (Zf 1) Zb)) Zc))))),?_⟩
 rw [show Zu ["one","other"] [.ref a,.ref b]=[some (.ref a),some (.ref b)] from rfl]
 walk_at "rd"
 simp only [ha,hb,ZeA]
 walk_at "rd"
 refine⟨Zhs z1.1 (ZbZ z2) (by decide),Zhs z2.1 (ZbZ z1) (by decide),Zhs (ZbZ z1) (ZbZ z2) (by decide),Big.of (ZfO (ZbZ z1) (ZbZ z2)) (by decide),Zj0 p t,λr H' hs v=>q r H' hs ?_⟩
 show Jn H' r (p - t)
 rw [ZfL]
 exact v
def Zk2:Sp:=λvs H Q _=>∃ (x y:V) (p q:Rat),vs=[x,y]/\Jn H x p/\Jn H y q/\SzQ 2000 p/\SzQ 2000 q/\Q (.bl (decide (p < q))) H
def ZpJ(F:Fun K "is_less" "is_less" Zcd f fd):FnOk P w K mg base Zx 1 f fd ["one","other"] Zk2:=by
 refine JA F Zj1 λcdv A outer s H vs Q E hr h=>?_
 obtain⟨x,y,p,t,rfl,⟨a,rfl,ha⟩,⟨b,rfl,hb⟩,z1,z2,q⟩:=h
 refine⟨_,(Zk (Zr (Zu4 (Zdo (ZD (Zf 0) Zb) (ZD (Zf 1) Zb)) (Zdo (ZD (Zf 1) Zb) (ZD (Zf 0) Zb))))),?_⟩
 rw [show Zu ["one","other"] [.ref a,.ref b]=[some (.ref a),some (.ref b)] from rfl]
 walk_at "rd"
 simp only [ha,hb]
 walk_at "rd"
 refine⟨Zhs z1.1 (ZbZ z2) (by decide),Zhs z2.1 (ZbZ z1) (by decide),?_⟩
 rw [<- decide_eq_decide.mpr (Zog p t)]
 exact q
def BlR(_:Hp)(v:V)(b:Bool):Prop:=v=.bl b
def ZjS:ZhT BlR:=λ_ _ _ _ h _=>h
def StR(_:Hp)(v:V)(z:Str):Prop:=v=.str z
def Zen:ZhT StR:=λ_ _ _ _ h _=>h
def ZcL{g:α->V}{R:Hp->V->α->Prop}(hR:∀ H v a,R H v a->v=g a){H:Hp}{ys:List V}{as:List α}(h:Jb R H ys as):ys=as.map g:=by
 refine Y7 λi=>?_
 rw [Yh]
 by_cases c:i < ys.length
 ·have c2:i < as.length:=by rw [<- h.1]; exact c
  rw [Yb c,Yb c2]
  exact congrArg some (hR _ _ _ (h.2 i _ _ (Yb c) (Yb c2)))
 ·rw [YW (by omega),YW (by rw [<- h.1]; omega)]
  rfl
variable {z:Str}
def Zjr{nt:Nat}{cp:St}{g:TG}{te:TE}{H1:Hp}{Q:VK}(R:Hp->V->α->Prop)(kR:ZhT R){as:List α}(hlen:z.cps.toList.length=as.length)(hl:z.cps.toList.length < 1000)
  (ht:∀ (i:Nat) d b,z.cps.toList[i]?=some d->as[i]?=some b->∀ H' (k:VK) os,Zn H1 H'->os.length=nt->(∀ v H2,Zn H' H2->R H2 v b->k v H2)->g (.str (one d)) (os ++ cp) H' λτ H3=>∃ os',os'.length=nt/\τ=os' ++ cp/\te τ H3 k)
  (q:∀ p H' ys,H1 p=none->Zn H1 H'->H' p=some (.lst ys)->Jb R H' ys as->Q (.ref p) H'):ZpV nt cp (Itx z) g te H1 Q:=by
 unfold ZpV
 refine ZoL (λacc i ys H'=>Zn H1 H'/\H' acc=some (.lst ys)/\Jb R H' ys (as.take i)/\i<=as.length)
  (λacc H2 hn sm e=>⟨sm,e,⟨by simp,λi v r h1 h2=>by simp at h1⟩,Nat.zero_le _⟩) (λacc i ys H2 hn ⟨sm,e,e2,hi⟩=>⟨e,?_⟩) (λacc i y ys H2 os hn hi hP ol=>?_) (λacc ys H2 hn hP=>?_)
 ·rw [e2.1,YU]; omega
 ·obtain⟨sm,e,e2,_⟩:=hP
  have hil:i < as.length:=by rw [<- hlen]; exact (Yf.mp hi).1
  have hb:=Yb hil
  refine ht i y _ hi hb H2 (λv H5=>H5 acc=some (.lst ys)/\(Zn H1 (upd H5 acc (.lst (ys ++ [v])))/\upd H5 acc (.lst (ys ++ [v])) acc=some (.lst (ys ++ [v]))/\Jb R (upd H5 acc (.lst (ys ++ [v]))) (ys ++ [v]) (as.take (i + 1))/\i + 1<=as.length)) os sm ol λv H3 s3 hv=>⟨s3 _ _ e,ZW hn (sm.trans s3),Zl,?_,hil⟩
  have kp:∀ b ys',H3 b=some (.tup ys')->upd H3 acc (.lst (ys ++ [v])) b=some (.tup ys'):=λb ys' eb=>by rw [Zj (JD eb (s3 _ _ e) (by intro z; cases z))]; exact eb
  rw [List.take_add_one,hb]
  exact ((e2.keep kR λb ys' eb=>s3 _ _ eb).keep kR kp).snoc (kR _ _ _ _ hv kp)
 ·obtain⟨sm,e,e2,_⟩:=hP
  rw [hlen,List.take_length] at e2
  exact q acc H2 ys hn sm e e2
def Few(q:Rat):Prop:=q.num.natAbs < 10 ^ 30/\q.den < 10 ^ 30
def Jv(q:Rat):Str:=if (q.den:Int)=1 then ZK q.num else ZK q.num ++ one 47 ++ ZK (q.den:Int)
def Ju(r:Nat × Rat):Str:=ZK (r.1:Int) ++ one 32 ++ Jv r.2
def JO(rs:List (Nat × Rat)):Str:=Txt.join (one 10) (rs.map Ju)
def ZgF:Str.ofString "/"=one 47:=by decide +kernel
def Zcl:Str.ofString " "=one 32:=by decide +kernel
def Zg1:Str.ofString "\n"=one 10:=by decide +kernel
def ZoJ:Str.ofString "0"=one 48:=by decide +kernel
def Zq3:Str.ofString "-"=one 45:=by decide +kernel
def Zbw{i:Int}(h:i.natAbs < 10 ^ 30):i.natAbs.log2 < 1920:=by
 have h2:i.natAbs < 2 ^ 100:=Yl h (by decide)
 exact ZdU (ZcR h2 (by decide)) (by decide)
def ZaM{i:Int}(h:i.natAbs < 10 ^ 30):(ZK i).length<=31:=by
 unfold ZK
 rw [PySem.ofString_length]
 exact int_text_length_le10 (k:=30) (by decide) h
def ZcO(h:Few q):(Jv q).length<=63:=by
 have h1:=ZaM (i:=q.num) h.1
 have h2:=ZaM (i:=(q.den:Int)) (by have:=h.2; omega)
 unfold Jv
 split
 ·omega
 ·rw [strLen_append,strLen_append]
  have:(one 47).length=1:=rfl
  omega
def Zeo:Sp:=λvs H Q _=>∃ (x:V) (q:Rat),vs=[x]/\Jn H x q/\Few q/\Q (.str (Jv q)) H
def Zne(F:Fun K "show_ratio" "show_ratio" Zbc f fd):FnOk P w K mg base Zx 1 f fd ["one"] Zeo:=by
 refine JA F Zcn λcdv A outer s H vs Q E hr h=>?_
 obtain⟨x,t,rfl,⟨p,rfl,hp⟩,hf,q⟩:=h
 refine⟨_,(Zd (Zt 1 Zcn.nd (ZD (Zf 0) Zb))
   (Zd (Zt 2 Zcn.nd (ZD (Zf 0) Zb))
   (Zk (Zr (Zh2 (Jq (Zf 2) Zb) (ZrG (Zf 1)) (ZqL (Zf 1) (Zf 2))))))),?_⟩
 rw [show Zu ["one","top","bottom"] [.ref p]=[some (.ref p),none,none] from rfl]
 walk_at "rd"
 simp only [hp]
 walk_at "rd"
 have h1:Zmb (.int t.num) (ZK t.num):=.inl ⟨_,rfl,Zbw hf.1,rfl⟩
 have h2:Zmb (.int (t.den:Int)) (ZK (t.den:Int)):=.inl ⟨_,rfl,Zbw (by have:=hf.2; omega),rfl⟩
 unfold Jv at q
 by_cases c:(t.den:Int)=1
 ·rw [if_pos c] at q ⊢
  exact⟨_,h1,q⟩
 ·rw [if_neg c] at q ⊢
  exact⟨_,h1,_,h2,by rw [ZgF]; exact q⟩
def Zis:Sp:=Zeo
def ZpO(F:Fun K "_law_word" "_law_word" ZbE f fd)(Jl:mg "str"=none):FnOk P w K mg base Zx 1 f fd ["_law_one"] Zis:=by
 refine JA F ZhY λcdv A outer s H vs Q E hr h=>?_
 obtain⟨x,t,rfl,⟨p,rfl,hp⟩,hf,q⟩:=h
 refine⟨_,(Zd (ZN (Jq (ZD (Zf 0) Zb) Zb) (Zk (Zr (ZfG rfl Jl (Zm (ZD (Zf 0) Zb) Zc)))) Zy)
   (Zk (Zr (ZeO (ZeO (ZfG rfl Jl (Zm (ZD (Zf 0) Zb) Zc)) Zv) (ZfG rfl Jl (Zm (ZD (Zf 0) Zb) Zc)))))),?_⟩
 rw [show Zu ["_law_one"] [.ref p]=[some (.ref p)] from rfl]
 walk_at "rd"
 simp only [hp]
 walk_at "rd"
 have h1:=ZaM hf.1
 have h2:=ZaM (i:=(t.den:Int)) (by have:=hf.2; omega)
 unfold Jv at q
 by_cases c:(t.den:Int)=1
 ·rw [if_pos c] at q ⊢
  exact⟨Zbw hf.1,q⟩
 ·rw [if_neg c] at q ⊢
  rw [ZgF,strLen_append,show (one 47).length=1 from rfl]
  exact⟨Zbw hf.1,Jj (by omega),Zbw (by have:=hf.2; omega),Jj (by omega),q⟩
def Zcj:Sp:=λvs H Q _=>∃ z:Str,vs=[.str z]/\Q .non H
def ZiU(F:Fun K "look_text" "look_text" Zbr f fd)(Zp:mg "isinstance"=none)(Jl:mg "str"=none):FnOk P w K mg base Zx 1 f fd ["thing"] Zcj:=by
 refine JA F Zht λcdv A outer s H vs Q E hr h=>?_
 obtain⟨z,rfl,q⟩:=h
 refine⟨_,(Zk (ZN (Jr (Jk (ZcY rfl Zp (Zm (Zf 0) (Zm (ZmN rfl Jl rfl) Zc))))) (Zk Z6) Zy)),?_⟩
 rw [show Zu ["thing"] [.str z]=[some (.str z)] from rfl]
 walk_at "rd"
 exact⟨"str",rfl,by rw [if_neg (by decide)]; exact q⟩
def ZqH{n:Int}(h0:0<=n):((ZK n).cps.toList.map λd=>decide (d∈(Str.ofString "0123456789").cps.toList)).all id=true:=by
 obtain⟨m,rfl⟩:=Int.eq_ofNat_of_zero_le h0
 rw [List.all_eq_true]
 intro b hb
 obtain⟨d,hd,rfl⟩:=Yo.mp hb
 have hr:=ZbW hd
 rw [show (Str.ofString "0123456789").cps.toList=[48,49,50,51,52,53,54,55,56,57] by decide +kernel]
 have:d=48\/d=49\/d=50\/d=51\/d=52\/d=53\/d=54\/d=55\/d=56\/d=57:=by omega
 simpa using this
def Zet:Sp:=λvs H Q _=>∃ n:Int,vs=[.str (ZK n)]/\0<=n/\n < 10 ^ 30/\∀ H',Zn H H'->Q (.int n) H'
def Znb{tk1 tk2:Tok}(F:Fun K "read_whole" "read_whole" Za7 f fd)(ZC:mg "len"=none)(Zkj:mg "all"=none)(Zke:mg "int"=none)(g_MOST_FIGURES:mg "MOST_FIGURES"=some (.int 30 tk1))(g_FIGURES:mg "FIGURES"=some (.str "0123456789" tk2)) :
  FnOk P w K mg base Zx 2 f fd ["text"] Zet:=by
 refine JA F Zgm λcdv A outer s H vs Q E hr h=>?_
 obtain⟨n,rfl,h0,h1,q⟩:=h
 refine⟨_,(Zd (ZN (t_w (J3 (Jr (Zpb Zb (Zpr rfl ZC (Zm (Zf 0) Zc)) (ZhG rfl g_MOST_FIGURES))) (JV (Jr (Jk (Zpy rfl Zkj (Zm (Zdy (ZnJ ["sign"]) (Zsl (Zf 0)) (by exact λs H fp=>(Z3 0 (show List.Nodup (["sign"]:List Str) from by decide +kernel))) (by exact λs H fp=>(Zr3 (Zf 0) (Zpp rfl g_FIGURES)))) Zc))))))) (Zk Z6) Zy)
   (Zd (ZN (t_w (Zka (Jk (Zjf (Zf 0) (Zm Zv Zc))) (ZfQ (ZlN (Zf 0) Zv)))) (Zk Z6) Zy)
   (Zk (Zr (Zr1 rfl Zke (Zm (Zf 0) Zc)))))),?_⟩
 rw [show Zu ["text"] [.str (ZK n)]=[some (.str (ZK n))] from rfl]
 walk_at "rd"
 have hl:=Zja h0 h1
 obtain⟨m,em⟩:=Int.eq_ofNat_of_zero_le h0
 have hp:1<=(ZK n).length:=by rw [em]; exact ZnB m
 have hread:=ZeG h0 h1
 refine⟨Jj (by omega),?_⟩
 rw [if_pos (by omega),if_neg (by omega)]
 simp only [JY,Zuf]
 walk_at "rd"
 refine⟨λd hd=>?_,?_⟩
 ·rw [em] at hd
  have:=ZbW hd
  omega
 rw [show JB [some (V.str (ZK n))] []=[] from rfl]
 refine Zjr BlR ZjS (as:=(ZK n).cps.toList.map λd=>decide (d∈(Str.ofString "0123456789").cps.toList)) (by rw [Yg]) (by rw [ZhI]; omega) (λi d b hd hb H' k os s1 ol hk=>?_) (λp H' ys hp1 s1 e1 hL=>?_)
 ·obtain⟨o,rfl⟩:∃ o,os=[o]:=List.length_eq_one_iff.mp ol
  walk_at "rd"
  rw [Yh,hd] at hb
  cases hb
  exact⟨[_],rfl,rfl,_,rfl,hk _ _ (λ_ _ e=>e) rfl⟩
 ·rw [ZcL (g:=V.bl) (λ_ _ _ h=>h) hL] at e1
  refine⟨p,rfl,_,e1,?_⟩
  rw [ZqH h0,if_neg (by decide)]
  have fin:∃ x,intText? (ZK n)=some x/\(ZK n).length<=640/\Q (V.int x) H':=⟨n,hread,by omega,q _ s1⟩
  rw [ZoJ,Zfy]
  by_cases c:((ZK n).cps.toList.head? == some 48)=true
  ·rw [if_pos c]
   have hz:m=0:=Zid (by rw [<- em]; exact Y3.mp c)
   have hn:n=0:=by omega
   rw [if_neg (by rw [hn,ZlJ]; exact λz=>z rfl)]
   exact fin
  ·rw [if_neg c]
   exact fin
def ZdC(h:Few r.2)(h1:r.1 < 10 ^ 30):(Ju r).length<=95:=by
 have l1:=ZaM (i:=(r.1:Int)) (by omega)
 have l2:=ZcO h
 unfold Ju
 rw [strLen_append,strLen_append]
 have:(one 32).length=1:=rfl
 omega
def ZeX:Sp:=λvs H Q _=>∃ (x:V) (r:Nat × Rat),vs=[x]/\Jm H x r/\Few r.2/\r.1 < 10 ^ 30/\Q (.str (Ju r)) H
def ZiJ(F:Fun K "show_road" "show_road" Zbj f fd)(Zba:Fn P w K mg base Zx 1 "show_ratio" ["one"] Zeo):FnOk P w K mg base Zx 2 f fd ["road"] ZeX:=by
 refine JA F ZcE λcdv A outer s H vs Q E hr h=>?_
 obtain⟨x,r,rfl,⟨p,y,rfl,hp,hy⟩,hf,hr1,q⟩:=h
 refine⟨_,(Zd (Zt 1 ZcE.nd (ZD (Zf 0) Zb))
   (Zd (Zt 2 ZcE.nd (Jp Zba hr (Zm (ZD (Zf 0) Zb) Zc)))
   (Zk (Zr (ZqL (Zf 1) (Zf 2)))))),?_⟩
 rw [show Zu ["road","to","price"] [.ref p]=[some (.ref p),none,none] from rfl]
 walk_at "rd"
 simp only [hp]
 walk_at "rd"
 refine⟨y,r.2,rfl,hy,hf,_,.inl ⟨_,rfl,Zbw (by omega),rfl⟩,_,.inr ⟨rfl,?_⟩,?_⟩
 ·have:=ZcO hf
  omega
 ·rw [Zcl]
  exact q
def ZeZ(C:Addr):Sp:=λvs H Q _=>∃ (x:V) (rs:List (Nat × Rat)),vs=[x]/\ZM C H x rs/\(∀ r∈rs,Few r.2/\r.1 < 10 ^ 30)/\rs.length<=40/\∀ H',Zn H H'->Q (.str (JO rs)) H'
def Zit(F:Fun K "show_tree" "show_tree" Zbt f fd)(Zdd:Fn P w K mg base Zx 2 "show_road" ["road"] ZeX)(Zck:Mth P w K mg base Zx 1 CT "roads" ["self"] (Zdw CT)):FnOk P w K mg base Zx 4 f fd ["tree"] (ZeZ CT):=by
 refine JA F Zhu λcdv A outer s H vs Q E hr h=>?_
 obtain⟨x,rs,rfl,hT,hf,hl,q⟩:=h
 obtain⟨a,dx,la,wa,ls,ws,rfl,h1,h2,h3,h4,h5,h6⟩:=id hT
 refine⟨_,(Zk (Zr (Zhp Zv (Zm (Zdy (ZnJ ["road"]) (Zfd (Zcq Zck hr (by decide) (Zf 0))) (by exact λs H fp=>(Z3 0 (show List.Nodup (["road"]:List Str) from by decide +kernel))) (by exact λs H fp=>(Jp Zdd hr (Zm (Zf 0) Zc)))) Zc)))),?_⟩
 rw [show Zu ["tree"] [.ref a]=[some (.ref a)] from rfl]
 walk_at "rd"
 simp only [JY,Zfo]
 walk_at "rd"
 refine⟨dx,_,h1,rfl,.ref a,rs,rfl,hT,λp H1 ls1 hp s1 e1 hR=>⟨p,rfl,⟨_,.of e1⟩,?_⟩⟩
 rw [show JB [some (V.ref a)] []=[] from rfl]
 refine ZdQ StR Zen (xs:=ls1) (as:=rs.map Ju) e1 (by rw [Yg]; exact hR.1) (by rw [hR.1]; omega) (λi y z hy hz H' k os s2 ol hk=>?_) (λpl H' ys hpl s2 e2 hL=>?_)
 ·obtain⟨o,rfl⟩:∃ o,os=[o]:=List.length_eq_one_iff.mp ol
  walk_at "rd"
  rw [Yh] at hz
  obtain⟨r,er,rfl⟩:=YS.mp hz
  have hm:=hf r (Yx er)
  exact⟨[_],rfl,rfl,y,r,rfl,(hR.2 i y r hy er).same s2,hm.1,hm.2,hk _ _ (λ_ _ e=>e) rfl⟩
 ·rw [ZcL (g:=V.str) (λ_ _ _ h=>h) hL] at e2
  refine⟨pl,rfl,_,e2,by rw [Zg1]; decide,?_,?_⟩
  ·have hs:=StrLaws.sumLen_le (B:=95) (rs.map Ju) (λy hy=>by
    obtain⟨r,hr,rfl⟩:=Yo.mp hy
    exact ZdC (hf r hr).1 (hf r hr).2)
   rw [Yg] at hs ⊢
   omega
  ·rw [Zg1]
   exact q _ (s1.trans s2)
def Zda:Sp:=λvs H Q _=>∃ (p:Addr) (xs:List V) (rs:List (Nat × Rat)),vs=[.ref p]/\H p=some (.lst xs)/\ZR H xs rs/\(∀ r∈rs,Few r.2/\r.1 < 10 ^ 30)/\rs.length<=40/\∀ H',Zn H H'->Q (.str (JO rs)) H'
def ZiE(F:Fun K "_law_tree_text" "_law_tree_text" ZaF f fd)(Jl:mg "str"=none)(ZbQ:Fn P w K mg base Zx 1 "_law_word" ["_law_one"] Zis):FnOk P w K mg base Zx 3 f fd ["_law_roads"] Zda:=by
 refine JA F Zei λcdv A outer s H vs Q E hr h=>?_
 obtain⟨p,xs,rs,rfl,hp,hR,hf,hl,q⟩:=h
 refine⟨_,(Zk (Zr (Zhp Zv (Zm (Zdy (ZnJ ["_law_to","_law_price"]) (Zfd (Zf 0)) (by exact λs H fp=>(ZlW (n:=2) (Zb5 (Z3 0 (show List.Nodup (["_law_to","_law_price"]:List Str) from by decide +kernel)) (Zb5 (Z3 1 (show List.Nodup (["_law_to","_law_price"]:List Str) from by decide +kernel)) ZgT)))) (by exact λs H fp=>(ZeO (ZeO (ZfG rfl Jl (Zm (Zf 0) Zc)) Zv) (Jp ZbQ hr (Zm (Zf 1) Zc))))) Zc)))),?_⟩
 rw [show Zu ["_law_roads"] [.ref p]=[some (.ref p)] from rfl]
 walk_at "rd"
 simp only [JY,Zfo]
 walk_at "rd"
 refine⟨⟨_,.of hp⟩,?_⟩
 rw [show JB [some (V.ref p)] []=[] from rfl]
 refine ZdQ StR Zen (xs:=xs) (as:=rs.map Ju) hp (by rw [Yg]; exact hR.1) (by rw [hR.1]; omega) (λi y z hy hz H' k os s2 ol hk=>?_) (λpl H' ys hpl s2 e2 hL=>?_)
 ·obtain⟨o,o',rfl⟩:∃ o o',os=[o,o']:=by
   match os,ol with
   | [o,o'],_=>exact⟨o,o',rfl⟩
  rw [Yh] at hz
  obtain⟨r,er,rfl⟩:=YS.mp hz
  have hm:=hf r (Yx er)
  obtain⟨py,yy,rfl,hpy,hyy⟩:=(hR.2 i y r hy er).same s2
  walk_at "rd"
  have l1:=ZaM (i:=(r.1:Int)) (by have:=hm.2; omega)
  have l2:=ZcO hm.1
  have l3:(one 32).length=1:=rfl
  refine⟨_,hpy,rfl,_,_,rfl,_,_,rfl,rfl,[_,_],rfl,rfl,_,rfl,Zbw (by have:=hm.2; omega),?_,_,_,rfl,hyy,hm.1,_,rfl,?_,?_⟩
  ·rw [Zcl]; exact Jj (by omega)
  ·rw [Zcl,strLen_append]; exact Jj (by omega)
  ·rw [Zcl]; exact hk _ _ (λ_ _ e=>e) rfl
 ·rw [ZcL (g:=V.str) (λ_ _ _ h=>h) hL] at e2
  refine⟨pl,rfl,_,e2,by rw [Zg1]; decide,?_,?_⟩
  ·have hs:=StrLaws.sumLen_le (B:=95) (rs.map Ju) (λy hy=>by
    obtain⟨r,hr,rfl⟩:=Yo.mp hy
    exact ZdC (hf r hr).1 (hf r hr).2)
   rw [Yg] at hs ⊢
   omega
  ·rw [Zg1]
   exact q _ s2
def Zd1(t:Rat):Str:=if (t.den:Int)=1 then ZK (t.num.natAbs:Int) else ZK (t.num.natAbs:Int) ++ one 47 ++ ZK (t.den:Int)
def JR(t:Rat):List Int:=if (t.den:Int)=1 then [(t.num.natAbs:Int)] else [(t.num.natAbs:Int),(t.den:Int)]
variable {t:Rat}
def Zdf(h:0<=t.num):Jv t=Zd1 t:=by
 unfold Jv Zd1
 rw [show (t.num.natAbs:Int)=t.num by omega]
def Zgp(h:t.num < 0):Jv t=one 45 ++ Zd1 t:=by
 have e:ZK t.num=one 45 ++ ZK (t.num.natAbs:Int):=by
  rw [<- ZoD (by omega)]
  congr 1
  omega
 unfold Jv Zd1
 rw [e]
 split
 ·rfl
 ·rw [Str.append_assoc,Str.append_assoc,Str.append_assoc]
def Zbe{m:Nat}{c:Nat}(h:c < 48\/57 < c):c ∉ (ZK (m:Int)).cps.toList:=λz=>by
 have:=ZbW z
 omega
def ZdS(t:Rat):Txt.split (Zd1 t) (one 47)=(JR t).map ZK:=by
 unfold Zd1 JR
 split
 ·have e:=Zcf (c:=47) (xs:=[ZK (t.num.natAbs:Int)]) (by simp) (λp hp=>by
   simp at hp
   rw [hp]
   exact Zbe (by omega))
  rw [ZjM] at e
  exact e
 ·have e:=Zcf (c:=47) (xs:=[ZK (t.num.natAbs:Int),ZK (t.den:Int)]) (by simp) (λp hp=>by
   simp at hp
   rcases hp with rfl | rfl
   ·exact Zbe (by omega)
   ·exact Zbe (by omega))
  rw [Zjh] at e
  exact e
def ZkT(t:Rat):((Zd1 t).cps.toList.head? == some 45)=false:=by
 have h:=ZoM t.num.natAbs
 unfold Zd1
 split
 ·exact h
 ·rw [JI,JI,List.append_assoc]
  cases e:(ZK (t.num.natAbs:Int)).cps.toList with
  | nil=>exact absurd e (ZfX _)
  | cons a l =>
   rw [e] at h
   exact h
def ZlR(t:Rat):Txt.startswith (Jv t) (one 45)=decide (t.num < 0):=by
 rw [Zfy]
 by_cases c:t.num < 0
 ·rw [Zgp c,Yt c,JI]
  rfl
 ·rw [Zdf (by omega),Yp c]
  exact ZkT t
def Zn1(h:Few t):(Zd1 t).length<=63:=by
 have h1:=ZaM (i:=(t.num.natAbs:Int)) (by have:=h.1; omega)
 have h2:=ZaM (i:=(t.den:Int)) (by have:=h.2; omega)
 unfold Zd1
 split
 ·omega
 ·rw [strLen_append,strLen_append]
  have:(one 47).length=1:=rfl
  omega
def ZgD(h:Few t):∀ n∈JR t,0<=n/\n < 10 ^ 30:=by
 intro n hn
 have h1:=h.1
 have h2:=h.2
 unfold JR at hn
 split at hn
 ·simp at hn
  omega
 ·simp at hn
  omega
def Zgo:Sp:=λvs H Q _=>∃ q:Rat,vs=[.str (Jv q)]/\Few q/\∀ r H',Zn H H'->Jn H' r q->Q r H'
def ZnE(F:Fun K "read_ratio" "read_ratio" Za6 f fd)(ZC:mg "len"=none)(ZaI:Fn P w K mg base Zx 1 "look_text" ["thing"] Zcj)(ZaB:Fn P w K mg base Zx 2 "read_whole" ["text"] Zet)(ZbM:Fn P w K mg base Zx 2 "is_ratio" ["thing"] ZnD)
  (Zba:Fn P w K mg base Zx 1 "show_ratio" ["one"] Zeo):FnOk P w K mg base Zx 4 f fd ["text"] Zgo:=by
 refine JA F Zbf λcdv A outer s H vs Q E hr h=>?_
 obtain⟨t,rfl,hf,q⟩:=h
 refine⟨_,(Zd (ZL (Jp ZaI hr (Zm (Zf 0) Zc)))
   (Zd (Zt 1 Zbf.nd (Zjf (Zf 0) (Zm Zv Zc)))
   (Zd (Zhd 2 (ZnJ ["part"]) (Zfd (ZfU (Zh2 (Jk (Zf 1)) (Zqc (Zf 0) Zb) (Zf 0)) (Zm Zv Zc))) (by exact λs H fp=>(Z3 0 (show List.Nodup (["part"]:List Str) from by decide +kernel))) (by exact λs H fp=>(Jp ZaB hr (Zm (Zf 0) Zc))) (Z3 2 Zbf.nd))
   (Zd (Zt 3 Zbf.nd (Zh2 (Jk (Zf 1)) (Zmq (ZE (Zf 2) Zb)) (ZE (Zf 2) Zb)))
   (Zd (Zt 4 Zbf.nd (Jo (Zm (Zf 3) (Zm (Zh2 (Jq (JE rfl ZC (Zm (Zf 2) Zc)) Zb) Zb (ZE (Zf 2) Zb)) Zc))))
   (Zd (ZN (t_w (J3 (Jr (Jk (Jp ZbM hr (Zm (Zf 4) Zc)))) (JV (ZlN (Jp Zba hr (Zm (Zf 4) Zc)) (Zf 0))))) (Zk Z6) Zy)
   (Zk (Zr (Zf 4))))))))),?_⟩
 rw [show Zu ["text","below","numbers","top","one"] [.str (Jv t)]=[some (.str (Jv t)),none,none,none,none] from rfl]
 refine Zo λB hB=>?_
 walk_at "rd"
 refine⟨_,rfl,?_⟩
 subst hB
 try dsimp only
 refine Zo λB hB=>?_
 walk_at "rd"
 subst hB
 try dsimp only
 refine Zo λB hB=>?_
 rw [Zq3,ZlR]
 have hbl:=Zn1 hf
 have hrl:=ZcO hf
 have src:∀ R:It->Hp->Prop,(∀ l H2,H l=none->Zn H H2->H2 l=some (.lst (((JR t).map ZK).map V.str))->R (Itl K l) H2) ->
   Zfo K (tXm Zhk (tIf (tB (J2 1)) (tSl ZrU (J2 0) (Ziq (tC (V.int 1))) Zc7) (J2 0)) (Zhq (tC (V.str (Str.ofString "/"))) Zpg)) [some (V.str (Jv t)),some (V.bl (decide (t.num < 0))),none,none,none] H R:=by
  intro R hR
  simp only [Zfo]
  walk_at "rd"
  have fin:∀ l H2,H l=none->Zn H H2->H2 l=some (.lst ((Txt.split (Zd1 t) (one 47)).map V.str))->(∃ xs,JP K H2 l xs)/\R (Itl K l) H2:=λl H2 hl s2 e2=>by
   rw [ZdS] at e2
   exact⟨⟨_,.of e2⟩,hR l H2 hl s2 e2⟩
  by_cases c:t.num < 0
  ·rw [if_pos c]
   refine⟨by omega,47,ZgF,?_⟩
   rw [Zgp c,Zp3]
   exact⟨by omega,fin⟩
  ·rw [if_neg c]
   refine⟨47,ZgF,by omega,?_⟩
   rw [Zdf (by omega)]
   exact fin
 simp only [ZmT,JY,cxK]
 refine src _ λl H2 hl s2 e2=>?_
 have hpl:(JR t).length<=2:=by unfold JR; split <;> simp
 refine ZdQ Zt5 Zmg (xs:=((JR t).map ZK).map V.str) (as:=JR t) e2 (by rw [Yg,Yg]) (by rw [Yg,Yg]; omega) (λi y z hy hz H' k os s3 ol hk=>?_) (λpl H3 ys hpl3 s3 e3 hL=>?_)
 ·obtain⟨o,rfl⟩:∃ o,os=[o]:=List.length_eq_one_iff.mp ol
  rw [Yh,Yh,hz] at hy
  cases hy
  have hm:=ZgD hf z (Yx hz)
  walk_at "rd"
  exact⟨[_],rfl,rfl,z,rfl,hm.1,hm.2,λH4 s4=>hk _ _ s4 rfl⟩
 rw [Zof hL] at e3
 have s23:=s2.trans s3
 subst hB
 try dsimp only
 refine Zo λB hB=>?_
 have h0:atI ((JR t).map V.int) 0=some (.int (t.num.natAbs:Int)):=by
  unfold JR
  split <;> rfl
 walk_at "rd"
 simp only [e3]
 walk_at "rd"
 have k1:B [some (V.str (Jv t)),some (V.bl (decide (t.num < 0))),some (V.ref pl),some (V.int t.num),none] H3:=by
  subst hB
  try dsimp only
  refine Zo λB hB=>?_
  walk_at "rd"
  have k2:∀ p H4,H3 p=none->Zn H3 H4->H4 p=some (HO.tup [V.int t.num,V.int (t.den:Int)])->B [some (V.str (Jv t)),some (V.bl (decide (t.num < 0))),some (V.ref pl),some (V.int t.num),some (V.ref p)] H4:=by
   intro p H4 hp s4 e4
   have hv:Jn H4 (.ref p) t:=⟨p,rfl,e4⟩
   have hg:Int.gcd t.num (t.den:Int)=1:=by
    show Nat.gcd t.num.natAbs (Int.natAbs (t.den:Int))=1
    rw [Int.natAbs_natCast]
    exact t.reduced
   have hd:1<=(t.den:Int):=by have:=t.den_pos; omega
   subst hB
   try dsimp only
   refine Zo λB hB=>?_
   refine Js λA hA C hC=>?_
   walk_at "rd"
   refine⟨_,rfl,⟨p,_,_,rfl,e4,hd,hg⟩,_,rfl,?_⟩
   rw [if_neg (by decide)]
   refine⟨_,t,rfl,hv,hf,?_⟩
   subst hC
   subst hB
   walk_at "rd"
   exact q _ _ (s23.trans s4) hv
  refine⟨_,.inl e3,?_⟩
  by_cases c:(t.den:Int)=1
  ·rw [if_pos (by unfold JR; rw [if_pos c]; rfl)]
   rw [c] at k2
   exact k2
  ·rw [if_neg (by unfold JR; rw [if_neg c]; exact λz=>absurd z (by simp))]
   exact⟨_,e3,.int (t.den:Int),by unfold JR; rw [if_neg c]; rfl,k2⟩
 by_cases c:t.num < 0
 ·rw [if_pos c]
  refine⟨_,h0,_,rfl,?_⟩
  rw [show -(t.num.natAbs:Int)=t.num by omega]
  exact k1
 ·rw [if_neg c]
  refine⟨_,h0,?_⟩
  rw [show (t.num.natAbs:Int)=t.num by omega]
  exact k1
def Zlx{c:Nat}(h:c < 47\/57 < c):c ∉ (Zd1 t).cps.toList:=by
 unfold Zd1
 split
 ·exact Zbe (by omega)
 ·rw [JI,JI,Ze8]
  intro z
  rcases Yz.mp z with z | z
  ·rcases Yz.mp z with z | z
   ·exact Zbe (by omega) z
   ·simp at z
    omega
  ·exact Zbe (by omega) z
def Zil{c:Nat}(h:c < 45\/57 < c):c ∉ (Jv t).cps.toList:=by
 by_cases n:t.num < 0
 ·rw [Zgp n,JI,Ze8]
  intro z
  rcases Yz.mp z with z | z
  ·simp at z
   omega
  ·exact Zlx (by omega) z
 ·rw [Zdf (by omega)]
  exact Zlx (by omega)
def ZoP{c:Nat}(h:c < 32\/57 < c):c ∉ (Ju r).cps.toList:=by
 unfold Ju
 rw [JI,JI,Ze8]
 intro z
 rcases Yz.mp z with z | z
 ·rcases Yz.mp z with z | z
  ·exact Zbe (by omega) z
  ·simp at z
   omega
 ·exact Zil (by omega) z
def ZkA(r:Nat × Rat):Txt.split (Ju r) (one 32)=[ZK (r.1:Int),Jv r.2]:=by
 have e:=Zcf (c:=32) (xs:=[ZK (r.1:Int),Jv r.2]) (by simp) (λp hp=>by
  simp at hp
  rcases hp with rfl | rfl
  ·exact Zbe (by omega)
  ·exact Zil (by omega))
 rw [Zjh] at e
 exact e
def Zkt(h:rs ≠ []):Txt.split (JO rs) (one 10)=rs.map Ju :=
 Zcf (by simpa using h) λp hp=>by
  obtain⟨r,_,rfl⟩:=Yo.mp hp
  exact ZoP (by omega)
def Zow(r:Nat × Rat):(Ju r).cps.toList ≠ []:=by
 unfold Ju
 rw [JI,JI]
 intro z
 rw [List.append_eq_nil_iff,List.append_eq_nil_iff] at z
 exact ZfX _ z.1.1
def ZfI:JO rs=Str.ofString "" ↔ rs=[]:=by
 constructor
 ·intro e
  match rs,e with
  | [],_=>rfl
  | r :: l,e =>
   exfalso
   have e2:=congrArg (λz:Str=>z.cps.toList) e
   have e3:JO (r :: l)=Str.join (one 10) ((r :: l).map Ju):=StrLaws.glued_eq_join _ _
   simp only [e3,Zh9] at e2
   rw [show (Str.ofString "").cps.toList=[] by decide +kernel] at e2
   have hne:=Zow r
   match l,e2 with
   | [],e2=>exact hne e2
   | _ :: _,e2 =>
    have e4:(Ju r).cps.toList ++ 10 :: _=[]:=e2
    simp at e4
 ·rintro rfl
  decide +kernel
def ZoC(hf:∀ r∈rs,Few r.2/\r.1 < 10 ^ 30)(hl:rs.length<=40):(JO rs).length<=4000:=by
 have h1:=Zji (one 10) (rs.map Ju)
 have h2:=StrLaws.sumLen_le (B:=95) (rs.map Ju) (λy hy=>by
  obtain⟨r,hr,rfl⟩:=Yo.mp hy
  exact ZdC (hf r hr).1 (hf r hr).2)
 rw [Yg] at h1 h2
 have:(one 10).length=1:=rfl
 rw [this] at h1
 unfold JO
 omega
def Zfe:Sp:=λvs H Q _=>∃ r:Nat × Rat,vs=[.str (Ju r)]/\Few r.2/\r.1 < 10 ^ 30/\∀ x H',Zn H H'->Jm H' x r->Q x H'
def Zig(F:Fun K "read_road" "read_road" Zbk f fd)(ZC:mg "len"=none)(ZaB:Fn P w K mg base Zx 2 "read_whole" ["text"] Zet)(Za8:Fn P w K mg base Zx 4 "read_ratio" ["text"] Zgo):FnOk P w K mg base Zx 5 f fd ["row"] Zfe:=by
 refine JA F Zd8 λcdv A outer s H vs Q E hr h=>?_
 obtain⟨r,rfl,hf,hr1,q⟩:=h
 have hl:=ZdC hf hr1
 refine⟨_,(Zd (Zt 1 Zd8.nd (ZfU (Zf 0) (Zm Zv Zc)))
   (Zd (ZN (ZlN (JE rfl ZC (Zm (Zf 1) Zc)) Zb) (Zk Z6) Zy)
   (Zk (Zr (Jo (Zm (Jp ZaB hr (Zm (ZE (Zf 1) Zb) Zc)) (Zm (Jp Za8 hr (Zm (ZE (Zf 1) Zb) Zc)) Zc))))))),?_⟩
 rw [show Zu ["row","words"] [.str (Ju r)]=[some (.str (Ju r)),none] from rfl]
 walk_at "rd"
 refine⟨32,Zcl,by omega,λl H1 hl1 s1 e1=>?_⟩
 rw [ZkA] at e1
 refine⟨_,.inl e1,?_⟩
 rw [if_neg (by simp)]
 refine⟨_,e1,_,rfl,(r.1:Int),rfl,by omega,by omega,λH2 s2=>⟨_,s2 _ _ e1,_,rfl,r.2,rfl,hf,λy H3 s3 hy p H4 hp s4 e4=>?_⟩⟩
 exact q _ _ (s1.trans (s2.trans (s3.trans s4))) ⟨p,y,rfl,e4,hy.same s4⟩
def ZeY(C:Addr):Sp:=λvs H Q _=>∃ rs:List (Nat × Rat),vs=[.str (JO rs)]/\Jd rs/\(∀ r∈rs,Few r.2/\r.1 < 10 ^ 30)/\(∀ r∈rs,0<=r.2.num)/\rs.length<=40/\∀ x H',Zn H H'->ZM C H' x rs->(∀ l zs,H l=some (.lst zs)->∀ H'',Zn H' H''->∀ ys,ZM C (upd H'' l (.lst ys)) x rs)->Q x H'
def ZhW(F:Fun K "read_tree" "read_tree" Zbm f fd)(ZaI:Fn P w K mg base Zx 1 "look_text" ["thing"] Zcj)(Zdc:Fn P w K mg base Zx 5 "read_road" ["row"] Zfe)(Zdu:Mkr P w K mg base Zx 6 CT "Tree" ["self","roads"] (Zfh CT)):FnOk P w K mg base Zx 8 f fd ["text"] (ZeY CT):=by
 refine JA F Zd2 λcdv A outer s H vs Q E hr h=>?_
 obtain⟨rs,rfl,hT,hf,hn,hl,q⟩:=h
 have htl:=ZoC hf hl
 refine⟨_,(Zd (ZL (Jp ZaI hr (Zm (Zf 0) Zc)))
   (Zd (Zt 1 Zd2.nd (Zh2 (ZlN (Zf 0) Zv) (ZfU (Zf 0) (Zm Zv Zc)) (JK Zc)))
   (Zk (Zr (ZfP Zdu hr (by decide) rfl (Zm (Zdy (ZnJ ["row"]) (Zfd (Zf 1)) (by exact λs H fp=>(Z3 0 (show List.Nodup (["row"]:List Str) from by decide +kernel))) (by exact λs H fp=>(Jp Zdc hr (Zm (Zf 0) Zc)))) Zc)))))),?_⟩
 rw [show Zu ["text","rows"] [.str (JO rs)]=[some (.str (JO rs)),none] from rfl]
 refine Zo λB hB=>?_
 walk_at "rd"
 refine⟨_,rfl,?_⟩
 subst hB
 try dsimp only
 refine Zo λB hB=>?_
 walk_at "rd"
 have k1:∀ l H1,H l=none->Zn H H1->H1 l=some (.lst ((rs.map Ju).map V.str))->B [some (V.str (JO rs)),some (V.ref l)] H1:=by
  intro l H1 hl1 s1 e1
  subst hB
  try dsimp only
  simp only [Zrx,ZmD,Zhq,JY,Zfo,cxK]
  walk_at "rd"
  refine⟨⟨_,.of e1⟩,?_⟩
  rw [show JB [some (V.str (JO rs)),some (V.ref l)] []=[] from rfl]
  refine ZdQ Jm (λH H' v a h k=>h.keep k) (xs:=(rs.map Ju).map V.str) (as:=rs) e1 (by rw [Yg,Yg]) (by rw [Yg,Yg]; omega) (λi y r hy hr1 H' k os s2 ol hk=>?_) (λpl H2 ys hpl s2 e2 hL=>?_)
  ·obtain⟨o,rfl⟩:∃ o,os=[o]:=List.length_eq_one_iff.mp ol
   rw [Yh,Yh,hr1] at hy
   cases hy
   have hm:=hf r (Yx hr1)
   walk_at "rd"
   exact⟨[_],rfl,rfl,r,rfl,hm.1,hm.2,λx H4 s4 hx=>hk _ _ s4 hx⟩
  ·intro x dx hx hdx hne
   have old:∀ b o,H2 b=some o->upd (upd H2 dx (.own x)) x (.ins CT dx []) b=some o:=λb o e=>by rw [Zj (Ze e hx),Zj (Ze e hdx)]; exact e
   refine⟨x,dx,pl,ys,rs,rfl,Zl,old _ _ e2,ZR.keep (H:=H2) hL (λb ys e=>old b _ e),hT,hl,hn,λH5 k5 hT5 hd5=>⟨rfl,?_⟩⟩
   have s5:Zn H2 H5:=λb o e=>k5 b o (Ze e hx) (old b o e)
   exact q _ _ (s1.trans (s2.trans s5)) hT5 λl zs e=>hd5 l zs (old _ _ ((s1.trans s2) _ _ e))
 by_cases c:JO rs=Str.ofString ""
 ·rw [if_neg (λz=>z c)]
  have hz:=ZfI.mp c
  intro p H2 hp s2 e2
  refine k1 p H2 hp s2 ?_
  rw [hz]
  exact e2
 ·rw [if_pos c]
  refine⟨10,Zg1,by omega,λl H2 hl2 s2 e2=>?_⟩
  rw [Zkt (λz=>c (ZfI.mpr z))] at e2
  exact k1 l H2 hl2 s2 e2
def del(a:Addr)(H:Hp):Hp:=λb=>if b=a then none else H b
def Za3{a b:Addr}{o:HO}:del a H b=some o ↔ b ≠ a/\H b=some o:=by
 unfold del
 by_cases c:b=a
 ·rw [if_pos c]; exact⟨λz=>(nomatch z),λz=>absurd c z.1⟩
 ·rw [if_neg c]; exact⟨λz=>⟨c,z⟩,λz=>z.2⟩
def Jw(L:List Addr)(H:Hp):Hp:=λb=>if b∈L then none else H b
theorem Zz{L:List Addr}{b:Addr}{o:HO}:Jw L H b=some o ↔ b ∉ L/\H b=some o:=by
 unfold Jw
 by_cases c:b∈L
 ·rw [if_pos c]; exact⟨λz=>(nomatch z),λz=>absurd c z.1⟩
 ·rw [if_neg c]; exact⟨λz=>⟨c,z⟩,λz=>z.2⟩
def off(ex:List Addr)(a p:Addr)(H:Hp):Hp:=Jw (a :: p :: ex) H
variable {ex:List Addr}
theorem Je{a p b:Addr}{o:HO}:off ex a p H b=some o ↔ b ≠ a/\b ≠ p/\b ∉ ex/\H b=some o:=by
 unfold off
 rw [Zz]
 simp only [List.mem_cons,not_or,and_assoc]
def Zbv{a p:Addr}:Zn (off ex a p H) H:=λ_ _ e=>(Je.mp e).2.2.2
def Zcg{a p:Addr}{H H':Hp}(s:Zn H H'):Zn (off ex a p H) (off ex a p H'):=λ_ _ e=>let ⟨g1,g2,g3,g4⟩:=Je.mp e; Je.mpr ⟨g1,g2,g3,s _ _ g4⟩
def Zdg(ex:List Addr)(H:Hp):Prop:=∀ l∈ex,∃ zs,H l=some (.lst zs)
theorem Zdg.same{H H':Hp}(h:Zdg ex H)(s:Zn H H'):Zdg ex H':=λl hl=>let ⟨zs,e⟩:=h l hl; ⟨zs,s _ _ e⟩
def ZlB{a p b:Addr}{H H':Hp}{u v o:HO}(h:H b=none)(ha:H a=some u)(hp:H p=some v)(hx:Zdg ex H)(e:H' b=some o):off ex a p H' b=some o:=Je.mpr ⟨λz=>(by rw [z,ha] at h; cases h),λz=>(by rw [z,hp] at h; cases h),λz=>(by obtain⟨zs,q⟩:=hx b z; rw [q] at h; cases h),e⟩
def Z9(a p:Addr)(H H':Hp):Prop:=∀ b o,b ≠ a->b ≠ p->H b=some o->H' b=some o
theorem Z9.of{a p:Addr}{H H':Hp}(s:Zn H H'):Z9 a p H H':=λb o _ _ e=>s _ _ e
theorem Z9.trans{a p:Addr}{H H' H'':Hp}(k:Z9 a p H H')(k2:Z9 a p H' H''):Z9 a p H H'':=λb o h1 h2 e=>k2 b o h1 h2 (k b o h1 h2 e)
theorem Z9.upd{a p b:Addr}{H H':Hp}{o:HO}(k:Z9 a p H H')(hb:b=a\/b=p):Z9 a p H (upd H' b o):=λc u h1 h2 e=>by
 rw [Zj (by rcases hb with rfl | rfl; exact h1; exact h2)]
 exact k c u h1 h2 e
theorem Z9.off{a p:Addr}{H H':Hp}(k:Z9 a p H H'):Zn (off ex a p H) (off ex a p H'):=λ_ _ e=>let ⟨g1,g2,g3,g4⟩:=Je.mp e; Je.mpr ⟨g1,g2,g3,k _ _ g1 g2 g4⟩
theorem Z9.lists{a p:Addr}{H H':Hp}(k:Z9 a p H H')(h:Zdg ex H)(ha:a ∉ ex)(hp:p ∉ ex):Zdg ex H':=λl hl=>let ⟨zs,e⟩:=h l hl; ⟨zs,k _ _ (λz=>ha (z ▸ hl)) (λz=>hp (z ▸ hl)) e⟩
def Zgi{C C':Addr}{a dx:Addr}{fs:List (Str × V)}(h:ZM C H x rs)(ha:H a=some (.ins C' dx fs))(hx:x ≠ .ref a):ZM C (del a H) x rs:=by
 obtain⟨b,dy,la,wa,ls,ws,rfl,h1,h2,h3,h4,h5,h6⟩:=h
 have nl:∀ c zs,H c=some (.lst zs)->del a H c=some (.lst zs):=λc zs e=>Za3.mpr ⟨λz=>(by rw [z,ha] at e; cases e),e⟩
 have nt:∀ c zs,H c=some (.tup zs)->del a H c=some (.tup zs):=λc zs e=>Za3.mpr ⟨λz=>(by rw [z,ha] at e; cases e),e⟩
 exact⟨b,dy,la,wa,ls,ws,rfl,Za3.mpr ⟨λz=>hx (by rw [z]),h1⟩,nl _ _ h2,h3.keep nt,nl _ _ h4,h5,λk y hy=>let ⟨p,w,e,g1,g2⟩:=h6 k y hy; ⟨p,w,e,nl _ _ g1,g2⟩⟩
def Zi2{C C':Addr}{a dx:Addr}{fs:List (Str × V)}(h:ZM C H x rs)(ha:H a=some (.ins C' dx fs))(hf:fs.length ≠ 2):x ≠ .ref a:=by
 obtain⟨b,dy,la,wa,ls,ws,rfl,h1,_⟩:=h
 intro z
 cases z
 rw [ha] at h1
 injection h1 with h1
 injection h1 with _ _ h1
 rw [h1] at hf
 exact hf rfl
def Zjj{C:Addr}{l:Addr}(h:∀ ys,ZM C (upd H l (.lst ys)) x rs):ZM C (del l H) x rs:=by
 obtain⟨b,dy,la,wa,ls,ws,rfl,h1,h2,h3,h4,h5,h6⟩:=h [.non]
 have key:∀ c o,c ≠ l->upd H l (.lst [.non]) c=some o->del l H c=some o:=λc o hc e=>Za3.mpr ⟨hc,by rw [Zj hc] at e; exact e⟩
 have nt:∀ c zs,upd H l (.lst [.non]) c=some (.tup zs)->del l H c=some (.tup zs):=λc zs e=>key c _ (λz=>(by rw [z,Zl] at e; cases e)) e
 have n1:b ≠ l:=λz=>by rw [z,Zl] at h1; cases h1
 have n2:la ≠ l:=λz=>by
  rw [z,Zl] at h2
  cases h2
  obtain⟨hl,hr⟩:=h3
  match rs,hl with
  | [r],_ =>
   obtain⟨p,y,e,_⟩:=hr 0 _ r rfl rfl
   cases e
 have n3:wa ≠ l:=λz=>by
  rw [z,Zl] at h4
  cases h4
  obtain⟨p,w,e,_⟩:=h6 0 _ rfl
  cases e
 refine⟨b,dy,la,wa,ls,ws,rfl,key _ _ n1 h1,key _ _ n2 h2,h3.keep nt,key _ _ n3 h4,h5,λk y hy=>?_⟩
 obtain⟨p,w,e,g1,g2⟩:=h6 k y hy
 refine⟨p,w,e,key _ _ (λz=>?_) g1,g2⟩
 rw [z,Zl] at g1
 match w,g1 with
 | [],g1=>cases g1
 | [_],g1=>cases g1
 | _ :: _ :: _,g1=>cases g1
def Zhj{C:Addr}{L:List Addr}(h:ZM C H x rs)(hx:Zdg L H)(hd:∀ l∈L,ZM C (del l H) x rs):ZM C (Jw L H) x rs:=by
 obtain⟨b,dy,la,wa,ls,ws,rfl,h1,h2,h3,h4,h5,h6⟩:=h
 have nt:∀ c zs,H c=some (.tup zs)->Jw L H c=some (.tup zs):=λc zs e=>Zz.mpr ⟨λz=>(by obtain⟨ys,q⟩:=hx c z; rw [q] at e; cases e),e⟩
 have ni:b ∉ L:=λz=>by obtain⟨ys,q⟩:=hx b z; rw [q] at h1; cases h1
 have key:∀ l∈L,la ≠ l/\wa ≠ l/\∀ (k:Nat) y,ws[k]?=some y->y ≠ .ref l:=by
  intro l hl
  obtain⟨b',dy',la',wa',ls',ws',eb,g1,g2,_,g4,_,g6⟩:=hd l hl
  cases eb
  have g1':=(Za3.mp g1).2
  rw [h1] at g1'
  injection g1' with g1'
  injection g1' with _ _ g1'
  simp only [List.cons.injEq,Prod.mk.injEq,V.ref.injEq,true_and,and_true] at g1'
  obtain⟨rfl,rfl⟩:=g1'
  obtain⟨q2,g2'⟩:=Za3.mp g2
  obtain⟨q4,g4'⟩:=Za3.mp g4
  rw [h4] at g4'
  cases g4'
  refine⟨q2,q4,λk y hy z=>?_⟩
  obtain⟨p,w,e,g,_⟩:=g6 k y hy
  rw [e] at z
  cases z
  exact (Za3.mp g).1 rfl
 refine⟨b,dy,la,wa,ls,ws,rfl,Zz.mpr ⟨ni,h1⟩,Zz.mpr ⟨λz=>(key la z).1 rfl,h2⟩,h3.keep nt,Zz.mpr ⟨λz=>(key wa z).2.1 rfl,h4⟩,h5,λk y hy=>?_⟩
 obtain⟨p,w,e,g1,g2⟩:=h6 k y hy
 exact⟨p,w,e,Zz.mpr ⟨λz=>(key p z).2.2 k y hy e,g1⟩,g2⟩
abbrev Kvs:=List (Z7 × V)
abbrev J0:=List (Nat × Rat) × Kvs
def Zk5(CT:Addr)(H:Hp)(v:V)(s:J0):Prop:=∃ p tr ds,v=.ref p/\H p=some (.tup [tr,.ref ds])/\ZM CT H tr s.1/\H ds=some (.dK s.2)
theorem Zk5.same{CT:Addr}{H H':Hp}{v:V}{n:J0}(h:Zk5 CT H v n)(s:Zn H H'):Zk5 CT H' v n:=let ⟨p,tr,ds,e,h1,h2,h3⟩:=h; ⟨p,tr,ds,e,s _ _ h1,h2.same s,s _ _ h3⟩
theorem Jb.mono{R:Hp->V->α->Prop}{H H':Hp}{as:List α}(h:Jb R H xs as)(m:∀ v a,R H v a->R H' v a):Jb R H' xs as:=⟨h.1,λi x a h1 h2=>m _ _ (h.2 i x a h1 h2)⟩
def ZI(ex:List Addr)(CS CT:Addr)(H:Hp)(a ps:Addr)(rs:List (Nat × Rat))(kvs:Kvs)(past:List J0):Prop:=∃ (dx:Addr) (tr:V) (ds:Addr) (pv:List V),H a=some (.ins CS dx [("land",tr),("places",.ref ds),("past",.ref ps)])/\H ps=some (.lst pv)/\ZM CT (off ex a ps H) tr rs/\off ex a ps H ds=some (.dK kvs)/\Jb (Zk5 CT) (off ex a ps H) pv past/\Zdg ex H/\ps ∉ ex
variable {kvs:Kvs}
theorem ZI.same{CS CT:Addr}{H H':Hp}{a ps:Addr}{past:List J0}(h:ZI ex CS CT H a ps rs kvs past)(s:Zn H H'):ZI ex CS CT H' a ps rs kvs past:=by
 obtain⟨dx,tr,ds,pv,h1,h2,h3,h4,h5,h6,h7⟩:=h
 have so:Zn (off ex a ps H) (off ex a ps H'):=Zcg s
 exact⟨dx,tr,ds,pv,s _ _ h1,s _ _ h2,h3.same so,so _ _ h4,h5.mono λv n q=>q.same so,h6.same s,h7⟩
section
variable {P:Program}{w:World}{K:PySem.W.Frag}{mg:Str->Option Value}{base:Heap}{f:Addr}{fd:FuncData}{CT CNP CS:Addr}
def ZjJ(CS:Addr):Sp:=λvs H Q _=>∃ (a dx:Addr) (tr:V),vs=[.ref a,tr]/\H a=some (.ins CS dx [])/\(∀ H' ps ds,(∀ b o,b ≠ a->H b=some o->H' b=some o)->H ps=none->H ds=none->H' a=some (.ins CS dx [("land",tr),("places",.ref ds),("past",.ref ps)])->H' ps=some (.lst [])->H' ds=some (.dK [])->Q .non H')
def Zop(F:Fun K "__init__" "Shire.__init__" Zaf f fd)(Zg:Cls K CS)(Zw:ZJ K CS "land")(Zs:ZJ K CS "places")(Zbs:ZJ K CS "past"):FnOk P w K mg base Zx 1 f fd ["self","tree"] (ZjJ CS):=by
 refine JA F ZdM λcdv A outer s H vs Q E hr h=>?_
 obtain⟨a,dx,tr,rfl,ha,q⟩:=h
 refine⟨_,(Zd (Zfn (Zf 0) (Zf 1))
   (Zd (Zfn (Zf 0) ZjR)
   (Zk (Zfn (Zf 0) (JK Zc))))),?_⟩
 rw [show Zu ["self","tree"] [.ref a,tr]=[some (.ref a),some (tr)] from rfl]
 walk_at "rd"
 refine⟨CS,dx,[],ha,Zg,Zw,by decide,λds H1 hds s1 e1=>⟨CS,dx,_,s1 _ _ Zl,Zg,Zs,(by show (1:Nat) < 1000; decide),λps H2 hps s2 e2=>⟨CS,dx,_,s2 _ _ Zl,Zg,Zbs,(by show (2:Nat) < 1000; decide),?_⟩⟩⟩
 have f1:JN (Str.ofString "past") (V.ref ps) (JN (Str.ofString "places") (V.ref ds) (JN (Str.ofString "land") tr []))=[(Str.ofString "land",tr),(Str.ofString "places",V.ref ds),(Str.ofString "past",V.ref ps)]:=rfl
 rw [f1]
 have k1:∀ b o,b ≠ a->H b=some o->H1 b=some o:=λb o hb e=>s1 _ _ (by rw [Zj hb]; exact e)
 have k2:∀ b o,b ≠ a->H1 b=some o->H2 b=some o:=λb o hb e=>s2 _ _ (by rw [Zj hb]; exact e)
 have na:ds ≠ a:=λz=>by rw [z,Zl] at hds; cases hds
 have nb:ps ≠ a:=λz=>by rw [z,Zl] at hps; cases hps
 have hd0:H1 ps=none:=by rw [Zj nb] at hps; exact hps
 have hp0:H ps=none:=by
  cases z:H ps with
  | none=>rfl
  | some o=>rw [k1 _ _ nb z] at hd0; cases hd0
 have nd:ds ≠ ps:=λz=>by rw [z,hd0] at e1; cases e1
 have kk:∀ b o,b ≠ a->H b=some o->upd H2 a (.ins CS dx [(Str.ofString "land",tr),(Str.ofString "places",V.ref ds),(Str.ofString "past",V.ref ps)]) b=some o:=λb o hb e=>by rw [Zj hb]; exact k2 _ _ hb (k1 _ _ hb e)
 exact q _ ps ds kk hp0 (by rw [Zj na] at hds; exact hds) Zl (by rw [Zj nb]; exact e2) (by rw [Zj na]; exact k2 _ _ na e1)
def Zkc(CS CT:Addr):Sp:=λvs H Q _=>∃ (ex:List Addr) (a ps:Addr) (rs:List (Nat × Rat)) (kvs:Kvs) (past:List J0) (tr':V) (ds':Addr) (rs':List (Nat × Rat)) (kvs':Kvs),vs=[.ref a,tr',.ref ds']/\ZI ex CS CT H a ps rs kvs past/\past.length < 1000/\ZM CT (off ex a ps H) tr' rs'/\off ex a ps H ds'=some (.dK kvs') /\
 ∀ H',Z9 a ps H H'->ZI ex CS CT H' a ps rs' kvs' (past ++ [(rs,kvs)])->Q .non H'
def Zue(F:Fun K "do" "Shire.do" Za0 f fd)(Zg:Cls K CS)(Zw:ZJ K CS "land")(Zs:ZJ K CS "places")(Zbs:ZJ K CS "past"):FnOk P w K mg base Zx 1 f fd ["self","land","places"] (Zkc CS CT):=by
 refine JA F ZiO λcdv A outer s H vs Q E hr h=>?_
 obtain⟨ex,a,ps,rs,kvs,past,tr',ds',rs',kvs',rfl,hS,hpl,hT',hd',q⟩:=h
 obtain⟨dx,tr,ds,pv,h1,h2,h3,h4,h5,hx,hpx⟩:=hS
 refine⟨_,(Zd (ZL (Zgf (Z2 (Zf 0)) (Zm (Jo (Zm (Z2 (Zf 0)) (Zm (Z2 (Zf 0)) Zc))) Zc)))
   (Zd (Zfn (Zf 0) (Zf 1))
   (Zk (Zfn (Zf 0) (Zf 2))))),?_⟩
 rw [show Zu ["self","land","places"] [.ref a,tr',.ref ds']=[some (.ref a),some (tr'),some (.ref ds')] from rfl]
 walk_at "rd"
 have na:ps ≠ a:=λz=>by rw [z,h1] at h2; cases h2
 refine⟨CS,dx,_,h1,Zg,Zbs,.ref ps,rfl,ps,rfl,⟨_,h2⟩,CS,dx,_,h1,Zg,Zw,tr,rfl,CS,dx,_,h1,Zg,Zs,.ref ds,rfl,λt H1 ht s1 e1=>?_⟩
 have h1':=s1 _ _ h1
 have h2':=s1 _ _ h2
 refine⟨pv,h2',by rw [h5.1]; omega,CS,dx,_,by rw [Zj (Ne.symm na)]; exact h1',Zg,Zw,(by show (3:Nat) < 1000; decide),CS,dx,_,Zl,Zg,Zs,(by show (3:Nat) < 1000; decide),?_⟩
 have k1:Z9 a ps H H1:=.of s1
 have k2:=k1.upd (o:=.lst (pv ++ [.ref t])) (.inr rfl)
 have k3:=k2.upd (o:=.ins CS dx (JN (Str.ofString "land") tr' [(Str.ofString "land",tr),(Str.ofString "places",V.ref ds),(Str.ofString "past",V.ref ps)])) (.inl rfl)
 have k4:=k3.upd (o:=.ins CS dx (JN (Str.ofString "places") (V.ref ds') (JN (Str.ofString "land") tr' [(Str.ofString "land",tr),(Str.ofString "places",V.ref ds),(Str.ofString "past",V.ref ps)]))) (.inl rfl)
 have s4:=k4.off (ex:=ex)
 have nax:a ∉ ex:=λz=>by obtain⟨zs,q⟩:=hx a z; rw [h1] at q; cases q
 have f1:JN (Str.ofString "places") (V.ref ds') (JN (Str.ofString "land") tr' [(Str.ofString "land",tr),(Str.ofString "places",V.ref ds),(Str.ofString "past",V.ref ps)])=[(Str.ofString "land",tr'),(Str.ofString "places",V.ref ds'),(Str.ofString "past",V.ref ps)]:=rfl
 have nt:t ≠ a:=λz=>by rw [z,h1] at ht; cases ht
 have np:t ≠ ps:=λz=>by rw [z,h2] at ht; cases ht
 have ntx:t ∉ ex:=λz=>by obtain⟨zs,q⟩:=hx t z; rw [ht] at q; cases q
 refine q _ k4 ⟨dx,tr',ds',pv ++ [.ref t],?_,?_,hT'.same s4,s4 _ _ hd',(h5.mono λv n g=>g.same s4).snoc ⟨t,tr,ds,rfl,?_,h3.same s4,s4 _ _ h4⟩,k4.lists hx nax hpx,hpx⟩
 ·rw [Zl,f1]
 ·rw [Zj na,Zj na,Zl]
 ·refine Je.mpr ⟨nt,np,ntx,?_⟩
  rw [Zj nt,Zj nt,Zj np]
  exact e1
def JH(z:Str):Prop:=1<=z.length/\z.length<=8/\∀ d∈z.cps.toList,97<=d/\d<=122
def Zq7(hz:∀ d∈z.cps.toList,97<=d/\d<=122):(z.cps.toList.map λd=>decide (d∈(Str.ofString "abcdefghijklmnopqrstuvwxyz").cps.toList)).all id=true:=by
 rw [List.all_eq_true]
 intro b hb
 obtain⟨d,hd,rfl⟩:=Yo.mp hb
 have hr:=hz d hd
 have key:∀ d:Nat,d < 123->97<=d->d∈(Str.ofString "abcdefghijklmnopqrstuvwxyz").cps.toList:=by decide +kernel
 exact Yt (key d (by omega) hr.1)
def ZdA:Sp:=λvs H Q _=>∃ z:Str,vs=[.str z]/\JH z/\∀ H',Zn H H'->Q (.bl true) H'
def ZkK{tk1 tk2:Tok}(F:Fun K "is_name" "is_name" Zcc f fd)(Zp:mg "isinstance"=none)(Jl:mg "str"=none)(ZC:mg "len"=none)(Zkj:mg "all"=none)(g_MOST_LETTERS:mg "MOST_LETTERS"=some (.int 8 tk1))(g_LETTERS:mg "LETTERS"=some (.str "abcdefghijklmnopqrstuvwxyz" tk2)) :
  FnOk P w K mg base Zx 1 f fd ["thing"] ZdA:=by
 refine JA F Zj6 λcdv A outer s H vs Q E hr h=>?_
 obtain⟨z,rfl,⟨hl1,hl2,hz⟩,q⟩:=h
 refine⟨_,(Zd (ZN (t_w (J3 (Jr (Jk (ZcY rfl Zp (Zm (Zf 0) (Zm (ZmN rfl Jl rfl) Zc))))) (JV (Jr (Zpb Zb (Zpr rfl ZC (Zm (Zf 0) Zc)) (ZhG rfl g_MOST_LETTERS)))))) (Zk (Zr ZnR)) Zy)
   (Zk (Zr (Zpy rfl Zkj (Zm (Zdy (ZnJ ["sign"]) (Zsl (Zf 0)) (by exact λs H fp=>(Z3 0 (show List.Nodup (["sign"]:List Str) from by decide +kernel))) (by exact λs H fp=>(Zr3 (Zf 0) (Zpp rfl g_LETTERS)))) Zc))))),?_⟩
 rw [show Zu ["thing"] [.str z]=[some (.str z)] from rfl]
 refine Zo λB hB=>?_
 walk_at "rd"
 refine⟨"str",rfl,?_⟩
 rw [if_neg (by decide)]
 refine⟨Jj (by omega),?_⟩
 rw [if_pos (by omega),if_neg (by omega)]
 subst hB
 try dsimp only
 simp only [Zrx,tCB,Zhq,JY,Zuf]
 walk_at "rd"
 refine⟨λd hd=>by have:=hz d hd; omega,?_⟩
 rw [show JB [some (V.str z)] []=[] from rfl]
 refine Zjr BlR ZjS (as:=z.cps.toList.map λd=>decide (d∈(Str.ofString "abcdefghijklmnopqrstuvwxyz").cps.toList)) (by rw [Yg]) (by rw [ZhI]; omega) (λi d b hd hb H' k os s1 ol hk=>?_) (λp H' ys hp1 s1 e1 hL=>?_)
 ·obtain⟨o,rfl⟩:∃ o,os=[o]:=List.length_eq_one_iff.mp ol
  walk_at "rd"
  rw [Yh,hd] at hb
  cases hb
  exact⟨[_],rfl,rfl,_,rfl,hk _ _ (λ_ _ e=>e) rfl⟩
 ·rw [ZcL (g:=V.bl) (λ_ _ _ h=>h) hL] at e1
  refine⟨p,rfl,_,e1,?_⟩
  rw [Zq7 hz]
  exact q _ s1
def ZbY:Sp:=λvs H Q _=>∃ x,vs=[x]/\PrP H x/\Q .non H
def ZgX(F:Fun K "look_price" "look_price" Zbb f fd)(ZbP:Fn P w K mg base Zx 3 "is_price" ["thing"] ZcQ):FnOk P w K mg base Zx 4 f fd ["price"] ZbY:=by
 refine JA F ZgP λcdv A outer s H vs Q E hr h=>?_
 obtain⟨x,rfl,hx,q⟩:=h
 refine⟨_,(Zk (ZN (Jr (Jk (Jp ZbP hr (Zm (Zf 0) Zc)))) (Zk Z6) Zy)),?_⟩
 rw [show Zu ["price"] [x]=[some (x)] from rfl]
 walk_at "rd"
 exact⟨x,rfl,hx,true,rfl,by rw [if_neg (by decide)]; exact q⟩
def Zde(C:Addr):Sp:=λvs H Q _=>∃ x rs,vs=[x]/\ZM C H x rs/\rs.length < 40/\Q .non H
def Zif{tk:Tok}(F:Fun K "look_room" "look_room" Zbi f fd)(g_MOST_ROADS:mg "MOST_ROADS"=some (.int 40 tk))(Zcw:Mth P w K mg base Zx 1 CT "many" ["self"] (ZdR CT)):FnOk P w K mg base Zx 2 f fd ["tree"] (Zde CT):=by
 refine JA F ZgY λcdv A outer s H vs Q E hr h=>?_
 obtain⟨x,rs,rfl,hT,hl,q⟩:=h
 obtain⟨a,dx,la,wa,ls,ws,rfl,h1,_⟩:=id hT
 refine⟨_,(Zk (ZN (Ztv (JS (Zcq Zcw hr (by decide) (Zf 0)) Zb) (ZhG rfl g_MOST_ROADS)) (Zk Z6) Zy)),?_⟩
 rw [show Zu ["tree"] [.ref a]=[some (.ref a)] from rfl]
 walk_at "rd"
 exact⟨dx,_,h1,rfl,.ref a,rs,rfl,hT,_,rfl,by rw [if_neg (by omega)]; exact q⟩
def Zdb(C:Addr):Sp:=λvs H Q _=>∃ (x:V) (rs:List (Nat × Rat)) (j:Nat) (y:V) (r:Nat × Rat),vs=[x,.int ((j:Int) + 1),y]/\ZM C H x rs/\Jm H y r/\j < rs.length/\Jd (rs.set j r)/\rs.length<=40/\(∀ t∈rs.set j r,0<=t.2.num) /\
 ∀ u H',Zn H H'->ZM C H' u (rs.set j r)->(∀ l zs,H l=some (.lst zs)->ZM C (del l H') u (rs.set j r))->Q u H'
theorem ZR.set(h:ZR H xs rs){j:Nat}{y:V}{r:Nat × Rat}(hy:Jm H y r):ZR H (xs.set j y) (rs.set j r):=⟨by simp [h.1],λi x t h1 h2=>by
 by_cases c:j=i
 ·subst c
  have hj:j < xs.length:=by simpa using (List.getElem?_eq_some_iff.mp h1).1
  have hj2:j < rs.length:=by rw [<- h.1]; exact hj
  rw [YV hj] at h1
  rw [YV hj2] at h2
  cases h1; cases h2
  exact hy
 ·rw [YY c] at h1 h2
  exact h.2 i x t h1 h2⟩
theorem ZR.snoc(h:ZR H xs rs){y:V}{r:Nat × Rat}(hy:Jm H y r):ZR H (xs ++ [y]) (rs ++ [r]):=Jb.snoc (R:=Jm) h hy
theorem Zk4{p:Addr}{Q:VK}(hp:H p=some (.lst xs))(hR:ZR H xs rs)(hO:Jd rs)(hl:rs.length<=40)(hn:∀ t∈rs,0<=t.2.num)
  (q:∀ u H',Zn H H'->ZM CT H' u rs->(∀ l zs,H l=some (.lst zs)->ZM CT (del l H') u rs)->Q u H') (x dx:Addr) (hx:H x=none) (hdx:H dx=none) (hne:dx ≠ x) :
  Zfh CT [V.ref x,V.ref p] (upd (upd H dx (.own x)) x (.ins CT dx [])) (λv H2=>v=V.non/\Q (V.ref x) H2) E0:=by
 have old:∀ b o,H b=some o->upd (upd H dx (.own x)) x (.ins CT dx []) b=some o:=λb o e=>by rw [Zj (Ze e hx),Zj (Ze e hdx)]; exact e
 refine⟨x,dx,p,xs,rs,rfl,Zl,old _ _ hp,hR.keep λb ys e=>old b _ e,hO,hl,hn,λH7 k7 hT7 hall=>⟨rfl,q _ _ (λb o e=>k7 b o (Ze e hx) (old b o e)) hT7 λl zs e=>?_⟩⟩
 exact Zjj λys=>hall l zs (old _ _ e) H7 (λ_ _ z=>z) ys
def ZhM(F:Fun K "with_road" "with_road" Zbl f fd)(Zck:Mth P w K mg base Zx 1 CT "roads" ["self"] (Zdw CT))(Zdu:Mkr P w K mg base Zx 6 CT "Tree" ["self","roads"] (Zfh CT)):FnOk P w K mg base Zx 8 f fd ["tree","k","road"] (Zdb CT):=by
 refine JA F Zec λcdv A outer s H vs Q E hr h=>?_
 obtain⟨x,rs,j,y,r,rfl,hT,hy,hj,hO,hl,hn,q⟩:=h
 obtain⟨a,dx,la,wa,ls,ws,rfl,h1,_⟩:=id hT
 refine⟨_,(Zd (Zt 3 Zec.nd (Zcq Zck hr (by decide) (Zf 0)))
   (Zd (Zky (Zf 2) (ZmY (Zf 3) (JS (Zf 1) Zb)))
   (Zk (Zr (ZfP Zdu hr (by decide) rfl (Zm (Zf 3) Zc)))))),?_⟩
 rw [show Zu ["tree","k","road","roads"] [.ref a,.int ((j:Int) + 1),y]=[some (.ref a),some (.int ((j:Int) + 1)),some (y),none] from rfl]
 walk_at "rd"
 refine⟨dx,_,h1,rfl,.ref a,rs,rfl,hT,λp H1 ls1 hp s1 e1 hR=>⟨p,rfl,ls1,e1,j,?_,?_⟩⟩
 ·rw [show (j:Int) + 1 - 1=(j:Int) by omega]
  exact Zi7 (by rw [hR.1]; exact hj)
 ·have so:Zn H (upd H1 p (.lst (ls1.set j y))):=ZW hp s1
  have nt:∀ b ys,H1 b=some (.tup ys)->upd H1 p (.lst (ls1.set j y)) b=some (.tup ys):=λb ys e=>by rw [Zj (JD e e1 (by intro z; cases z))]; exact e
  have hR2:ZR (upd H1 p (.lst (ls1.set j y))) (ls1.set j y) (rs.set j r):=(hR.keep nt).set ((hy.same s1).keep nt)
  exact λx3 d3=>Zk4 Zl hR2 hO (by simpa using hl) hn (λu H' s' hT' hall=>q u H' (so.trans s') hT' λl zs e=>hall l zs (so _ _ e)) x3 d3
def Zc2(C:Addr):Sp:=λvs H Q _=>∃ (x:V) (rs:List (Nat × Rat)) (y:V) (r:Nat × Rat),vs=[x,y]/\ZM C H x rs/\Jm H y r/\Jd (rs ++ [r])/\rs.length < 40/\(∀ t∈rs ++ [r],0<=t.2.num) /\
 ∀ u H',Zn H H'->ZM C H' u (rs ++ [r])->(∀ l zs,H l=some (.lst zs)->ZM C (del l H') u (rs ++ [r]))->Q u H'
def Zh6(F:Fun K "with_one_more" "with_one_more" ZaG f fd)(Zck:Mth P w K mg base Zx 1 CT "roads" ["self"] (Zdw CT))(Zdu:Mkr P w K mg base Zx 6 CT "Tree" ["self","roads"] (Zfh CT)):FnOk P w K mg base Zx 8 f fd ["tree","road"] (Zc2 CT):=by
 refine JA F Zeh λcdv A outer s H vs Q E hr h=>?_
 obtain⟨x,rs,y,r,rfl,hT,hy,hO,hl,hn,q⟩:=h
 obtain⟨a,dx,la,wa,ls,ws,rfl,h1,_⟩:=id hT
 refine⟨_,(Zk (Zr (ZfP Zdu hr (by decide) rfl (Zm (Zqd (Zcq Zck hr (by decide) (Zf 0)) (JK (Zm (Zf 1) Zc))) Zc)))),?_⟩
 rw [show Zu ["tree","road"] [.ref a,y]=[some (.ref a),some (y)] from rfl]
 walk_at "rd"
 refine⟨dx,_,h1,rfl,.ref a,rs,rfl,hT,λp H1 ls1 hp s1 e1 hR p2 H2 hp2 s2 e2=>⟨p,rfl,ls1,s2 _ _ e1,_,e2,Jj (by rw [hR.1]; show rs.length + 1<=_; omega),λp3 hp3=>?_⟩⟩
 have s12:=s1.trans s2
 have so:Zn H (upd H2 p3 (.lst (ls1 ++ [y]))):=ZW (s12.free hp3) s12
 have hR2:ZR (upd H2 p3 (.lst (ls1 ++ [y]))) (ls1 ++ [y]) (rs ++ [r]):=((hR.same s2).same (ZS hp3 _)).snoc ((hy.same s12).same (ZS hp3 _))
 exact λx3 d3=>Zk4 Zl hR2 hO (by simp; omega) hn (λu H' s' hT' hall=>q u H' (so.trans s') hT' λl zs e=>hall l zs (so _ _ e)) x3 d3
def ZjQ(CS CT:Addr):Sp:=λvs H Q _=>∃ ex a ps rs kvs past,vs=[.ref a]/\ZI ex CS CT H a ps rs kvs past/\∀ tr,ZM CT (off ex a ps H) tr rs->Q tr H
def Zn2(F:Fun K "tree" "Shire.tree" Zay f fd)(Zg:Cls K CS)(Zw:ZJ K CS "land"):FnOk P w K mg base Zx 1 f fd ["self"] (ZjQ CS CT):=by
 refine JA F Zf8 λcdv A outer s H vs Q E hr h=>?_
 obtain⟨ex,a,ps,rs,kvs,past,rfl,⟨dx,tr,ds,pv,h1,h2,h3,h4,h5,hx,hpx⟩,q⟩:=h
 refine⟨_,(Zk (Zr (Z2 (Zf 0)))),?_⟩
 rw [show Zu ["self"] [.ref a]=[some (.ref a)] from rfl]
 walk_at "rd"
 exact⟨CS,dx,_,h1,Zg,Zw,tr,rfl,q tr h3⟩
def ZgV(CS CT:Addr):Sp:=λvs H Q _=>∃ ex a ps rs kvs past,vs=[.ref a]/\ZI ex CS CT H a ps rs kvs past/\∀ d H',H d=none->Zn H H'->H' d=some (.dK kvs)->Q (.ref d) H'
def ZlP(F:Fun K "homes" "Shire.homes" Zap f fd)(Zcv:mg "dict"=none)(Zg:Cls K CS)(Zs:ZJ K CS "places"):FnOk P w K mg base Zx 1 f fd ["self"] (ZgV CS CT):=by
 refine JA F Zfr λcdv A outer s H vs Q E hr h=>?_
 obtain⟨ex,a,ps,rs,kvs,past,rfl,⟨dx,tr,ds,pv,h1,h2,h3,h4,h5,hx,hpx⟩,q⟩:=h
 refine⟨_,(Zk (Zr (Zgv rfl Zcv (Zm (Z2 (Zf 0)) Zc)))),?_⟩
 rw [show Zu ["self"] [.ref a]=[some (.ref a)] from rfl]
 walk_at "rd"
 simp only [ZfM]
 walk_at "rd"
 exact⟨CS,dx,_,h1,Zg,Zs,.ref ds,rfl,ds,rfl,kvs,.inl (Zbv _ _ h4),q⟩
def Zfq(ex:List Addr)(CS CT a ps:Addr)(H:Hp)(rs:List (Nat × Rat))(kvs:Kvs)(past:List J0)(Q:Hp->Prop):Prop:=∀ H',Z9 a ps H H'->ZI ex CS CT H' a ps rs kvs past->Q H'
def Zgr(CS CT:Addr):Sp:=λvs H Q _=>∃ ex a ps rs kvs past z k,vs=[.ref a,.str z,.int k]/\ZI ex CS CT H a ps rs kvs past/\past.length < 1000/\kvs.length < 900/\Zfq ex CS CT a ps H rs (JL kvs (Sum.inr z) (.int k)) (past ++ [(rs,kvs)]) (Q .non)
def ZoS(F:Fun K "place" "Shire.place" Zao f fd)(Zcv:mg "dict"=none)(Zg:Cls K CS)(Zw:ZJ K CS "land")(Zs:ZJ K CS "places")(ZiX:Mth P w K mg base Zx 1 CS "do" ["self","land","places"] (Zkc CS CT)):FnOk P w K mg base Zx 2 f fd ["self","name","k"] (Zgr CS CT):=by
 refine JA F ZcX λcdv A outer s H vs Q E hr h=>?_
 obtain⟨ex,a,ps,rs,kvs,past,z,k,rfl,hS,hpl,hkl,q⟩:=h
 obtain⟨dx,tr,ds,pv,h1,h2,h3,h4,h5,hx,hpx⟩:=id hS
 refine⟨_,(Zd (Zt 3 ZcX.nd (Zgv rfl Zcv (Zm (Z2 (Zf 0)) Zc)))
   (Zd (Zo5 (Zl3 hr) (Zf 3) (Zf 1) (Zf 2))
   (Zk (ZL (ZZ ZiX hr (by decide) (Zf 0) (Zm (Z2 (Zf 0)) (Zm (Zf 3) Zc))))))),?_⟩
 rw [show Zu ["self","name","k","places"] [.ref a,.str z,.int k]=[some (.ref a),some (.str z),some (.int k),none] from rfl]
 walk_at "rd"
 simp only [ZfM]
 walk_at "rd"
 refine⟨CS,dx,_,h1,Zg,Zs,.ref ds,rfl,ds,rfl,kvs,.inl (Zbv _ _ h4),λp H2 hp s2 e2=>?_⟩
 have S3:Zn H (upd H2 p (.dK (JL kvs (Sum.inr z) (.int k)))):=ZW hp s2
 refine⟨kvs,e2,Sum.inr z,rfl,by omega,dx,_,S3 _ _ h1,rfl,CS,dx,_,S3 _ _ h1,Zg,Zw,tr,rfl,?_⟩
 exact⟨ex,a,ps,rs,kvs,past,tr,p,rs,_,rfl,hS.same S3,hpl,h3.same (Zcg S3),ZlB hp h1 h2 hx Zl,λH' s' hS'=>q H' ((Z9.of S3).trans s') hS'⟩
def ZgG(CS CT:Addr):Sp:=λvs H Q _=>∃ ex a ps rs kvs past z,vs=[.ref a,.str z]/\ZI ex CS CT H a ps rs kvs past/\JH z/\(Ji kvs (Sum.inr z)).isSome=true/\∀ H',Zn H H'->Q .non H'
def Zm4(F:Fun K "look_village" "Shire.look_village" Zab f fd)(Zg:Cls K CS)(Zs:ZJ K CS "places")(Zbg:Fn P w K mg base Zx 1 "is_name" ["thing"] ZdA):FnOk P w K mg base Zx 2 f fd ["self","name"] (ZgG CS CT):=by
 refine JA F ZcG λcdv A outer s H vs Q E hr h=>?_
 obtain⟨ex,a,ps,rs,kvs,past,z,rfl,hS,hz,hv,q⟩:=h
 obtain⟨dx,tr,ds,pv,h1,h2,h3,h4,h5,hx,hpx⟩:=id hS
 refine⟨_,(Zk (ZN (t_w (J3 (Jr (Jk (Jp Zbg hr (Zm (Zf 1) Zc)))) (JV (Zsj (Zl3 hr) (Zf 1) (Z2 (Zf 0)))))) (Zk Z6) Zy)),?_⟩
 rw [show Zu ["self","name"] [.ref a,.str z]=[some (.ref a),some (.str z)] from rfl]
 walk_at "rd"
 refine⟨z,rfl,hz,λH1 s1=>⟨true,rfl,?_⟩⟩
 rw [if_neg (by decide)]
 refine⟨CS,dx,_,s1 _ _ h1,Zg,Zs,.ref ds,rfl,ds,rfl,kvs,.inl (s1 _ _ (Zbv _ _ h4)),Sum.inr z,rfl,?_⟩
 rw [if_neg (by rw [hv]; decide)]
 exact q _ s1
def Zld(CS CT:Addr):Sp:=λvs H Q _=>∃ ex a ps rs kvs past z k,vs=[.ref a,.str z,.int k]/\ZI ex CS CT H a ps rs kvs past/\past.length < 1000/\kvs.length < 12/\JH z/\Ji kvs (Sum.inr z)=none/\inT rs k/\Zfq ex CS CT a ps H rs (JL kvs (Sum.inr z) (.int k)) (past ++ [(rs,kvs)]) (Q .non)
def Zqf{tk:Tok}(F:Fun K "come" "Shire.come" Zax f fd)(ZC:mg "len"=none)(g_MOST_VILLAGES:mg "MOST_VILLAGES"=some (.int 12 tk))(Zg:Cls K CS)(Zw:ZJ K CS "land")(Zs:ZJ K CS "places")(Zbg:Fn P w K mg base Zx 1 "is_name" ["thing"] ZdA)
  (Zac:Mth P w K mg base Zx 2 CT "look_crossing" ["self","k"] (λvs H Q _=>ZdF CT CNP vs H Q E0)) (ZdP:Mth P w K mg base Zx 2 CS "place" ["self","name","k"] (Zgr CS CT)):FnOk P w K mg base Zx 3 f fd ["self","name","k"] (Zld CS CT):=by
 refine JA F Zgd λcdv A outer s H vs Q E hr h=>?_
 obtain⟨ex,a,ps,rs,kvs,past,z,k,rfl,hS,hpl,hkl,hz,hv,hk,q⟩:=h
 obtain⟨dx,tr,ds,pv,h1,h2,h3,h4,h5,hx,hpx⟩:=id hS
 refine⟨_,(Zd (ZN (t_w (J3 (Jr (Jk (Jp Zbg hr (Zm (Zf 1) Zc)))) (JV (Zux (Zl3 hr) (Zf 1) (Z2 (Zf 0)))))) (Zk Z6) Zy)
   (Zd (ZL (ZZ Zac hr (by decide) (Z2 (Zf 0)) (Zm (Zf 2) Zc)))
   (Zd (ZN (Ztv (Zpn rfl ZC (Zm (Z2 (Zf 0)) Zc)) (ZhG rfl g_MOST_VILLAGES)) (Zk Z6) Zy)
   (Zk (ZL (ZZ ZdP hr (by decide) (Zf 0) (Zm (Zf 1) (Zm (Zf 2) Zc)))))))),?_⟩
 rw [show Zu ["self","name","k"] [.ref a,.str z,.int k]=[some (.ref a),some (.str z),some (.int k)] from rfl]
 refine Zo λB hB=>?_
 refine Js λA2 hA2 C2 hC2=>?_
 walk_at "rd"
 refine⟨z,rfl,hz,λH1 s1=>⟨true,rfl,?_⟩⟩
 rw [if_neg (by decide)]
 have hS1:=hS.same s1
 refine⟨CS,dx,_,s1 _ _ h1,Zg,Zs,.ref ds,rfl,ds,rfl,kvs,.inl (s1 _ _ (Zbv _ _ h4)),Sum.inr z,rfl,?_⟩
 rw [hv,if_neg (by decide)]
 subst hC2
 subst hB
 try dsimp only
 walk_at "rd"
 have hT1:ZM CT H1 tr rs:=(h3.same Zbv).same s1
 obtain⟨x,dt,la,wa,ls,ws,rfl,t1,_⟩:=id hT1
 refine⟨CS,dx,_,s1 _ _ h1,Zg,Zw,.ref x,rfl,x,rfl,dt,_,t1,rfl,.ref x,rs,k,rfl,hT1,λ_=>?_,λz=>z hk⟩
 refine⟨CS,dx,_,s1 _ _ h1,Zg,Zs,.ref ds,rfl,ds,rfl,kvs,.inl (s1 _ _ (Zbv _ _ h4)),?_⟩
 rw [if_neg (by omega)]
 exact⟨dx,_,s1 _ _ h1,rfl,ex,a,ps,rs,kvs,past,z,k,rfl,hS1,hpl,by omega,λH' s' hS'=>q H' ((Z9.of s1).trans s') hS'⟩
def ZrI(CS CT:Addr):Sp:=λvs H Q _=>∃ ex a ps rs kvs past z,vs=[.ref a,.str z]/\ZI ex CS CT H a ps rs kvs past/\past.length < 1000/\JH z/\(Ji kvs (Sum.inr z)).isSome=true/\Zfq ex CS CT a ps H rs (Zfm kvs (Sum.inr z)) (past ++ [(rs,kvs)]) (Q .non)
def ZuB(F:Fun K "go" "Shire.go" ZaZ f fd)(Zcv:mg "dict"=none)(Zg:Cls K CS)(Zw:ZJ K CS "land")(Zs:ZJ K CS "places")(ZaQ:Mth P w K mg base Zx 2 CS "look_village" ["self","name"] (ZgG CS CT))(ZiX:Mth P w K mg base Zx 1 CS "do" ["self","land","places"] (Zkc CS CT)):FnOk P w K mg base Zx 3 f fd ["self","name"] (ZrI CS CT):=by
 refine JA F Zfl λcdv A outer s H vs Q E hr h=>?_
 obtain⟨ex,a,ps,rs,kvs,past,z,rfl,hS,hpl,hz,hv,q⟩:=h
 obtain⟨dx,tr,ds,pv,h1,h2,h3,h4,h5,hx,hpx⟩:=id hS
 refine⟨_,(Zd (ZL (ZZ ZaQ hr (by decide) (Zf 0) (Zm (Zf 1) Zc)))
   (Zd (Zt 2 Zfl.nd (Zgv rfl Zcv (Zm (Z2 (Zf 0)) Zc)))
   (Zd (ZL (Zo8 (Zf 2) (Zf 1)))
   (Zk (ZL (ZZ ZiX hr (by decide) (Zf 0) (Zm (Z2 (Zf 0)) (Zm (Zf 2) Zc)))))))),?_⟩
 rw [show Zu ["self","name","places"] [.ref a,.str z]=[some (.ref a),some (.str z),none] from rfl]
 walk_at "rd"
 simp only [ZfM]
 walk_at "rd"
 refine⟨dx,_,h1,rfl,ex,a,ps,rs,kvs,past,z,rfl,hS,hz,hv,λH1 s1=>?_⟩
 have hS1:=hS.same s1
 refine⟨CS,dx,_,s1 _ _ h1,Zg,Zs,.ref ds,rfl,ds,rfl,kvs,.inl (s1 _ _ (Zbv _ _ h4)),λp H2 hp s2 e2=>?_⟩
 obtain⟨v,ev⟩:=Option.isSome_iff_exists.mp hv
 have S3:Zn H1 (upd H2 p (.dK (Zfm kvs (Sum.inr z)))):=ZW hp s2
 have h1':=s1 _ _ h1
 refine⟨.inl ⟨kvs,.inl e2⟩,kvs,e2,Sum.inr z,rfl,⟨v,ev⟩,dx,_,S3 _ _ h1',rfl,CS,dx,_,S3 _ _ h1',Zg,Zw,tr,rfl,?_⟩
 have so:=(Zcg (ex:=ex) (a:=a) (p:=ps) s1).trans (Zcg S3)
 exact⟨ex,a,ps,rs,kvs,past,tr,p,rs,_,rfl,hS1.same S3,hpl,h3.same so,ZlB hp h1' (s1 _ _ h2) (hx.same s1) Zl,λH' s' hS'=>q H' ((Z9.of (s1.trans S3)).trans s') hS'⟩
def ZkO(CS CT:Addr):Sp:=λvs H Q _=>∃ ex a ps rs kvs past z k,vs=[.ref a,.str z,.int k]/\ZI ex CS CT H a ps rs kvs past/\past.length < 1000/\kvs.length < 900/\JH z/\(Ji kvs (Sum.inr z)).isSome=true/\inT rs k/\Zfq ex CS CT a ps H rs (JL kvs (Sum.inr z) (.int k)) (past ++ [(rs,kvs)]) (Q .non)
def Zqz(F:Fun K "move" "Shire.move" ZaC f fd)(Zg:Cls K CS)(Zw:ZJ K CS "land")(ZaQ:Mth P w K mg base Zx 2 CS "look_village" ["self","name"] (ZgG CS CT))(Zac:Mth P w K mg base Zx 2 CT "look_crossing" ["self","k"] (λvs H Q _=>ZdF CT CNP vs H Q E0))(ZdP:Mth P w K mg base Zx 2 CS "place" ["self","name","k"] (Zgr CS CT)):FnOk P w K mg base Zx 3 f fd ["self","name","k"] (ZkO CS CT):=by
 refine JA F Zgs λcdv A outer s H vs Q E hr h=>?_
 obtain⟨ex,a,ps,rs,kvs,past,z,k,rfl,hS,hpl,hkl,hz,hv,hk,q⟩:=h
 obtain⟨dx,tr,ds,pv,h1,h2,h3,h4,h5,hx,hpx⟩:=id hS
 refine⟨_,(Zd (ZL (ZZ ZaQ hr (by decide) (Zf 0) (Zm (Zf 1) Zc)))
   (Zd (ZL (ZZ Zac hr (by decide) (Z2 (Zf 0)) (Zm (Zf 2) Zc)))
   (Zk (ZL (ZZ ZdP hr (by decide) (Zf 0) (Zm (Zf 1) (Zm (Zf 2) Zc))))))),?_⟩
 rw [show Zu ["self","name","k"] [.ref a,.str z,.int k]=[some (.ref a),some (.str z),some (.int k)] from rfl]
 walk_at "rd"
 refine⟨dx,_,h1,rfl,ex,a,ps,rs,kvs,past,z,rfl,hS,hz,hv,λH1 s1=>?_⟩
 have hT1:ZM CT H1 tr rs:=(h3.same Zbv).same s1
 obtain⟨x,dt,la,wa,ls,ws,rfl,t1,_⟩:=id hT1
 refine⟨CS,dx,_,s1 _ _ h1,Zg,Zw,.ref x,rfl,x,rfl,dt,_,t1,rfl,.ref x,rs,k,rfl,hT1,λ_=>?_,λz=>z hk⟩
 exact⟨dx,_,s1 _ _ h1,rfl,ex,a,ps,rs,kvs,past,z,k,rfl,hS.same s1,hpl,hkl,λH' s' hS'=>q H' ((Z9.of s1).trans s') hS'⟩
def ZeS(C CNP:Addr):Sp:=λvs H Q E=>∃ x rs k,vs=[x,.int k]/\ZM C H x rs/\(∀ (k':Nat) r,k=(k':Int) + 1->rs[k']?=some r->Q (.int (r.1:Int)) H)/\(¬ inR rs k->E (.ref CNP) none H)
def ZmE(F:Fun K "leads_to" "Tree.leads_to" Zaj f fd)(ZP:Cls K CT)(ZaT:ZJ K CT "lanes")
  (ZaJ:Mth P w K mg base Zx 3 CT "look_road" ["self","k"] (λvs H Q _=>Zev CT CNP vs H Q E0)):FnOk P w K mg base Zx 4 f fd ["self","k"] (λvs H Q _=>ZeS CT CNP vs H Q E0):=by
 refine JA F Zem λcdv A outer s H vs Q E hr h=>?_
 obtain⟨x,rs,k,rfl,hT,q1,q2⟩:=h
 have hin:inR rs k:=Vk λz=>q2 z
 refine⟨_,(Zd (ZL (ZZ ZaJ hr (by decide) (Zf 0) (Zm (Zf 1) Zc)))
   (Zk (Zr (ZD (ZE (Z2 (Zf 0)) (JS (Zf 1) Zb)) Zb)))),?_⟩
 rw [show Zu ["self","k"] [x,.int k]=[some (x),some (.int k)] from rfl]
 walk_at "rd"
 obtain⟨a,dx,la,wa,ls,ws,rfl,h1,h2,h3,_⟩:=id hT
 refine⟨a,rfl,dx,_,h1,rfl,.ref a,rs,k,rfl,hT,λ_=>?_,λz=>z hin⟩
 obtain⟨k',hk'⟩:∃ k':Nat,k=(k':Int) + 1:=⟨(k - 1).toNat,by unfold inR at hin; omega⟩
 subst hk'
 have hl:=h3.1
 have hlr:k' < rs.length:=by unfold inR at hin; omega
 have hls:k' < ls.length:=by omega
 obtain⟨p,y,e,e2,e3⟩:=h3.2 k' _ _ (Yb hls) (Yb hlr)
 refine⟨a,rfl,CT,dx,_,h1,ZP,ZaT,.ref la,rfl,la,rfl,ls,h2,_,?_,p,e,_,e2,_,rfl,q1 k' _ rfl (Yb hlr)⟩
 rw [show (k':Int) + 1 - 1=(k':Int) by omega]
 exact Z5 (Yb hls)
def Ziu{y:V}(h:Jn H y q)(hn:0<=q.num):PrP H y:=by
 obtain⟨p,rfl,hp⟩:=h
 have hg:Int.gcd q.num (q.den:Int)=1:=by
  show Nat.gcd q.num.natAbs (Int.natAbs (q.den:Int))=1
  rw [Int.natAbs_natCast]
  exact q.reduced
 exact⟨p,_,_,rfl,hp,by have:=q.den_pos; omega,hg,hn⟩
def Zgb{H H':Hp}{a ps dx:Addr}{u:V}{fs:List (Str × V)}{pv:List V}(hu:ZM CT H' u rs)(hd:∀ l zs,H l=some (.lst zs)->ZM CT (del l H') u rs)(h1:H a=some (.ins CS dx fs))(hf:fs.length ≠ 2)(h2:H ps=some (.lst pv))(hx:Zdg ex H)(s:Zn H H'):ZM CT (off ex a ps H') u rs:=by
 have hL:Zdg (ps :: ex) H:=λl hl=>by
  rcases Ym.mp hl with rfl | hl
  ·exact⟨_,h2⟩
  ·exact hx l hl
 have na:a ∉ ps :: ex:=λz=>by obtain⟨zs,q⟩:=hL a z; rw [h1] at q; cases q
 have ht:=Zhj hu (hL.same s) λl hl=>let ⟨zs,e⟩:=hL l hl; hd l zs e
 have hda:Jw (ps :: ex) H' a=some (.ins CS dx fs):=Zz.mpr ⟨na,s _ _ h1⟩
 refine (Zgi ht hda (Zi2 hu (s _ _ h1) hf)).same λb o e=>?_
 obtain⟨g1,g2⟩:=Za3.mp e
 obtain⟨g3,g4⟩:=Zz.mp g2
 exact Zz.mpr ⟨λz=>(Ym.mp z).elim g1 g3,g4⟩
def Zmw(rs:List (Nat × Rat))(j:Nat)(q:Rat):List (Nat × Rat):=match rs[j]? with
 | none=>rs
 | some r=>rs.set j (r.1,q)
theorem Zge{j:Nat}(h:rs[j]?=some r):Zmw rs j q=rs.set j (r.1,q):=by unfold Zmw; rw [h]
def ZfH(CS CT:Addr):Sp:=λvs H Q _=>∃ (ex:List Addr) (a ps:Addr) (rs:List (Nat × Rat)) (kvs:Kvs) (past:List J0) (j:Nat) (y:V) (t:Rat),vs=[.ref a,.int ((j:Int) + 1),y]/\ZI ex CS CT H a ps rs kvs past/\past.length < 1000/\Jn H y t/\0<=t.num/\j < rs.length/\rs.length<=40/\Jd (Zmw rs j t)/\(∀ r∈Zmw rs j t,0<=r.2.num) /\
 Zfq ex CS CT a ps H (Zmw rs j t) kvs (past ++ [(rs,kvs)]) (Q .non)
def Zkl(F:Fun K "reprice" "Shire.reprice" Zag f fd)(Zg:Cls K CS)(Zw:ZJ K CS "land")(Zs:ZJ K CS "places")(ZaJ:Mth P w K mg base Zx 3 CT "look_road" ["self","k"] (λvs H Q _=>Zev CT CNP vs H Q E0))(ZbO:Mth P w K mg base Zx 4 CT "leads_to" ["self","k"] (λvs H Q _=>ZeS CT CNP vs H Q E0))
  (Zav:Fn P w K mg base Zx 4 "look_price" ["price"] ZbY) (Zbh:Fn P w K mg base Zx 8 "with_road" ["tree","k","road"] (Zdb CT)) (ZiX:Mth P w K mg base Zx 1 CS "do" ["self","land","places"] (Zkc CS CT)):FnOk P w K mg base Zx 9 f fd ["self","k","price"] (ZfH CS CT):=by
 refine JA F Zed λcdv A outer s H vs Q E hr h=>?_
 obtain⟨ex,a,ps,rs,kvs,past,j,y,t,rfl,hS,hpl,hy,hn,hj,hl,hO,hnn,q⟩:=h
 obtain⟨dx,tr,ds,pv,h1,h2,h3,h4,h5,hx,hpx⟩:=id hS
 have hT:ZM CT H tr rs:=h3.same Zbv
 obtain⟨x,dt,la,wa,ls,ws,rfl,t1,_⟩:=id hT
 have hin:inR rs ((j:Int) + 1):=by unfold inR; omega
 have hr0:=Yb hj
 rw [Zge hr0] at hO hnn q
 refine⟨_,(Zd (ZL (ZZ ZaJ hr (by decide) (Z2 (Zf 0)) (Zm (Zf 1) Zc)))
   (Zd (ZL (Jp Zav hr (Zm (Zf 2) Zc)))
   (Zk (ZL (ZZ ZiX hr (by decide) (Zf 0) (Zm (Jp Zbh hr (Zm (Z2 (Zf 0)) (Zm (Zf 1) (Zm (Jo (Zm (ZZ ZbO hr (by decide) (Z2 (Zf 0)) (Zm (Zf 1) Zc)) (Zm (Zf 2) Zc))) Zc)))) (Zm (Z2 (Zf 0)) Zc))))))),?_⟩
 rw [show Zu ["self","k","price"] [.ref a,.int ((j:Int) + 1),y]=[some (.ref a),some (.int ((j:Int) + 1)),some (y)] from rfl]
 walk_at "rd"
 refine⟨CS,dx,_,h1,Zg,Zw,.ref x,rfl,x,rfl,dt,_,t1,rfl,.ref x,rs,_,rfl,hT,λ_=>?_,λz=>z hin⟩
 refine⟨y,rfl,Ziu hy hn,?_⟩
 refine⟨dx,_,h1,rfl,CS,dx,_,h1,Zg,Zw,.ref x,rfl,CS,dx,_,h1,Zg,Zw,.ref x,rfl,x,rfl,dt,_,t1,rfl,.ref x,rs,_,rfl,hT,λk' r ek er p H2 hp s2 e2=>?_,λz=>z hin⟩
 obtain rfl:k'=j:=by omega
 rw [hr0] at er
 cases er
 refine⟨.ref x,rs,k',.ref p,(rs[k'].1,t),rfl,hT.same s2,⟨p,y,rfl,e2,hy.same s2⟩,hj,hO,hl,hnn,λu H3 s3 hu hd=>?_⟩
 have s23:=s2.trans s3
 refine⟨CS,dx,_,s23 _ _ h1,Zg,Zs,.ref ds,rfl,?_⟩
 exact⟨ex,a,ps,rs,kvs,past,u,ds,_,kvs,rfl,hS.same s23,hpl,Zgb hu (λl zs e=>hd l zs (s2 _ _ e)) h1 (by show (3:Nat) ≠ 2; decide) h2 hx s23,(Zcg s23) _ _ h4,λH' s' hS'=>q H' ((Z9.of s23).trans s') hS'⟩
def ZjB(CS CT:Addr):Sp:=λvs H Q _=>∃ (ex:List Addr) (a ps:Addr) (rs:List (Nat × Rat)) (kvs:Kvs) (past:List J0) (to:Nat) (y:V) (t:Rat),vs=[.ref a,.int (to:Int),y]/\ZI ex CS CT H a ps rs kvs past/\past.length < 1000/\Jn H y t/\0<=t.num/\to<=rs.length/\rs.length < 40/\Jd (rs ++ [(to,t)])/\(∀ r∈rs ++ [(to,t)],0<=r.2.num) /\
 Zfq ex CS CT a ps H (rs ++ [(to,t)]) kvs (past ++ [(rs,kvs)]) (Q (.int ((rs.length:Int) + 1)))
def ZnH(F:Fun K "build" "Shire.build" Zaq f fd)(Zg:Cls K CS)(Zw:ZJ K CS "land")(Zs:ZJ K CS "places")(Zac:Mth P w K mg base Zx 2 CT "look_crossing" ["self","k"] (λvs H Q _=>ZdF CT CNP vs H Q E0))(Zcw:Mth P w K mg base Zx 1 CT "many" ["self"] (ZdR CT))
  (Zav:Fn P w K mg base Zx 4 "look_price" ["price"] ZbY) (Zbq:Fn P w K mg base Zx 2 "look_room" ["tree"] (Zde CT)) (ZaE:Fn P w K mg base Zx 8 "with_one_more" ["tree","road"] (Zc2 CT)) (ZiX:Mth P w K mg base Zx 1 CS "do" ["self","land","places"] (Zkc CS CT)):FnOk P w K mg base Zx 9 f fd ["self","to","price"] (ZjB CS CT):=by
 refine JA F ZcU λcdv A outer s H vs Q E hr h=>?_
 obtain⟨ex,a,ps,rs,kvs,past,to,y,t,rfl,hS,hpl,hy,hn,hto,hl,hO,hnn,q⟩:=h
 obtain⟨dx,tr,ds,pv,h1,h2,h3,h4,h5,hx,hpx⟩:=id hS
 have hT:ZM CT H tr rs:=h3.same Zbv
 obtain⟨x,dt,la,wa,ls,ws,rfl,t1,_⟩:=id hT
 have hin:inT rs (to:Int):=by unfold inT; omega
 refine⟨_,(Zd (ZL (ZZ Zac hr (by decide) (Z2 (Zf 0)) (Zm (Zf 1) Zc)))
   (Zd (ZL (Jp Zav hr (Zm (Zf 2) Zc)))
   (Zd (ZL (Jp Zbq hr (Zm (Z2 (Zf 0)) Zc)))
   (Zd (Zt 3 ZcU.nd (Zcq Zcw hr (by decide) (Z2 (Zf 0))))
   (Zd (ZL (ZZ ZiX hr (by decide) (Zf 0) (Zm (Jp ZaE hr (Zm (Z2 (Zf 0)) (Zm (Jo (Zm (Zf 1) (Zm (Zf 2) Zc))) Zc))) (Zm (Z2 (Zf 0)) Zc))))
   (Zk (Zr (Zf 3)))))))),?_⟩
 rw [show Zu ["self","to","price","fresh"] [.ref a,.int (to:Int),y]=[some (.ref a),some (.int (to:Int)),some (y),none] from rfl]
 walk_at "rd"
 refine⟨CS,dx,_,h1,Zg,Zw,.ref x,rfl,x,rfl,dt,_,t1,rfl,.ref x,rs,_,rfl,hT,λ_=>?_,λz=>z hin⟩
 refine⟨y,rfl,Ziu hy hn,CS,dx,_,h1,Zg,Zw,.ref x,rfl,.ref x,rs,rfl,hT,hl,CS,dx,_,h1,Zg,Zw,.ref x,rfl,x,rfl,dt,_,t1,rfl,.ref x,rs,rfl,hT,?_⟩
 refine⟨dx,_,h1,rfl,CS,dx,_,h1,Zg,Zw,.ref x,rfl,λp H2 hp s2 e2=>?_⟩
 refine⟨.ref x,rs,.ref p,(to,t),rfl,hT.same s2,⟨p,y,rfl,e2,hy.same s2⟩,hO,hl,hnn,λu H3 s3 hu hd=>?_⟩
 have s23:=s2.trans s3
 refine⟨CS,dx,_,s23 _ _ h1,Zg,Zs,.ref ds,rfl,?_⟩
 exact⟨ex,a,ps,rs,kvs,past,u,ds,_,kvs,rfl,hS.same s23,hpl,Zgb hu (λl zs e=>hd l zs (s2 _ _ e)) h1 (by show (3:Nat) ≠ 2; decide) h2 hx s23,(Zcg s23) _ _ h4,λH' s' hS'=>q H' ((Z9.of s23).trans s') hS'⟩
def ZmU(rs:List (Nat × Rat))(j:Nat)(t:Rat):List (Nat × Rat):=match rs[j]? with
 | none=>rs
 | some r=>(rs ++ [(r.1,t)]).set j (rs.length + 1,r.2 - t)
theorem Zfb{j:Nat}(h:rs[j]?=some r):ZmU rs j q=(rs ++ [(r.1,q)]).set j (rs.length + 1,r.2 - q):=by unfold ZmU; rw [h]
def Zpf(CS CT:Addr):Sp:=λvs H Q _=>∃ (ex:List Addr) (a ps:Addr) (rs:List (Nat × Rat)) (kvs:Kvs) (past:List J0) (j:Nat) (y:V) (t:Rat) (r:Nat × Rat),vs=[.ref a,.int ((j:Int) + 1),y]/\ZI ex CS CT H a ps rs kvs past/\past.length < 1000/\Jn H y t/\0<=t.num/\rs[j]?=some r/\rs.length < 40/\SzQ 2000 r.2/\SzQ 2000 t/\¬ r.2 < t/\Jd (rs ++ [(r.1,t)])/\(∀ u∈rs ++ [(r.1,t)],0<=u.2.num)/\Jd (ZmU rs j t)/\(∀ u∈ZmU rs j t,0<=u.2.num) /\
 Zfq ex CS CT a ps H (ZmU rs j t) kvs (past ++ [(rs,kvs)]) (Q (.int ((rs.length:Int) + 1)))
def Zsq(F:Fun K "cut" "Shire.cut" ZaK f fd)(Zg:Cls K CS)(Zw:ZJ K CS "land")(Zs:ZJ K CS "places")(ZhU:Mth P w K mg base Zx 4 CT "price" ["self","k"] (λvs H Q _=>Zhn CT CNP vs H Q E0))(ZbO:Mth P w K mg base Zx 4 CT "leads_to" ["self","k"] (λvs H Q _=>ZeS CT CNP vs H Q E0))(Zcw:Mth P w K mg base Zx 1 CT "many" ["self"] (ZdR CT))
  (Zav:Fn P w K mg base Zx 4 "look_price" ["price"] ZbY) (Zew:Fn P w K mg base Zx 1 "is_less" ["one","other"] Zk2) (Zbq:Fn P w K mg base Zx 2 "look_room" ["tree"] (Zde CT)) (ZaE:Fn P w K mg base Zx 8 "with_one_more" ["tree","road"] (Zc2 CT)) (Zbh:Fn P w K mg base Zx 8 "with_road" ["tree","k","road"] (Zdb CT))
  (ZeD:Fn P w K mg base Zx 3 "rest_of" ["one","other"] (ZjI (· - ·))) (ZiX:Mth P w K mg base Zx 1 CS "do" ["self","land","places"] (Zkc CS CT)):FnOk P w K mg base Zx 9 f fd ["self","k","price"] (Zpf CS CT):=by
 refine JA F Zb0 λcdv A outer s H vs Q E hr h=>?_
 obtain⟨ex,a,ps,rs,kvs,past,j,y,t,r,rfl,hS,hpl,hy,hn,hr0,hl,z1,z2,hle,hO1,hn1,hO,hnn,q⟩:=h
 obtain⟨dx,tr,ds,pv,h1,h2,h3,h4,h5,hx,hpx⟩:=id hS
 have hT:ZM CT H tr rs:=h3.same Zbv
 obtain⟨x,dt,la,wa,ls,ws,rfl,t1,_⟩:=id hT
 have hj:j < rs.length:=(Yf.mp hr0).1
 have hin:inR rs ((j:Int) + 1):=by unfold inR; omega
 rw [Zfb hr0] at hO hnn q
 refine⟨_,(Zd (Zt 3 Zb0.nd (ZZ ZhU hr (by decide) (Z2 (Zf 0)) (Zm (Zf 1) Zc)))
   (Zd (ZL (Jp Zav hr (Zm (Zf 2) Zc)))
   (Zd (ZN (Jk (Jp Zew hr (Zm (Zf 3) (Zm (Zf 2) Zc)))) (Zk Z6) Zy)
   (Zd (ZL (Jp Zbq hr (Zm (Z2 (Zf 0)) Zc)))
   (Zd (Zt 4 Zb0.nd (Zcq Zcw hr (by decide) (Z2 (Zf 0))))
   (Zd (Zt 5 Zb0.nd (Jp ZaE hr (Zm (Z2 (Zf 0)) (Zm (Jo (Zm (ZZ ZbO hr (by decide) (Z2 (Zf 0)) (Zm (Zf 1) Zc)) (Zm (Zf 2) Zc))) Zc))))
   (Zd (ZL (ZZ ZiX hr (by decide) (Zf 0) (Zm (Jp Zbh hr (Zm (Zf 5) (Zm (Zf 1) (Zm (Jo (Zm (Zf 4) (Zm (Jp ZeD hr (Zm (Zf 3) (Zm (Zf 2) Zc))) Zc))) Zc)))) (Zm (Z2 (Zf 0)) Zc))))
   (Zk (Zr (Zf 4)))))))))),?_⟩
 rw [show Zu ["self","k","price","whole","fresh","longer"] [.ref a,.int ((j:Int) + 1),y]=[some (.ref a),some (.int ((j:Int) + 1)),some (y),none,none,none] from rfl]
 refine Zo λB hB=>?_
 walk_at "rd"
 refine⟨CS,dx,_,h1,Zg,Zw,.ref x,rfl,x,rfl,dt,_,t1,rfl,.ref x,rs,_,rfl,hT,λk' r' wh ek er hwh=>?_,λz=>z hin⟩
 obtain rfl:k'=j:=by omega
 rw [hr0] at er
 cases er
 subst hB
 try dsimp only
 refine Zo λB hB=>?_
 walk_at "rd"
 refine⟨y,rfl,Ziu hy hn,?_⟩
 subst hB
 try dsimp only
 refine Zo λB hB=>?_
 walk_at "rd"
 refine⟨wh,y,r.2,t,rfl,hwh,hy,z1,z2,_,rfl,?_⟩
 rw [if_neg (by simpa using hle)]
 subst hB
 try dsimp only
 walk_at "rd"
 refine⟨CS,dx,_,h1,Zg,Zw,.ref x,rfl,.ref x,rs,rfl,hT,hl,CS,dx,_,h1,Zg,Zw,.ref x,rfl,x,rfl,dt,_,t1,rfl,.ref x,rs,rfl,hT,?_⟩
 refine⟨CS,dx,_,h1,Zg,Zw,.ref x,rfl,CS,dx,_,h1,Zg,Zw,.ref x,rfl,x,rfl,dt,_,t1,rfl,.ref x,rs,_,rfl,hT,λk2 r2 ek2 er2 p H2 hp s2 e2=>?_,λz=>z hin⟩
 obtain rfl:k2=k':=by omega
 rw [hr0] at er2
 cases er2
 refine⟨.ref x,rs,.ref p,(r.1,t),rfl,hT.same s2,⟨p,y,rfl,e2,hy.same s2⟩,hO1,hl,hn1,λu H3 s3 hu hd=>?_⟩
 have s23:=s2.trans s3
 refine⟨dx,_,s23 _ _ h1,rfl,wh,y,r.2,t,rfl,hwh.same s23,hy.same s23,z1,z2,λv H4 s4 hv p5 H5 hp5 s5 e5=>?_⟩
 have s35:=s4.trans s5
 have s25:=s23.trans s35
 refine⟨u,rs ++ [(r.1,t)],k2,.ref p5,(rs.length + 1,r.2 - t),rfl,hu.same s35,⟨p5,v,rfl,e5,hv.same s5⟩,by simp; omega,hO,by simp; omega,hnn,λu2 H6 s6 hu2 hd2=>?_⟩
 have s26:=s25.trans s6
 refine⟨CS,dx,_,s26 _ _ h1,Zg,Zs,.ref ds,rfl,?_⟩
 exact⟨ex,a,ps,rs,kvs,past,u2,ds,_,kvs,rfl,hS.same s26,hpl,Zgb hu2 (λl zs e=>hd2 l zs (s25 _ _ e)) h1 (by show (3:Nat) ≠ 2; decide) h2 hx s26,(Zcg s26) _ _ h4,λH' s' hS'=>q H' ((Z9.of s26).trans s') hS'⟩
end
def Zuh(k sd sp:Int)(i:Nat):Nat:=97 + ((sd / 64 + (i:Int) * (sd / 7 % 3) + (if (i:Int)=sp then k else 0)) % 26).toNat
def ZhV(k sd sp:Int):Nat->Str
 | 0=>Str.empty
 | i + 1=>ZhV k sd sp i ++ one (Zuh k sd sp i)
def Zn6(k sd:Int):Str:=ZhV k sd (sd / 8 % (1 + (sd + k * (sd % 2)) % 8)) (1 + (sd + k * (sd % 2)) % 8).toNat
def Zg9(k sd sp:Int):∀ i,(ZhV k sd sp i).length=i
 | 0=>rfl
 | i + 1=>by
  show (ZhV k sd sp i ++ one _).length=_
  rw [strLen_append,Zg9 k sd sp i]
  rfl
def ZrY{i:Int}(h0:0<=i)(h1:i < 26):atI (Str.ofString "abcdefghijklmnopqrstuvwxyz").cps.toList i=some (97 + i.toNat):=by
 obtain⟨k,rfl⟩:∃ k:Nat,i=(k:Int):=⟨i.toNat,by omega⟩
 have key:∀ k:Nat,k < 26->(Str.ofString "abcdefghijklmnopqrstuvwxyz").cps.toList[k]?=some (97 + k):=by decide +kernel
 exact Z5 (key k (by omega))
def ZqE:(Str.ofString "abcdefghijklmnopqrstuvwxyz").length=26:=by decide +kernel
def ZuY(H0:Hp)(k sd sz sp:Int)(i:Nat)(σ:St)(H:Hp):Prop:=∃ (o1 o2:Option V),σ=[some (.int k),some (.int sd),some (.str (Str.ofString "abcdefghijklmnopqrstuvwxyz")),some (.int sz),some (.int sp),some (.str (ZhV k sd sp i)),o1,o2]/\H=H0
section
variable {P:Program}{w:World}{K:PySem.W.Frag}{mg:Str->Option Value}{base:Heap}{f:Addr}{fd:FuncData}{CT CNP CS:Addr}
def Zjq:Sp:=λvs H Q _=>∃ k sd:Int,vs=[.int k,.int sd]/\0<=k/\k < 26/\0<=sd/\sd < 99989/\Q (.str (Zn6 k sd)) H
def ZoK(F:Fun K "_law_name" "_law_name" ZbG f fd)(Jh:mg "range"=none):FnOk P w K mg base Zx 1 f fd ["_law_k","_law_seed"] Zjq:=by
 refine JA F ZaL λcdv A outer s H vs Q E hr h=>?_
 obtain⟨k,sd,rfl,hk0,hk1,hs0,hs1,q⟩:=h
 unfold Zn6 at q
 refine⟨_,(Zd (Zt 2 ZaL.nd Zv)
   (Zd (Zt 3 ZaL.nd (Z4 Zb (ZX (Z4 (Zf 1) (JW (Zf 0) (ZX (Zf 1) Zb))) Zb)))
   (Zd (Zt 4 ZaL.nd (ZX (Zdi (Zf 1) Zb) (Zf 3)))
   (Zd (Zt 5 ZaL.nd Zv)
   (Zd (ZhP YM (Zg6 rfl Jh (Zm (Zf 3) Zc)) (Z3 6 ZaL.nd) (Zd (Zt 7 ZaL.nd (Z4 (Zdi (Zf 1) Zb) (JW (Zf 6) (ZX (Zdi (Zf 1) Zb) Zb))))
   (Zd (ZN (Jq (Zf 6) (Zf 4)) (Zk (Zt 7 ZaL.nd (Z4 (Zf 7) (Zf 0)))) Zy)
   (Zk (Zt 5 ZaL.nd (ZeO (Zf 5) (Zun (Zf 2) (ZX (Zf 7) Zb))))))))
   (Zk (Zr (Zf 5)))))))),?_⟩
 rw [show Zu ["_law_k","_law_seed","_law_letters","_law_size","_law_spot","_law_word_here","_law_place","_law_at"] [.int k,.int sd]=[some (.int k),some (.int sd),none,none,none,none,none,none] from rfl]
 walk_at "rd"
 simp only [Ze4]
 walk_at "rd"
 have hz0:∀ u:Int,0<=u % 8/\u % 8 < 8:=λu=>⟨Ys _ (by decide),Yu _ (by decide)⟩
 have hsz:=hz0 (sd + k * (sd % 2))
 generalize (sd + k * (sd % 2)) % 8=z8 at hsz q ⊢
 refine⟨.inr ⟨by omega,by omega⟩,by omega,by omega,by omega,?_⟩
 refine ZeQ (ZuY H k sd (1 + z8) (sd / 8 % (1 + z8))) ⟨_,_,rfl,rfl⟩ (λi σ H2 hi hP=>?_) (λσ H2 hP=>?_)
 ·obtain⟨o1,o2,rfl,rfl⟩:=hP
  have hi8:i < 8:=by omega
  have hz:=Zg9 k sd (sd / 8 % (1 + z8)) i
  refine Zo λB hB=>?_
  walk_at "rd"
  refine⟨.inl ⟨by omega,by omega⟩,?_⟩
  subst hB
  try dsimp only
  refine Zo λB hB=>?_
  have fin2:∀ u:Int,u=sd / 64 + (i:Int) * (sd / 7 % 3) + (if (i:Int)=sd / 8 % (1 + z8) then k else 0)->B [some (V.int k),some (V.int sd),some (V.str (Str.ofString "abcdefghijklmnopqrstuvwxyz")),some (V.int (1 + z8)),some (V.int (sd / 8 % (1 + z8))),some (V.str (ZhV k sd (sd / 8 % (1 + z8)) i)),some (V.int (i:Int)),some (V.int u)] H2:=by
   intro u hu
   subst hB
   try dsimp only
   walk_at "rd"
   refine⟨by rw [ZqE]; decide,_,ZrY (i:=u % 26) (by omega) (by omega),?_,some (V.int (i:Int)),some (V.int u),?_,rfl⟩
   ·show (ZhV k sd (sd / 8 % (1 + z8)) i).length + 1<=sizeLine
    exact Jj (by omega)
   ·rw [hu]
    rfl
  walk_at "rd"
  refine JF (λc=>fin2 _ (by rw [if_pos c])) (λc=>fin2 _ (by rw [if_neg c,Int.add_zero]))
 ·obtain⟨o1,o2,rfl,rfl⟩:=hP
  walk_at "rd"
  exact q
end
def Zkz:List Str:=["none","good","back","judge","cost","even","tree","homes","come","go","move","price","cut","build","stairs","third","evenest","refused","ok","a"]
def ZdE(j:_root_.Fin 23)(s:_root_.Fin 4):Str:=if (s:Nat)=3/\3<=(j:Nat) then Zkz.getD ((j:Nat) % 20) Str.empty else Zn6 ((j:Nat):Int) (100 + (((s:Nat) % 3:Nat):Int))
def Zgk:∀ j:_root_.Fin 23,∀ s:_root_.Fin 4,1<=(ZdE j s).length/\(ZdE j s).length<=8/\∀ d∈(ZdE j s).cps.toList,97<=d/\d<=122:=by decide +kernel
def Zrc:∀ j:_root_.Fin 23,∀ j':_root_.Fin 23,∀ s:_root_.Fin 4,∀ s':_root_.Fin 4,j ≠ j'->ZdE j s ≠ ZdE j' s':=by decide +kernel
def ZkI(rs:List (Nat × Rat))(j:Nat)(e:Int):List (Nat × Rat):=match rs[j]? with
 | none=>[]
 | some r=>rs.take j ++ [(rs.length + 1,Rat.divInt (r.2.num * (8 - e)) ((r.2.den:Int) * 8))] ++ rs.drop (j + 1) ++ [(r.1,Rat.divInt (r.2.num * e) ((r.2.den:Int) * 8))]
section
variable {rs:List (Nat × Rat)}{hf:Str->Nat}{ss:List Str}{j:Nat}{e:Int}{r:Nat × Rat}
def Zl0(h:rs[j]?=some r):(ZkI rs j e).length=rs.length + 1:=by
 have hj:=(Yf.mp h).1
 unfold ZkI
 rw [h]
 simp
 omega
def Zpw(h:rs[j]?=some r)(k:Nat):(ZkI rs j e)[k]?=if k=j then some (rs.length + 1,Rat.divInt (r.2.num * (8 - e)) ((r.2.den:Int) * 8)) else if k < rs.length then rs[k]? else if k=rs.length then some (r.1,Rat.divInt (r.2.num * e) ((r.2.den:Int) * 8)) else none:=by
 have hj:=(Yf.mp h).1
 unfold ZkI
 rw [h]
 dsimp only
 have l1:(rs.take j).length=j:=by rw [YU]; omega
 have l2:(rs.take j ++ [(rs.length + 1,Rat.divInt (r.2.num * (8 - e)) ((r.2.den:Int) * 8))]).length=j + 1:=by rw [YL,l1]; rfl
 have l3:(rs.take j ++ [(rs.length + 1,Rat.divInt (r.2.num * (8 - e)) ((r.2.den:Int) * 8))] ++ rs.drop (j + 1)).length=rs.length:=by rw [YL,l2,List.length_drop]; omega
 by_cases c1:k < rs.length
 ·rw [YD (by rw [l3]; exact c1)]
  by_cases c2:k < j + 1
  ·rw [YD (by rw [l2]; exact c2)]
   by_cases c3:k < j
   ·rw [YD (by rw [l1]; exact c3),List.getElem?_take_of_lt c3,if_neg (by omega),if_pos c1]
   ·have:k=j:=by omega
    subst this
    rw [YK (by rw [l1]; exact Yd _),l1,Nat.sub_self,if_pos rfl]
    rfl
  ·rw [YK (by rw [l2]; omega),l2,List.getElem?_drop,if_neg (by omega),if_pos c1]
   congr 1
   omega
 ·rw [YK (by rw [l3]; omega),l3,if_neg (by omega),if_neg c1]
  by_cases c2:k=rs.length
  ·rw [if_pos c2,c2,Nat.sub_self]
   rfl
  ·rw [if_neg c2,List.getElem?_eq_none (by simp; omega)]
def ZoH(hO:Jd rs)(h:rs[j]?=some r):Jd (ZkI rs j e):=by
 have hj:=(Yf.mp h).1
 obtain⟨rank,r0,hb,hr⟩:=hO
 obtain⟨g1,g2⟩:=hr j r h
 refine⟨λv=>if v=rs.length + 1 then rank (j + 1) else if rank v < rank (j + 1) then rank v else rank v + 1,?_,λv=>?_,λk t ht=>?_⟩
 ·dsimp only
  rw [r0]
  (repeat' split) <;> omega
 ·rw [Zl0 h]
  have h1:=hb v
  have h2:=hb (j + 1)
  dsimp only
  (repeat' split) <;> omega
 ·rw [Zpw h] at ht
  rw [Zl0 h]
  by_cases c1:k=j
  ·rw [if_pos c1] at ht
   cases ht
   subst c1
   refine⟨Yd _,?_⟩
   dsimp only
   (repeat' split) <;> omega
  ·rw [if_neg c1] at ht
   by_cases c2:k < rs.length
   ·rw [if_pos c2] at ht
    obtain⟨a1,a2⟩:=hr k t ht
    refine⟨by omega,?_⟩
    dsimp only
    (repeat' split) <;> omega
   ·rw [if_neg c2] at ht
    by_cases c3:k=rs.length
    ·rw [if_pos c3] at ht
     cases ht
     subst c3
     refine⟨by omega,?_⟩
     dsimp only
     (repeat' split) <;> omega
    ·rw [if_neg c3] at ht
     cases ht
end
def Zfz{rs rs':List (Nat × Rat)}(h:rs.map (·.1)=rs'.map (·.1))(hT:Jd rs):Jd rs':=by
 obtain⟨rank,r0,hb,hr⟩:=hT
 have hl:rs.length=rs'.length:=by have:=congrArg List.length h; simpa using this
 refine⟨rank,r0,λv=>by rw [<- hl]; exact hb v,λk r e=>?_⟩
 have hk:k < rs.length:=by rw [hl]; exact (Yf.mp e).1
 have e2:=congrArg (λl=>l[k]?) h
 simp only [List.getElem?_map,e,List.getElem?_eq_getElem hk,Option.map_some,Option.some.injEq] at e2
 obtain⟨g1,g2⟩:=hr k _ (Yb hk)
 rw [e2] at g1 g2
 rw [<- hl]
 exact⟨g1,g2⟩
theorem Ze2(hT:Jd rs){to:Nat}(hto:to<=rs.length)(t:Rat):Jd (rs ++ [(to,t)]):=by
 obtain⟨rank,r0,hb,hr⟩:=hT
 have hl:(rs ++ [(to,t)]).length=rs.length + 1:=by simp
 refine⟨λv=>if v=rs.length + 1 then rank to + 1 else rank v,?_,λv=>?_,λk r e=>?_⟩
 ·dsimp only
  rw [if_neg (by omega)]
  exact r0
 ·rw [hl]
  have h1:=hb v
  have h2:=hb to
  dsimp only
  split <;> omega
 ·rw [hl]
  by_cases c:k < rs.length
  ·rw [YD c] at e
   obtain⟨g1,g2⟩:=hr k r e
   dsimp only
   rw [if_neg (by omega),if_neg (by omega)]
   exact⟨by omega,g2⟩
  ·have hk:k=rs.length:=by have:=(Yf.mp e).1; rw [hl] at this; omega
   subst hk
   rw [YK (Yd _),Nat.sub_self] at e
   cases e
   dsimp only
   rw [if_neg (by omega),if_pos rfl]
   exact⟨by omega,by omega⟩
def Zh7(hT:Jd rs)(j:Nat)(t:Rat):Jd (Zmw rs j t):=by
 unfold Zmw
 cases h:rs[j]? with
 | none=>exact hT
 | some r =>
  refine Zfz ?_ hT
  refine Y7 λi=>?_
  rw [Yh,Yh]
  by_cases c:j=i
  ·subst c
   rw [YV (Yf.mp h).1,h]
   rfl
  ·rw [YY c]
def ZiT(hT:Jd rs){j:Nat}{r:Nat × Rat}(h:rs[j]?=some r)(t:Rat):Jd (ZmU rs j t):=by
 have hj:=(Yf.mp h).1
 refine Zfz ?_ (ZoH (e:=0) hT h)
 rw [Zfb h]
 refine Y7 λi=>?_
 rw [Yh,Yh,Zpw h]
 by_cases c:i=j
 ·subst c
  rw [if_pos rfl,List.getElem?_set_self (by simp; omega)]
  rfl
 ·rw [if_neg c,YY (Ne.symm c)]
  by_cases c2:i < rs.length
  ·rw [if_pos c2,YD c2]
  ·rw [if_neg c2,YK (by omega)]
   by_cases c3:i=rs.length
   ·rw [if_pos c3,c3,Nat.sub_self]
    rfl
   ·rw [if_neg c3,List.getElem?_eq_none (by simp; omega)]
inductive Deed where
 | come (z:Str) (k:Nat)
 | go (z:Str)
 | move (z:Str) (k:Nat)
 | reprice (j:Nat) (t:Rat)
 | build (to:Nat) (t:Rat)
 | cut (j:Nat) (t:Rat)
def done:Deed->J0->J0
 | .come z k,n=>(n.1,JL n.2 (Sum.inr z) (.int (k:Int)))
 | .go z,n=>(n.1,Zfm n.2 (Sum.inr z))
 | .move z k,n=>(n.1,JL n.2 (Sum.inr z) (.int (k:Int)))
 | .reprice j t,n=>(Zmw n.1 j t,n.2)
 | .build to t,n=>(n.1 ++ [(to,t)],n.2)
 | .cut j t,n=>(ZmU n.1 j t,n.2)
def ZoR(i:Nat)(kv:Z7 × V):Prop:=∃ (j:Fin 23) (s:Fin 4) (h:Nat),(j:Nat) < i/\kv=(Sum.inr (ZdE j s),.int (h:Int))/\h<=100
def HV(i:Nat)(kvs:Kvs):Prop:=(kvs.map (·.1)).Nodup/\kvs.length<=6/\∀ kv∈kvs,ZoR i kv
def ZhL(i:Nat)(rs:List (Nat × Rat)):Prop:=Jd rs/\rs.length<=i + 17/\∀ r∈rs,SzQ 98 r.2/\0<=r.2.num
def JX(i:Nat)(n:J0):Prop:=ZhL i n.1/\HV i n.2
theorem ZoR.up{kv:Z7 × V}(h:ZoR i kv):ZoR (i + 1) kv:=let ⟨j,s,k,h1,h2⟩:=h; ⟨j,s,k,by omega,h2⟩
theorem HV.up(h:HV i kvs):HV (i + 1) kvs:=⟨h.1,h.2.1,λkv hk=>(h.2.2 kv hk).up⟩
theorem ZhL.up(h:ZhL i rs):ZhL (i + 1) rs:=⟨h.1,by have:=h.2.1; omega,h.2.2⟩
theorem JX.up{n:J0}(h:JX i n):JX (i + 1) n:=⟨h.1.up,h.2.up⟩
def Zfx(i:Nat)(n:J0):Deed->Prop
 | .come z k=>(∃ (j:Fin 23) (s:Fin 4),(j:Nat)=i/\z=ZdE j s)/\k<=n.1.length/\n.2.length < 6
 | .go z=>(Ji n.2 (Sum.inr z)).isSome=true
 | .move z k=>(Ji n.2 (Sum.inr z)).isSome=true/\k<=n.1.length
 | .reprice j t=>j < n.1.length/\SzQ 98 t/\0<=t.num
 | .build to t=>to<=n.1.length/\SzQ 98 t/\0<=t.num
 | .cut j t=>∃ r,n.1[j]?=some r/\SzQ 98 t/\0<=t.num/\¬ r.2 < t/\SzQ 98 (r.2 - t)/\0<=(r.2 - t).num
def ZlK{k:Z7}{v:V}(h:Ji kvs k=some v):(k,v)∈kvs:=by
 unfold Ji at h
 obtain⟨kv,h1,rfl⟩:=YS.mp h
 have h2:=List.mem_of_find?_eq_some h1
 have h3:=List.find?_some h1
 have h4:kv.1=k:=by simpa using h3
 rw [<- h4]
 exact h2
def Zob(h:HV i kvs){j:Fin 23}(hj:(j:Nat)=i)(s:Fin 4):Ji kvs (Sum.inr (ZdE j s))=none:=by
 cases e:Ji kvs (Sum.inr (ZdE j s)) with
 | none=>rfl
 | some v =>
  obtain⟨j',s',k,h1,h2,_⟩:=h.2.2 _ (ZlK e)
  injection h2 with h2
  injection h2 with h2
  exact absurd h2 (Zrc j j' s s' (λz=>by rw [z] at hj; omega))
def Zdn(h:HV i kvs){z:Str}(hz:(Ji kvs (Sum.inr z)).isSome=true):(∃ (j:Fin 23) (s:Fin 4),(j:Nat) < i/\z=ZdE j s)/\JH z:=by
 obtain⟨v,hv⟩:=Option.isSome_iff_exists.mp hz
 obtain⟨j,s,k,h1,h2,_⟩:=h.2.2 _ (ZlK hv)
 injection h2 with h2
 injection h2 with h2
 exact⟨⟨j,s,h1,h2⟩,by rw [h2]; exact Zgk j s⟩
def ZhE{kvs:List (Z7 × V)}(h:(kvs.map (·.1)).Nodup)(k:Z7)(v:V):((JL kvs k v).map (·.1)).Nodup:=by
 unfold JL
 split
 ·rw [YQ]
  have:((λkv:Z7 × V=>kv.1) ∘ λkv=>if kv.1=k then (kv.1,v) else kv)=λkv=>kv.1:=by
   funext kv
   show (if kv.1=k then (kv.1,v) else kv).1=kv.1
   split <;> rfl
  rw [this]
  exact h
 ·rename_i c
  rw [List.map_append]
  refine List.nodup_append.mpr ⟨h,by simp,λx hx y hy=>?_⟩
  simp only [List.map_cons,List.map_nil,List.mem_singleton] at hy
  subst hy
  intro e
  subst e
  obtain⟨kv,h1,h2⟩:=Yo.mp hx
  exact c (List.any_eq_true.mpr ⟨kv,h1,by simpa using h2⟩)
def ZmG{k:Z7}{v:V}{kv:Z7 × V}(h:kv∈JL kvs k v):kv∈kvs\/kv=(k,v):=by
 unfold JL at h
 split at h
 ·obtain⟨kv',h1,rfl⟩:=Yo.mp h
  split
  ·rename_i c
   exact .inr (by rw [c])
  ·exact .inl h1
 ·rcases Yz.mp h with h | h
  ·exact .inl h
  ·exact .inr (Y0.mp h)
def Zqq{k:Z7}{v:V}(h:(Ji kvs k).isSome=true):(JL kvs k v).length=kvs.length:=by
 unfold JL
 rw [if_pos (by rw [Zer]; exact h)]
 simp
theorem Zmv{n:J0}{d:Deed}(hi:i < 23)(h:JX i n)(hd:Zfx i n d):JX (i + 1) (done d n):=by
 obtain⟨hR,hH⟩:=h
 obtain⟨hT,hl,hz⟩:=hR
 have hup:ZhL (i + 1) n.1:=ZhL.up ⟨hT,hl,hz⟩
 cases d with
 | come z k =>
  obtain⟨⟨j,s,hj,rfl⟩,hk,hlen⟩:=hd
  refine⟨hup,ZhE hH.1 _ _,Yj (Zc1 _ _ _) (by omega),λkv hkv=>?_⟩
  rcases ZmG hkv with h1 | rfl
  ·exact (hH.2.2 kv h1).up
  ·exact⟨j,s,k,by omega,rfl,by omega⟩
 | go z =>
  refine⟨hup,?_,Yj (Zjz _ _) hH.2.1,λkv hkv=>(hH.2.2 kv (Vr.mp hkv).1).up⟩
  exact (List.Sublist.map _ List.filter_sublist).nodup hH.1
 | move z k =>
  obtain⟨hv,hk⟩:=hd
  obtain⟨⟨j,s,hj,rfl⟩,_⟩:=Zdn hH hv
  refine⟨hup,ZhE hH.1 _ _,(by have e:=Zqq (v:=V.int (k:Int)) hv; exact Yj (Vh e) hH.2.1),λkv hkv=>?_⟩
  rcases ZmG hkv with h1 | rfl
  ·exact (hH.2.2 kv h1).up
  ·exact⟨j,s,k,by omega,rfl,by omega⟩
 | reprice j t =>
  obtain⟨hj,h1,h2⟩:=hd
  have e:=Yb hj
  refine⟨⟨Zh7 hT j t,?_,?_⟩,hH.up⟩
  ·show (Zmw n.1 j t).length<=_
   rw [Zge e,List.length_set]
   omega
  ·show ∀ r∈Zmw n.1 j t,_
   rw [Zge e]
   intro r hr
   rcases List.mem_or_eq_of_mem_set hr with h | rfl
   ·exact hz r h
   ·exact⟨h1,h2⟩
 | build to t =>
  obtain⟨hj,h1,h2⟩:=hd
  refine⟨⟨Ze2 hT hj t,by show (n.1 ++ [(to,t)]).length<=_; simp; omega,λr hr=>?_⟩,hH.up⟩
  rcases Yz.mp hr with h | h
  ·exact hz r h
  ·rw [Y0.mp h]; exact⟨h1,h2⟩
 | cut j t =>
  obtain⟨r,e,h1,h2,h3,h4,h5⟩:=hd
  refine⟨⟨ZiT hT e t,?_,?_⟩,hH.up⟩
  ·show (ZmU n.1 j t).length<=_
   rw [Zfb e,List.length_set]
   simp
   omega
  ·show ∀ r∈ZmU n.1 j t,_
   rw [Zfb e]
   intro u hu
   rcases List.mem_or_eq_of_mem_set hu with h | rfl
   ·rcases Yz.mp h with h | h
    ·exact hz u h
    ·rw [Y0.mp h]; exact⟨h1,h2⟩
   ·exact⟨h4,h5⟩
def ZfZ(H:Hp)(x:V):Deed->Prop
 | .come z k=>∃ p,x=.ref p/\H p=some (.tup [.str "come",.str z,.int (k:Int)])
 | .go z=>∃ p,x=.ref p/\H p=some (.tup [.str "go",.str z])
 | .move z k=>∃ p,x=.ref p/\H p=some (.tup [.str "move",.str z,.int (k:Int)])
 | .reprice j t=>∃ p y,x=.ref p/\H p=some (.tup [.str "price",.int ((j:Int) + 1),y])/\Jn H y t
 | .build to t=>∃ p y,x=.ref p/\H p=some (.tup [.str "build",.int (to:Int),y])/\Jn H y t
 | .cut j t=>∃ p y,x=.ref p/\H p=some (.tup [.str "cut",.int ((j:Int) + 1),y])/\Jn H y t
theorem ZfZ.keep{H H':Hp}{d:Deed}(h:ZfZ H x d)(s:∀ b ys,H b=some (.tup ys)->H' b=some (.tup ys)):ZfZ H' x d:=by
 cases d with
 | come z k=>obtain⟨p,e,h1⟩:=h; exact⟨p,e,s _ _ h1⟩
 | go z=>obtain⟨p,e,h1⟩:=h; exact⟨p,e,s _ _ h1⟩
 | move z k=>obtain⟨p,e,h1⟩:=h; exact⟨p,e,s _ _ h1⟩
 | reprice j t=>obtain⟨p,y,e,h1,h2⟩:=h; exact⟨p,y,e,s _ _ h1,h2.keep s⟩
 | build to t=>obtain⟨p,y,e,h1,h2⟩:=h; exact⟨p,y,e,s _ _ h1,h2.keep s⟩
 | cut j t=>obtain⟨p,y,e,h1,h2⟩:=h; exact⟨p,y,e,s _ _ h1,h2.keep s⟩
def ZbT{D:Ends}{σ:St}(h:D.nx σ H):Zf6 D σ H:=h
def Zdm{a b:Addr}(ha:H a=some (.lst xs))(hb:H b=some (.lst [])):EqD H (.ref a) (.ref b) (decide (xs.length=0)) 1:=by
 cases xs with
 | nil=>exact EqD.lst (e:=λ_=>true) (n:=0) ha hb rfl λj x y h1 h2=>by simp at h1
 | cons z ss=>exact EqD.lstNe (n:=0) ha hb (by simp)
def Zmi(h:HV i kvs):∃ ss:List Str,(kvs.map λkv=>kV kv.1)=ss.map V.str/\ss.length=kvs.length/\∀ z∈ss,(Ji kvs (Sum.inr z)).isSome=true:=by
 refine⟨kvs.map λkv=>(match kv.1 with | Sum.inr z=>z | Sum.inl _=>Str.empty),?_,by simp,λz hz=>?_⟩
 ·rw [YQ]
  refine Vt λkv hkv=>?_
  obtain⟨j,s,k,_,rfl,_⟩:=h.2.2 kv hkv
  rfl
 ·obtain⟨kv,hkv,rfl⟩:=Yo.mp hz
  obtain⟨j,s,k,_,rfl,_⟩:=h.2.2 kv hkv
  rw [<- Zer]
  exact List.any_eq_true.mpr ⟨_,hkv,by simp⟩
def Zqw(q:Rat):q - 0=q:=by
 first
  | (rw [Rat.sub_eq_add_neg,Rat.neg_zero,Rat.add_zero])
  | simp
  | (rw [Rat.sub_eq_add_neg]; simp)
def Zgx{e:Int}:q - Rat.divInt (q.num * e) ((q.den:Int) * 4)=Rat.divInt (q.num * (4 - e)) ((q.den:Int) * 4):=by
 have hd:=Zca q
 have h4:(q.den:Int) * 4 ≠ 0:=by omega
 have h1:q=Rat.divInt q.num q.den:=(Vn q).symm
 have h2:q - Rat.divInt (q.num * e) ((q.den:Int) * 4)=Rat.divInt q.num q.den - Rat.divInt (q.num * e) ((q.den:Int) * 4):=by rw [Vn]
 rw [h2,Rat.divInt_sub_divInt _ _ hd h4]
 have e1:q.num * ((q.den:Int) * 4) - q.num * e * (q.den:Int)=(q.den:Int) * (q.num * (4 - e)):=by
  rw [Int.mul_sub,Int.mul_sub]
  congr 1
  ·rw [Int.mul_left_comm]
  ·rw [Int.mul_comm]
 rw [e1,Rat.divInt_mul_left hd]
def ZfS{a b:Rat}(h:0<=(a - b).num):¬ a < b:=by
 have h1:0<=a - b:=Rat.num_nonneg.mp h
 have h2:b<=a:=(Rat.le_iff_sub_nonneg b a).mpr h1
 exact Rat.not_lt.mpr h2
def ZlY{e:Int}(hn:0<=q.num)(h1:q.num<=1000000000000000000)(h2:(q.den:Int)<=1000000000000000000)(e0:0<=e)(e4:e<=4):SzQ 98 (Rat.divInt (q.num * e) ((q.den:Int) * 4))/\0<=(Rat.divInt (q.num * e) ((q.den:Int) * 4)).num:=by
 have hd:=q.den_pos
 have hm:0<=q.num * e:=Int.mul_nonneg hn e0
 have hm2:q.num * e<=1000000000000000000 * 4:=Int.mul_le_mul h1 e4 e0 (by decide)
 exact⟨SzQ.of (by omega) (by omega) (by omega),num_nonneg hm (by omega)⟩
section
variable {P:Program}{w:World}{K:PySem.W.Frag}{mg:Str->Option Value}{base:Heap}{f:Addr}{fd:FuncData}{CT CNP CS:Addr}
def Zpx:Sp:=λvs H Q _=>∃ i:Nat,vs=[.int (i:Int)]/\i < 23/\∀ H',Zn H H'->Q (.str (Zkz.getD (i % 20) Str.empty)) H'
def ZsG(F:Fun K "_law_own_word" "_law_own_word" ZaN f fd):FnOk P w K mg base Zx 1 f fd ["_law_k"] Zpx:=by
 refine JA F ZbS λcdv A outer s H vs Q E hr h=>?_
 obtain⟨i,rfl,hi,q⟩:=h
 refine⟨_,(Zd (Zt 1 ZbS.nd (JK (Zm Zv (Zm Zv (Zm Zv (Zm Zv (Zm Zv (Zm Zv (Zm Zv (Zm Zv (Zm Zv (Zm Zv (Zm Zv (Zm Zv (Zm Zv Zc)))))))))))))))
   (Zd (Zt 1 ZbS.nd (Zqd (Zf 1) (JK (Zm Zv (Zm Zv (Zm Zv (Zm Zv (Zm Zv (Zm Zv (Zm Zv Zc))))))))))
   (Zk (Zr (ZE (Zf 1) (ZX (Zf 0) Zb)))))),?_⟩
 rw [show Zu ["_law_k","_law_some"] [.int (i:Int)]=[some (.int (i:Int)),none] from rfl]
 walk_at "rd"
 intro p H2 hp s2 e2 p1 H3 hp1 s3 e3
 refine⟨_,s3 _ _ e2,_,e3,by show (13:Nat) + 7<=sizeLine; decide,λp2 hp2=>⟨_,Zl,.str (Zkz.getD (i % 20) Str.empty),?_,q _ ((s2.trans s3).trans (ZS hp2 _))⟩⟩
 rw [show (i:Int) % 20=((i % 20:Nat):Int) by omega]
 refine Z5 (xs:=Zkz.map V.str) ?_
 have hl:i % 20 < Zkz.length:=Nat.mod_lt _ (by decide)
 rw [Yh,Yb hl,List.getD_eq_getElem?_getD,Yb hl]
 rfl
def ZjA:Sp:=λvs H Q _=>∃ (pv p d:Addr) (xs:List Int) (rx:List V) (n:J0) (i:Nat),vs=[.ref pv,.ref p,.ref d,.int (i:Int)]/\H pv=some (.lst (xs.map V.int))/\xs.length=5/\(∀ x∈xs,0<=x/\x < 99989)/\H p=some (.lst rx)/\ZR H rx n.1/\H d=some (.dK n.2)/\JX i n/\3<=i/\i < 23 /\
 ∀ x dd H',Zn H H'->ZfZ H' x dd->Zfx i n dd->Q x H'
def ZnS(F:Fun K "_law_row_by" "_law_row_by" Za9 f fd)(ZbC:mg "sorted"=none)(ZC:mg "len"=none)(ZgK:mg "max"=none)(ZaU:Fn P w K mg base Zx 2 "_law_low" ["_law_top","_law_bottom"] ZeI)(ZdK:Fn P w K mg base Zx 1 "_law_name" ["_law_k","_law_seed"] Zjq)(Zb3:Fn P w K mg base Zx 1 "_law_own_word" ["_law_k"] Zpx):FnOk P w K mg base Zx 3 f fd ["_law_v","_law_roads","_law_homes","_law_k"] ZjA:=by
 refine JA F Zaz λcdv A outer s H vs Q E hr h=>?_
 obtain⟨pv,p,d,xs,rx,n,i,rfl,hpv,hxl,hxb,hp,hR,hd,hN,hi3,hi,q⟩:=h
 have at_:∀ {j:Nat}(h:j < xs.length),atI (xs.map V.int) (j:Int)=some (.int xs[j]):=λ{j} h=>Z5 (by rw [Yh,Yb h]; rfl)
 have b0:=hxb xs[0] (Yy (by omega))
 have b1:=hxb xs[1] (Yy (by omega))
 have b2:=hxb xs[2] (Yy (by omega))
 have b3:=hxb xs[3] (Yy (by omega))
 have a0:=at_ (j:=0) (by omega)
 have a1:=at_ (j:=1) (by omega)
 have a2:=at_ (j:=2) (by omega)
 have a3:=at_ (j:=3) (by omega)
 refine⟨_,(Zd (Zt 4 Zaz.nd (Zmz rfl ZbC (Zm (Zf 2) Zc)))
   (Zd (Zt 5 Zaz.nd (ZX (ZE (Zf 0) Zb) Zb))
   (Zd (Zt 6 Zaz.nd (Jp ZaU hr (Zm (ZX (ZE (Zf 0) Zb) Zb) (Zm (Z4 Zb (ZX (Zdi (ZE (Zf 0) Zb) Zb) Zb)) Zc))))
   (Zd (ZN (t_w (J3 (t_w (Zka (Zrz (Zf 5) Zb) (ZfQ (Zrz (Zpn rfl ZC (Zm (Zf 2) Zc)) Zb)))) (JV (t_w (Zka (Zrz (Zf 5) Zb) (ZfQ (ZtP hr (Zf 4) (JK Zc)))))))) (Zd (Zt 7 Zaz.nd (Jp ZdK hr (Zm (ZX (Zf 3) Zb) (Zm (Z4 Zb (ZX (ZE (Zf 0) Zb) Zb)) Zc))))
   (Zd (ZN (Jq (ZX (Zdi (ZE (Zf 0) Zb) Zb) Zb) Zb) (Zk (Zt 7 Zaz.nd (Jp Zb3 hr (Zm (Zf 3) Zc)))) Zy)
   (Zk (Zr (Jo (Zm Zv (Zm (Zf 7) (Zm (ZX (ZE (Zf 0) Zb) (Z4 (JE rfl ZC (Zm (Zf 1) Zc)) Zb)) Zc)))))))) Zy)
   (Zd (ZN (Jq (Zf 5) Zb) (Zk (Zr (Jo (Zm Zv (Zm (ZE (Zf 4) (ZX (ZE (Zf 0) Zb) (JE rfl ZC (Zm (Zf 4) Zc)))) Zc))))) Zy)
   (Zd (ZN (t_w (J3 (Jq (Zf 5) Zb) (JV (Jq (Zf 5) Zb)))) (Zk (Zr (Jo (Zm Zv (Zm (ZE (Zf 4) (ZX (ZE (Zf 0) Zb) (JE rfl ZC (Zm (Zf 4) Zc)))) (Zm (ZX (ZE (Zf 0) Zb) (Z4 (JE rfl ZC (Zm (Zf 1) Zc)) Zb)) Zc)))))) Zy)
   (Zd (ZN (t_w (Zka (Jq (Zf 5) Zb) (ZfQ (Ztk hr (Zf 1) (JK Zc))))) (Zk (Zr (Jo (Zm Zv (Zm (Z4 Zb (ZX (ZE (Zf 0) Zb) (JE rfl ZC (Zm (Zf 1) Zc)))) (Zm (Zf 6) Zc)))))) Zy)
   (Zd (ZN (t_w (Zka (Jq (Zf 5) Zb) (ZfQ (Ztk hr (Zf 1) (JK Zc))))) (Zd (Zt 8 Zaz.nd (ZX (ZE (Zf 0) Zb) (JE rfl ZC (Zm (Zf 1) Zc))))
   (Zd (Zt 9 Zaz.nd (ZD (ZE (Zf 1) (Zf 8)) Zb))
   (Zd (ZN (Zse (ZqK rfl ZgK (Zm (ZD (Zf 9) Zb) (Zm (ZD (Zf 9) Zb) Zc))) (Ziz Zb Zb)) (Zk (Zr (Jo (Zm Zv (Zm (Z4 (Zf 8) Zb) (Zm (ZE (JK (Zm (Jo (Zm Zb (Zm Zb Zc))) (Zm (Zf 9) Zc))) (ZX (ZE (Zf 0) Zb) Zb)) Zc)))))) Zy)
   (Zk (Zr (Jo (Zm Zv (Zm (Z4 (Zf 8) Zb) (Zm (Jp ZaU hr (Zm (JW (ZD (Zf 9) Zb) (ZX (ZE (Zf 0) Zb) Zb)) (Zm (JW (ZD (Zf 9) Zb) Zb) Zc))) Zc))))))))) Zy)
   (Zk (Zr (Jo (Zm Zv (Zm (ZX (ZE (Zf 0) Zb) (Z4 (JE rfl ZC (Zm (Zf 1) Zc)) Zb)) (Zm (Zf 6) Zc)))))))))))))),?_⟩
 rw [show Zu ["_law_v","_law_roads","_law_homes","_law_k","_law_names","_law_way","_law_price","_law_name_here","_law_at","_law_whole"] [.ref pv,.ref p,.ref d,.int (i:Int)]=[some (.ref pv),some (.ref p),some (.ref d),some (.int (i:Int)),none,none,none,none,none,none] from rfl]
 obtain⟨⟨hT,hlr,hz⟩,hH⟩:=hN
 obtain⟨ss,ess,hsl,hkey⟩:=Zmi hH
 have hk6:=hH.2.1
 refine Zo λB hB=>?_
 walk_at "rd"
 refine⟨n.2,.inl hd,ss,ess,by omega,λl H1 ts hl s1 e1 _ hperm=>?_⟩
 have htl:ts.length=n.2.length:=by rw [hperm.length_eq,hsl]
 subst hB
 try dsimp only
 refine Zo λB hB=>?_
 walk_at "rd"
 refine⟨_,s1 _ _ hpv,_,a0,xs[0],rfl,?_⟩
 have w0:=Ys xs[0] (b:=9) (by decide)
 have w1:=Yu xs[0] (b:=9) (by decide)
 generalize xs[0] % 9=wy at w0 w1 ⊢
 subst hB
 try dsimp only
 refine Zo λB hB=>?_
 walk_at "rd"
 refine⟨_,s1 _ _ hpv,_,a2,xs[2],rfl,_,s1 _ _ hpv,_,a2,xs[2],rfl,?_⟩
 refine⟨_,_,rfl,Big.of (n:=10) (by omega) (by decide),by omega,λpr H2 s2 hpr=>?_⟩
 have zpr:SzQ 98 (Rat.divInt (xs[2] % 13) (1 + xs[2] / 13 % 6)):=(SzQ.of (n:=10) (by omega) (by omega) (by omega)).mono (by decide)
 have npr:0<=(Rat.divInt (xs[2] % 13) (1 + xs[2] / 13 % 6)).num:=num_nonneg (by omega) (by omega)
 generalize Rat.divInt (xs[2] % 13) (1 + xs[2] / 13 % 6)=tp at zpr npr hpr
 have s12:=s1.trans s2
 subst hB
 try dsimp only
 have e26:(i:Int) % 26=(i:Int):=by omega
 have hrl:=hR.1
 obtain⟨kN,ekN,hkN⟩:∃ kN:Nat,xs[1] % ((rx.length:Int) + 1)=(kN:Int)/\kN<=n.1.length:=by
  have m0:=Ys xs[1] (b:=(rx.length:Int) + 1) (by omega)
  have m1:=Yu xs[1] (b:=(rx.length:Int) + 1) (by omega)
  exact⟨(xs[1] % ((rx.length:Int) + 1)).toNat,by omega,by omega⟩
 refine Zo λB hB=>?_
 refine Js λA1 hA1 C1 hC1=>?_
 have kA:∀ H3,Zn H2 H3->n.2.length < 6->A1 [some (V.ref pv),some (V.ref p),some (V.ref d),some (V.int (i:Int)),some (V.ref l),some (V.int wy),some pr,none,none,none] H3:=by
  intro H3 s3 h6
  have s13:=s12.trans s3
  subst hA1
  try dsimp only
  refine Zo λB2 hB2=>?_
  walk_at "rd"
  refine⟨_,s13 _ _ hpv,_,a3,xs[3],rfl,_,_,rfl,by omega,by omega,by omega,by omega,?_⟩
  subst hB2
  try dsimp only
  refine Zo λB2 hB2=>?_
  have fin:∀ (sN:_root_.Fin 4) H4,Zn H3 H4->B2 [some (V.ref pv),some (V.ref p),some (V.ref d),some (V.int (i:Int)),some (V.ref l),some (V.int wy),some pr,some (V.str (ZdE ⟨i,hi⟩ sN)),none,none] H4:=by
   intro sN H4 s4
   have s14:=s13.trans s4
   subst hB2
   try dsimp only
   walk_at "rd"
   refine⟨_,s14 _ _ hpv,_,a1,_,.inl (s14 _ _ hp),xs[1],rfl,by omega,λt H5 ht s5 e5=>?_⟩
   rw [ekN] at e5
   exact q (.ref t) (.come _ kN) H5 (s14.trans s5) ⟨t,rfl,e5⟩ ⟨⟨⟨i,hi⟩,sN,rfl,rfl⟩,hkN,h6⟩
  refine Js λA7 hA7 C7 hC7=>?_
  walk_at "rd"
  refine⟨_,s13 _ _ hpv,_,a3,xs[3],rfl,?_⟩
  refine JF (λc=>?_) (λc=>?_)
  ·subst hA7
   try dsimp only
   walk_at "rd"
   refine⟨i,rfl,hi,λH4 s4=>?_⟩
   have:=fin ⟨3,by decide⟩ H4 s4
   rw [show ZdE ⟨i,hi⟩ ⟨3,by decide⟩=Zkz.getD (i % 20) Str.empty from if_pos ⟨rfl,hi3⟩] at this
   exact this
  ·subst hC7
   refine ZbT ?_
   have hm3:(xs[3] % 3).toNat < 3:=by omega
   have:=fin ⟨(xs[3] % 3).toNat,by omega⟩ H3 (λ_ _ e=>e)
   rw [show ZdE ⟨i,hi⟩ ⟨(xs[3] % 3).toNat,by omega⟩=Zn6 ((i:Int) % 26) (100 + xs[3] % 3) from by
    unfold ZdE
    rw [if_neg (λz=>by have:=z.1; simp at this; omega)]
    congr 1
    ·show ((i:Nat):Int)=_
     omega
    ·show (100:Int) + (((xs[3] % 3).toNat % 3:Nat):Int)=_
     omega] at this
   exact this
 have kC:∀ H3,Zn H2 H3->¬ (wy < 6/\n.2.length=0)->C1 [some (V.ref pv),some (V.ref p),some (V.ref d),some (V.int (i:Int)),some (V.ref l),some (V.int wy),some pr,none,none,none] H3:=by
  intro H3 s3 g1
  subst hC1
  refine ZbT ?_
  subst hB
  try dsimp only
  refine Zo λB hB=>?_
  refine Js λA3 hA3 C3 hC3=>?_
  have kC3:∀ H5,Zn H2 H5->¬ wy=3->C3 [some (V.ref pv),some (V.ref p),some (V.ref d),some (V.int (i:Int)),some (V.ref l),some (V.int wy),some pr,none,none,none] H5:=by
   intro H5 s5 g5
   subst hC3
   refine ZbT ?_
   subst hB
   try dsimp only
   refine Zo λB hB=>?_
   refine Js λA4 hA4 C4 hC4=>?_
   have kC4:∀ H6,Zn H2 H6->C4 [some (V.ref pv),some (V.ref p),some (V.ref d),some (V.int (i:Int)),some (V.ref l),some (V.int wy),some pr,none,none,none] H6:=by
    intro H6 s6
    subst hC4
    refine ZbT ?_
    subst hB
    try dsimp only
    refine Zo λB hB=>?_
    refine Js λA5 hA5 C5 hC5=>?_
    have kC5:∀ H7,Zn H2 H7->C5 [some (V.ref pv),some (V.ref p),some (V.ref d),some (V.int (i:Int)),some (V.ref l),some (V.int wy),some pr,none,none,none] H7:=by
     intro H7 s7
     subst hC5
     refine ZbT ?_
     subst hB
     try dsimp only
     refine Zo λB hB=>?_
     refine Js λA6 hA6 C6 hC6=>?_
     have kC6:∀ H8,Zn H2 H8->C6 [some (V.ref pv),some (V.ref p),some (V.ref d),some (V.int (i:Int)),some (V.ref l),some (V.int wy),some pr,none,none,none] H8:=by
      intro H8 s8
      have s18:=s12.trans s8
      subst hC6
      refine ZbT ?_
      subst hB
      try dsimp only
      walk_at "rd"
      refine⟨_,s18 _ _ hpv,_,a1,_,.inl (s18 _ _ hp),xs[1],rfl,by omega,λt H9 ht s9 e9=>?_⟩
      rw [ekN] at e9
      exact q (.ref t) (.build kN tp) H9 (s18.trans s9) ⟨t,pr,rfl,e9,(hpr.same s8).same s9⟩ ⟨hkN,zpr,npr⟩
     have kA6:∀ H8,Zn H2 H8->n.1.length ≠ 0->A6 [some (V.ref pv),some (V.ref p),some (V.ref d),some (V.int (i:Int)),some (V.ref l),some (V.int wy),some pr,none,none,none] H8:=by
      intro H8 s8 g8
      have s18:=s12.trans s8
      subst hA6
      try dsimp only
      refine Zo λB2 hB2=>?_
      walk_at "rd"
      obtain⟨jN,ejN,hjN⟩:∃ jN:Nat,xs[1] % (rx.length:Int)=(jN:Int)/\jN < n.1.length:=by
       have m0:=Ys xs[1] (b:=(rx.length:Int)) (by omega)
       have m1:=Yu xs[1] (b:=(rx.length:Int)) (by omega)
       exact⟨(xs[1] % (rx.length:Int)).toNat,by omega,by omega⟩
      refine⟨_,s18 _ _ hpv,_,a1,_,.inl (s18 _ _ hp),xs[1],rfl,by omega,?_⟩
      rw [ejN]
      have hrj:=Yb hjN
      have hxj:jN < rx.length:=by omega
      obtain⟨rp,ry,erx,hrp,hry⟩:=(hR.2 jN _ _ (Yb hxj) hrj).same s18
      obtain⟨zr,nr⟩:=hz _ (Yy hjN)
      generalize n.1[jN]=rr at hrj hrp hry zr nr
      obtain⟨yp,rfl,hyp⟩:=hry
      subst hB2
      try dsimp only
      refine Zo λB2 hB2=>?_
      walk_at "rd"
      refine⟨_,s18 _ _ hp,_,Z5 (Yb hxj),rp,erx,_,hrp,_,rfl,?_⟩
      subst hB2
      try dsimp only
      refine Zo λB2 hB2=>?_
      refine Js λA7 hA7 C7 hC7=>?_
      walk_at "rd"
      refine⟨_,hyp,_,rfl,_,hyp,_,rfl,_,rfl,_,rfl,?_⟩
      refine JF (λc=>?_) (λc=>?_)
      ·subst hA7
       try dsimp only
       walk_at "rd"
       intro z0 H9 hz0 s9 e9 z1 H10 hz1 s10 e10
       have s910:=s9.trans s10
       have s1a:=s18.trans s910
       have hyr:Jn H10 (.ref yp) rr.2:=⟨yp,rfl,s910 _ _ hyp⟩
       have hy0:Jn H10 (.ref z0) (0:Rat):=⟨z0,rfl,s10 _ _ e9⟩
       have z00:SzQ 98 (0:Rat):=⟨by decide,by decide⟩
       refine⟨_,s1a _ _ hpv,_,a2,xs[2],rfl,_,e10,?_⟩
       by_cases c2:xs[2] % 2=0
       ·rw [c2]
        refine⟨.ref z0,rfl,λt H11 ht s11 e11=>q (.ref t) (.cut jN 0) H11 (s1a.trans s11) ⟨t,_,rfl,e11,hy0.same s11⟩ ⟨rr,hrj,z00,by decide,?_,?_,?_⟩⟩
        ·exact ZfS (by rw [Zqw]; exact nr)
        ·rw [Zqw]; exact zr
        ·rw [Zqw]; exact nr
       ·have c3:xs[2] % 2=1:=by omega
        rw [c3]
        refine⟨.ref yp,rfl,λt H11 ht s11 e11=>q (.ref t) (.cut jN rr.2) H11 (s1a.trans s11) ⟨t,_,rfl,e11,hyr.same s11⟩ ⟨rr,hrj,zr,nr,?_,?_,?_⟩⟩
        ·exact ZfS (by rw [Rat.sub_self]; decide)
        ·rw [Rat.sub_self]; exact z00
        ·rw [Rat.sub_self]; decide
      ·subst hC7
       refine ZbT ?_
       subst hB2
       try dsimp only
       walk_at "rd"
       have m0:=Ys xs[2] (b:=5) (by decide)
       have m1:=Yu xs[2] (b:=5) (by decide)
       have hdp:=rr.2.den_pos
       have cm:rr.2.num<=1000000000000000000/\(rr.2.den:Int)<=1000000000000000000:=by
        split at c <;> omega
       refine⟨_,hyp,_,rfl,_,s18 _ _ hpv,_,a2,xs[2],rfl,_,rfl,.inr ⟨by omega,by omega⟩,_,hyp,_,rfl,_,rfl,?_⟩
       refine⟨_,_,rfl,Big.of (n:=98) (by omega) (by decide),by omega,λy9 H9 s9 hy9 t H10 ht s10 e10=>?_⟩
       have f1:=ZlY nr cm.1 cm.2 m0 (by omega)
       have f2:=ZlY (e:=4 - xs[2] % 5) nr cm.1 cm.2 (by omega) (by omega)
       refine q (.ref t) (.cut jN _) H10 (s18.trans (s9.trans s10)) ⟨t,y9,rfl,e10,hy9.same s10⟩ ⟨rr,hrj,f1.1,f1.2,?_,?_,?_⟩
       ·exact ZfS (by rw [Zgx]; exact f2.2)
       ·rw [Zgx]; exact f2.1
       ·rw [Zgx]; exact f2.2
     walk_at "rd"
     refine JF (λc=>?_) (λc=>kC6 _ s7)
     intro p1 H8 hp1 s8 e8
     have s28:=s7.trans s8
     refine⟨_,1,p,p1,rfl,rfl,Zdm ((s12.trans s28) _ _ hp) e8,by decide,_,rfl,?_⟩
     rw [hR.1]
     exact JF (λc2=>kA6 _ s28 (by simpa using c2)) (λc2=>kC6 _ s28)
    have kA5:∀ H7,Zn H2 H7->n.1.length ≠ 0->A5 [some (V.ref pv),some (V.ref p),some (V.ref d),some (V.int (i:Int)),some (V.ref l),some (V.int wy),some pr,none,none,none] H7:=by
     intro H7 s7 g7
     have s17:=s12.trans s7
     subst hA5
     try dsimp only
     walk_at "rd"
     obtain⟨jN,ejN,hjN⟩:∃ jN:Nat,xs[1] % (rx.length:Int)=(jN:Int)/\jN < n.1.length:=by
      have m0:=Ys xs[1] (b:=(rx.length:Int)) (by omega)
      have m1:=Yu xs[1] (b:=(rx.length:Int)) (by omega)
      exact⟨(xs[1] % (rx.length:Int)).toNat,by omega,by omega⟩
     refine⟨_,s17 _ _ hpv,_,a1,_,.inl (s17 _ _ hp),xs[1],rfl,by omega,λt H8 ht s8 e8=>?_⟩
     rw [ejN,Int.add_comm] at e8
     exact q (.ref t) (.reprice jN tp) H8 (s17.trans s8) ⟨t,pr,rfl,e8,(hpr.same s7).same s8⟩ ⟨hjN,zpr,npr⟩
    walk_at "rd"
    refine JF (λc=>?_) (λc=>kC5 _ s6)
    intro p1 H7 hp1 s7 e7
    have s27:=s6.trans s7
    refine⟨_,1,p,p1,rfl,rfl,Zdm ((s12.trans s27) _ _ hp) e7,by decide,_,rfl,?_⟩
    rw [hR.1]
    exact JF (λc2=>kA5 _ s27 (by simpa using c2)) (λc2=>kC5 _ s27)
   have kA4:∀ H6,Zn H2 H6->n.2.length ≠ 0->A4 [some (V.ref pv),some (V.ref p),some (V.ref d),some (V.int (i:Int)),some (V.ref l),some (V.int wy),some pr,none,none,none] H6:=by
    intro H6 s6 g6
    have s16:=s12.trans s6
    have e16:=(s2.trans s6) _ _ e1
    subst hA4
    try dsimp only
    walk_at "rd"
    obtain⟨jN,ejN,hjN⟩:∃ jN:Nat,xs[1] % (ts.length:Int)=(jN:Int)/\jN < ts.length:=by
     have m0:=Ys xs[1] (b:=(ts.length:Int)) (by omega)
     have m1:=Yu xs[1] (b:=(ts.length:Int)) (by omega)
     exact⟨(xs[1] % (ts.length:Int)).toNat,by omega,by omega⟩
    obtain⟨mN,emN,hmN⟩:∃ mN:Nat,xs[3] % ((rx.length:Int) + 1)=(mN:Int)/\mN<=n.1.length:=by
     have m0:=Ys xs[3] (b:=(rx.length:Int) + 1) (by omega)
     have m1:=Yu xs[3] (b:=(rx.length:Int) + 1) (by omega)
     exact⟨(xs[3] % ((rx.length:Int) + 1)).toNat,by omega,by omega⟩
    have hat:atI (ts.map V.str) (xs[1] % (ts.length:Int))=some (.str ts[jN]):=by rw [ejN]; exact Z5 (by rw [Yh,Yb hjN]; rfl)
    refine⟨_,s16 _ _ hpv,_,a1,_,.inl e16,xs[1],rfl,by rw [Yg]; omega,_,e16,_,by rw [Yg]; exact hat,_,s16 _ _ hpv,_,a3,_,.inl (s16 _ _ hp),xs[3],rfl,by omega,λt H7 ht s7 e7=>?_⟩
    rw [emN] at e7
    exact q (.ref t) (.move ts[jN] mN) H7 (s16.trans s7) ⟨t,rfl,e7⟩ ⟨hkey _ (hperm.mem_iff.mp (Yy hjN)),hmN⟩
   walk_at "rd"
   refine JF (λc=>kA4 _ s5 (λz=>g1 ⟨by omega,z⟩)) (λc=>?_)
   exact JF (λc2=>kA4 _ s5 (λz=>g1 ⟨by omega,z⟩)) (λc2=>kC4 _ s5)
  have kA3:∀ H5,Zn H2 H5->n.2.length ≠ 0->A3 [some (V.ref pv),some (V.ref p),some (V.ref d),some (V.int (i:Int)),some (V.ref l),some (V.int wy),some pr,none,none,none] H5:=by
   intro H5 s5 g5
   have s15:=s12.trans s5
   have e15:=(s2.trans s5) _ _ e1
   subst hA3
   try dsimp only
   walk_at "rd"
   obtain⟨jN,ejN,hjN⟩:∃ jN:Nat,xs[1] % (ts.length:Int)=(jN:Int)/\jN < ts.length:=by
    have m0:=Ys xs[1] (b:=(ts.length:Int)) (by omega)
    have m1:=Yu xs[1] (b:=(ts.length:Int)) (by omega)
    exact⟨(xs[1] % (ts.length:Int)).toNat,by omega,by omega⟩
   have hat:atI (ts.map V.str) (xs[1] % (ts.length:Int))=some (.str ts[jN]):=by rw [ejN]; exact Z5 (by rw [Yh,Yb hjN]; rfl)
   refine⟨_,s15 _ _ hpv,_,a1,_,.inl e15,xs[1],rfl,by rw [Yg]; omega,_,e15,_,by rw [Yg]; exact hat,λt H7 ht s7 e7=>?_⟩
   exact q (.ref t) (.go ts[jN]) H7 (s15.trans s7) ⟨t,rfl,e7⟩ (hkey _ (hperm.mem_iff.mp (Yy hjN)))
  walk_at "rd"
  exact JF (λc=>kA3 _ s3 (λz=>g1 ⟨by omega,z⟩)) (λc=>kC3 _ s3 c)
 walk_at "rd"
 have kE:(if wy < 6 then ∀ (p_1:Addr) (H2_1:Hp),H2 p_1=none->Zn H2 H2_1->H2_1 p_1=some (HO.lst [])->Ztp (V.ref l) (V.ref p_1) H2_1 λx H'=>∃ k,x=V.bl k/\if k=true then A1 [some (V.ref pv),some (V.ref p),some (V.ref d),some (V.int (i:Int)),some (V.ref l),some (V.int wy),some pr,none,none,none] H' else C1 [some (V.ref pv),some (V.ref p),some (V.ref d),some (V.int (i:Int)),some (V.ref l),some (V.int wy),some pr,none,none,none] H' else C1 [some (V.ref pv),some (V.ref p),some (V.ref d),some (V.int (i:Int)),some (V.ref l),some (V.int wy),some pr,none,none,none] H2):=by
  refine JF (λc=>?_) (λc=>kC _ (λ_ _ e=>e) (λz=>c z.1))
  intro p1 H4 hp1 s4 e4
  refine⟨_,1,l,p1,rfl,rfl,Zdm ((s2.trans s4) _ _ e1) e4,by decide,_,rfl,?_⟩
  rw [Yg,htl]
  refine JF (λc2=>?_) (λc2=>kC _ s4 (λz=>c2 (Yt z.2)))
  have c3:=of_decide_eq_true c2
  exact kA _ s4 (by omega)
 refine JF (λc=>?_) (λc=>kE)
 refine⟨n.2,.inl (s12 _ _ hd),JF (λc2=>kA _ (λ_ _ e=>e) (by omega)) (λc2=>kE)⟩
end
section
variable {w w0 v0:Str}{body Jf:TS}{D:Ends}{σ:St}{H:Hp}{pt:Addr}{r:List V}{j:Nat}
def ZtI{Q:Bool->Hp->Prop}(h0:σ[j]?=some (some (.ref pt)))(ht:H pt=some (.tup (.str w0 :: r)))(q:Q (decide (w0=w)) H):Jt (JQ rEq (JQ ZdI (J2 j) (tC (V.int 0))) (tC (V.str w))) σ H Q:=by
 refine⟨_,h0,pt,_,0,.str w0,rfl,rfl,ht,(by show atI _ ((0:Nat):Int)=_; exact Z5 rfl),rfl,decide (w0=w),?_,q⟩
 show V.bl (decide (V.str w0=V.str w))=_
 by_cases c:w0=w
 ·rw [c,Yt rfl,Yt rfl]
 ·rw [Yp c,Yp (λz=>c (by injection z))]
def Z8(h0:σ[j]?=some (some (.ref pt)))(ht:H pt=some (.tup (.str w0 :: r)))(hne:w0 ≠ w)(h:Jf D σ H):Znk (ZnI (Jt (JQ rEq (JQ ZdI (J2 j) (tC (V.int 0))) (tC (V.str w)))) body Zf6) Jf D σ H:=by
 refine Zo λB hB=>Js λA hA C hC=>ZtI h0 ht ?_
 rw [Yp hne,if_neg (by decide),hC,hB]
 exact h
def ZgR(h0:σ[j]?=some (some (.ref pt)))(ht:H pt=some (.tup (.str w0 :: r)))(he:w0=w)(h:∀ B:St->Hp->Prop,B=Jf D->body { D with nx:=B } σ H):Znk (ZnI (Jt (JQ rEq (JQ ZdI (J2 j) (tC (V.int 0))) (tC (V.str w)))) body Zf6) Jf D σ H:=by
 refine Zo λB hB=>Js λA hA C hC=>ZtI h0 ht ?_
 rw [Yt he,if_pos rfl,hA]
 exact h B hB
def Zqm{Q:Bool->Hp->Prop}(h0:σ[j]?=some (some (.ref pt)))(ht:H pt=some (.tup (.str w0 :: r)))(q:Q (decide (w0=w\/w0=v0)) H):tOr (Jt (JQ rEq (JQ ZdI (J2 j) (tC (V.int 0))) (tC (V.str w)))) (Jt (JQ rEq (JQ ZdI (J2 j) (tC (V.int 0))) (tC (V.str v0)))) σ H Q:=by
 refine ZtI (Q:=λk H'=>if k=true then Q true H' else Jt (JQ rEq (JQ ZdI (J2 j) (tC (V.int 0))) (tC (V.str v0))) σ H' Q) h0 ht ?_
 by_cases c:w0=w
 ·rw [Yt (.inl c)] at q
  rw [Yt c,if_pos rfl]
  exact q
 ·rw [Yp c,if_neg (by decide)]
  refine ZtI h0 ht ?_
  by_cases c2:w0=v0
  ·rw [Yt (.inr c2)] at q
   rw [Yt c2]
   exact q
  ·rw [Yp (λz=>z.elim c c2)] at q
   rw [Yp c2]
   exact q
def Zeu(h0:σ[j]?=some (some (.ref pt)))(ht:H pt=some (.tup (.str w0 :: r)))(hne:¬ (w0=w\/w0=v0))(h:Jf D σ H):Znk (ZnI (tOr (Jt (JQ rEq (JQ ZdI (J2 j) (tC (V.int 0))) (tC (V.str w)))) (Jt (JQ rEq (JQ ZdI (J2 j) (tC (V.int 0))) (tC (V.str v0))))) body Zf6) Jf D σ H:=by
 refine Zo λB hB=>Js λA hA C hC=>Zqm h0 ht ?_
 rw [Yp hne,if_neg (by decide),hC,hB]
 exact h
def ZjE(h0:σ[j]?=some (some (.ref pt)))(ht:H pt=some (.tup (.str w0 :: r)))(he:w0=w\/w0=v0)(h:∀ B:St->Hp->Prop,B=Jf D->body { D with nx:=B } σ H):Znk (ZnI (tOr (Jt (JQ rEq (JQ ZdI (J2 j) (tC (V.int 0))) (tC (V.str w)))) (Jt (JQ rEq (JQ ZdI (J2 j) (tC (V.int 0))) (tC (V.str v0))))) body Zf6) Jf D σ H:=by
 refine Zo λB hB=>Js λA hA C hC=>Zqm h0 ht ?_
 rw [Yt he,if_pos rfl,hA]
 exact h B hB
end
section
variable {P:Program}{w:World}{K:PySem.W.Frag}{mg:Str->Option Value}{base:Heap}{f:Addr}{fd:FuncData}{CT CNP CS:Addr}
def ZlC:Sp:=λvs H Q _=>∃ (x:V) (p d:Addr) (rx:List V) (dd:Deed) (n:J0) (i:Nat),vs=[x,.ref p,.ref d]/\ZfZ H x dd/\H p=some (.lst rx)/\ZR H rx n.1/\H d=some (.dK n.2)/\JX i n/\i < 23/\Zfx i n dd /\
 ∀ t p' d' rx' H',H t=none->H p'=none->H d'=none->Zn H H'->H' t=some (.tup [.ref p',.ref d'])->H' p'=some (.lst rx')->ZR H' rx' (done dd n).1->H' d'=some (.dK (done dd n).2)->Q (.ref t) H'
def Zqe(F:Fun K "_law_done" "_law_done" ZbL f fd)(JJ:mg "list"=none)(Zcv:mg "dict"=none)(ZC:mg "len"=none)(ZaU:Fn P w K mg base Zx 2 "_law_low" ["_law_top","_law_bottom"] ZeI):FnOk P w K mg base Zx 3 f fd ["_law_deed","_law_roads","_law_homes"] ZlC:=by
 refine JA F Za4 λcdv A outer s H vs Q E hr h=>?_
 obtain⟨x,p,d,rx,dd,n,i,rfl,hx,hp,hR,hd,hN,hi,hO,q⟩:=h
 refine⟨_,(Zd (Zt 1 Za4.nd (Zjs rfl JJ (Zm (Zf 1) Zc)))
   (Zd (Zt 2 Za4.nd (Zgv rfl Zcv (Zm (Zf 2) Zc)))
   (Zd (ZN (t_w (J3 (Jq (ZD (Zf 0) Zb) Zv) (JV (Jq (ZD (Zf 0) Zb) Zv)))) (Zk (Zo5 (Zl3 hr) (Zf 2) (ZD (Zf 0) Zb) (ZD (Zf 0) Zb))) Zy)
   (Zd (ZN (Jq (ZD (Zf 0) Zb) Zv) (Zk (ZL (Zo8 (Zf 2) (ZD (Zf 0) Zb)))) Zy)
   (Zd (ZN (Jq (ZD (Zf 0) Zb) Zv) (Zk (Zky (Jo (Zm (ZD (ZE (Zf 1) (JS (ZD (Zf 0) Zb) Zb)) Zb) (Zm (ZD (Zf 0) Zb) Zc))) (ZmY (Zf 1) (JS (ZD (Zf 0) Zb) Zb)))) Zy)
   (Zd (ZN (Jq (ZD (Zf 0) Zb) Zv) (Zk (ZL (Zgf (Zf 1) (Zm (Jo (Zm (ZD (Zf 0) Zb) (Zm (ZD (Zf 0) Zb) Zc))) Zc)))) Zy)
   (Zd (ZN (Jq (ZD (Zf 0) Zb) Zv) (Zd (Zky (ZE (Zf 1) (JS (ZD (Zf 0) Zb) Zb)) (ZlW (n:=2) (Zb5 (Z3 3 Za4.nd) (Zb5 (Z3 4 Za4.nd) ZgT))))
   (Zd (Zt 5 Za4.nd (ZD (Zf 0) Zb))
   (Zd (Zt 6 Za4.nd (Jp ZaU hr (Zm (JS (Zdo (ZD (Zf 4) Zb) (ZD (Zf 5) Zb)) (Zdo (ZD (Zf 5) Zb) (ZD (Zf 4) Zb))) (Zm (Zdo (ZD (Zf 4) Zb) (ZD (Zf 5) Zb)) Zc))))
   (Zd (Zky (Jo (Zm (Z4 (JE rfl ZC (Zm (Zf 1) Zc)) Zb) (Zm (Zf 6) Zc))) (ZmY (Zf 1) (JS (ZD (Zf 0) Zb) Zb)))
   (Zk (ZL (Zgf (Zf 1) (Zm (Jo (Zm (Zf 3) (Zm (Zf 5) Zc))) Zc)))))))) Zy)
   (Zk (Zr (Jo (Zm (Zf 1) (Zm (Zf 2) Zc)))))))))))),?_⟩
 rw [show Zu ["_law_deed","_law_roads","_law_homes","_law_to","_law_whole","_law_part","_law_rest"] [x,.ref p,.ref d]=[some (x),some (.ref p),some (.ref d),none,none,none,none] from rfl]
 refine Zo λB hB=>?_
 walk_at "rd"
 simp only [ZjV]
 walk_at "rd"
 refine⟨rx,.inl (.of hp),λp1 H1 hp1 s1 e1=>?_⟩
 subst hB
 try dsimp only
 refine Zo λB hB=>?_
 walk_at "rd"
 simp only [ZfM]
 walk_at "rd"
 refine⟨n.2,.inl (s1 _ _ hd),λd1 H2 hd1 s2 e2=>?_⟩
 have s12:=s1.trans s2
 have e12:=s2 _ _ e1
 have hR2:=hR.same s12
 have hx2:ZfZ H2 x dd:=hx.keep λb ys e=>s12 _ _ e
 have hd0:H d1=none:=s1.free hd1
 have npd:p1 ≠ d1:=Ze e1 hd1
 subst hB
 try dsimp only
 have nd:∀ {c:Addr}{o:HO},H c=some o->c ≠ d1:=λe=>Ze e hd0
 have np:∀ {c:Addr}{o:HO},H c=some o->c ≠ p1:=λe=>Ze e hp1
 have fin:∀ H3 rx',Zn H H3->H3 p1=some (.lst rx')->ZR H3 rx' (done dd n).1->H3 d1=some (.dK (done dd n).2)->∀ t H4,H3 t=none->Zn H3 H4->H4 t=some (.tup [.ref p1,.ref d1])->Q (.ref t) H4:=λH3 rx' s3 g1 g2 g3 t H4 ht s4 e4 =>
  q t p1 d1 rx' H4 (s3.free ht) hp1 hd0 (s3.trans s4) e4 (s4 _ _ g1) (g2.same s4) (s4 _ _ g3)
 have hkl:=hN.2.2.1
 have hrl:=hR.1
 cases dd with
 | come z k =>
  obtain⟨pt,rfl,ht⟩:=hx2
  refine ZjE rfl ht (.inl rfl) λB hB=>?_
  walk_at "rd"
  refine⟨_,ht,_,rfl,_,ht,_,rfl,n.2,e2,Sum.inr z,rfl,by omega,?_⟩
  subst hB
  try dsimp only
  have S3:Zn H (upd H2 d1 (.dK (JL n.2 (Sum.inr z) (.int (k:Int))))):=ZW hd0 s12
  have ht':upd H2 d1 (.dK (JL n.2 (Sum.inr z) (.int (k:Int)))) pt=some (.tup [.str "come",.str z,.int (k:Int)]):=by rw [Zj (JD ht e2 (by intro z; cases z))]; exact ht
  refine Z8 rfl ht' (by decide +kernel) (Z8 rfl ht' (by decide +kernel) (Z8 rfl ht' (by decide +kernel) (Z8 rfl ht' (by decide +kernel) ?_)))
  walk_at "rd"
  exact fin _ rx S3 (by rw [Zj npd]; exact e12) (hR.same S3) Zl
 | go z =>
  obtain⟨pt,rfl,ht⟩:=hx2
  refine Zeu rfl ht (by decide +kernel) (ZgR rfl ht rfl λB hB=>?_)
  obtain⟨v,ev⟩:=Option.isSome_iff_exists.mp hO
  walk_at "rd"
  refine⟨.inl ⟨n.2,.inl e2⟩,_,ht,_,rfl,n.2,e2,Sum.inr z,rfl,⟨v,ev⟩,?_⟩
  subst hB
  try dsimp only
  have S3:Zn H (upd H2 d1 (.dK (Zfm n.2 (Sum.inr z)))):=ZW hd0 s12
  have ht':upd H2 d1 (.dK (Zfm n.2 (Sum.inr z))) pt=some (.tup [.str "go",.str z]):=by rw [Zj (JD ht e2 (by intro z; cases z))]; exact ht
  refine Z8 rfl ht' (by decide +kernel) (Z8 rfl ht' (by decide +kernel) (Z8 rfl ht' (by decide +kernel) ?_))
  walk_at "rd"
  exact fin _ rx S3 (by rw [Zj npd]; exact e12) (hR.same S3) Zl
 | move z k =>
  obtain⟨pt,rfl,ht⟩:=hx2
  refine ZjE rfl ht (.inr rfl) λB hB=>?_
  walk_at "rd"
  refine⟨_,ht,_,rfl,_,ht,_,rfl,n.2,e2,Sum.inr z,rfl,by omega,?_⟩
  subst hB
  try dsimp only
  have S3:Zn H (upd H2 d1 (.dK (JL n.2 (Sum.inr z) (.int (k:Int))))):=ZW hd0 s12
  have ht':upd H2 d1 (.dK (JL n.2 (Sum.inr z) (.int (k:Int)))) pt=some (.tup [.str "move",.str z,.int (k:Int)]):=by rw [Zj (JD ht e2 (by intro z; cases z))]; exact ht
  refine Z8 rfl ht' (by decide +kernel) (Z8 rfl ht' (by decide +kernel) (Z8 rfl ht' (by decide +kernel) (Z8 rfl ht' (by decide +kernel) ?_)))
  walk_at "rd"
  exact fin _ rx S3 (by rw [Zj npd]; exact e12) (hR.same S3) Zl
 | reprice j t =>
  obtain⟨pt,y,rfl,ht,hy⟩:=hx2
  refine Zeu rfl ht (by decide +kernel) (Z8 rfl ht (by decide +kernel) (ZgR rfl ht rfl λB hB=>?_))
  obtain⟨hj,_,_⟩:=hO
  have hrj:=Yb hj
  have hxj:j < rx.length:=by omega
  obtain⟨rp,ry,erx,hrp,hry⟩:=hR2.2 j _ _ (Yb hxj) hrj
  have hat:atI rx ((j:Int) + 1 - 1)=some (.ref rp):=by
   rw [show (j:Int) + 1 - 1=(j:Int) by omega,<- erx]
   exact Z5 (Yb hxj)
  walk_at "rd"
  refine⟨_,ht,_,rfl,_,rfl,_,e12,_,hat,rp,rfl,_,hrp,_,rfl,_,ht,_,rfl,λt5 H5 ht5 s5 e5=>?_⟩
  refine⟨_,s5 _ _ ht,_,rfl,_,rfl,_,s5 _ _ e12,j,?_,?_⟩
  ·rw [show (j:Int) + 1 - 1=(j:Int) by omega]
   exact Zi7 hxj
  subst hB
  try dsimp only
  have s15:=s12.trans s5
  have e15:=s5 _ _ e12
  have S3:Zn H (upd H5 p1 (.lst (rx.set j (.ref t5)))):=ZW hp1 s15
  have nt:∀ b ys,H5 b=some (.tup ys)->upd H5 p1 (.lst (rx.set j (.ref t5))) b=some (.tup ys):=λb ys e=>by rw [Zj (JD e e15 (by intro z; cases z))]; exact e
  refine Z8 rfl (nt _ _ (s5 _ _ ht)) (by decide +kernel) (Z8 rfl (nt _ _ (s5 _ _ ht)) (by decide +kernel) ?_)
  walk_at "rd"
  refine fin _ (rx.set j (.ref t5)) S3 Zl ?_ (by rw [Zj (Ne.symm npd)]; exact s5 _ _ e2)
  show ZR _ _ (Zmw n.1 j t)
  rw [Zge hrj]
  exact ((hR2.same s5).keep nt).set (Jm.keep ⟨t5,y,rfl,e5,hy.same s5⟩ nt)
 | build to t =>
  obtain⟨pt,y,rfl,ht,hy⟩:=hx2
  refine Zeu rfl ht (by decide +kernel) (Z8 rfl ht (by decide +kernel) (Z8 rfl ht (by decide +kernel) (ZgR rfl ht rfl λB hB=>?_)))
  walk_at "rd"
  refine⟨⟨_,e12⟩,_,ht,_,rfl,_,ht,_,rfl,λt5 H5 ht5 s5 e5=>⟨_,s5 _ _ e12,by rw [hrl]; have:=hN.1.2.1; omega,?_⟩⟩
  subst hB
  try dsimp only
  have s15:=s12.trans s5
  have e15:=s5 _ _ e12
  have S3:Zn H (upd H5 p1 (.lst (rx ++ [.ref t5]))):=ZW hp1 s15
  have nt:∀ b ys,H5 b=some (.tup ys)->upd H5 p1 (.lst (rx ++ [.ref t5])) b=some (.tup ys):=λb ys e=>by rw [Zj (JD e e15 (by intro z; cases z))]; exact e
  refine Z8 rfl (nt _ _ (s5 _ _ ht)) (by decide +kernel) ?_
  walk_at "rd"
  refine fin _ (rx ++ [.ref t5]) S3 Zl ?_ (by rw [Zj (Ne.symm npd)]; exact s5 _ _ e2)
  exact ((hR2.same s5).keep nt).snoc (Jm.keep ⟨t5,y,rfl,e5,hy.same s5⟩ nt)
 | cut j t =>
  obtain⟨pt,y,rfl,ht,hy⟩:=hx2
  obtain⟨r,hrj,z1,_,_,_,_⟩:=hO
  refine Zeu rfl ht (by decide +kernel) (Z8 rfl ht (by decide +kernel) (Z8 rfl ht (by decide +kernel) (Z8 rfl ht (by decide +kernel) (ZgR rfl ht rfl λB hB=>?_))))
  have hj:=(Yf.mp hrj).1
  have hxj:j < rx.length:=by omega
  obtain⟨rp,ry,erx,hrp,hry⟩:=hR2.2 j _ _ (Yb hxj) hrj
  have hat:atI rx ((j:Int) + 1 - 1)=some (.ref rp):=by
   rw [show (j:Int) + 1 - 1=(j:Int) by omega,<- erx]
   exact Z5 (Yb hxj)
  refine Zo λB2 hB2=>?_
  walk_at "rd"
  refine⟨_,ht,_,rfl,_,rfl,_,e12,_,hat,rp,rfl,_,hrp,rfl,_,_,rfl,_,_,rfl,rfl,?_⟩
  subst hB2
  try dsimp only
  refine Zo λB2 hB2=>?_
  walk_at "rd"
  refine⟨_,ht,_,rfl,?_⟩
  obtain⟨wp,rfl,hwp⟩:=hry
  obtain⟨yp,rfl,hyp⟩:=hy
  have zr:=(hN.1.2.2 r (Yx hrj)).1
  subst hB2
  try dsimp only
  refine Zo λB2 hB2=>?_
  walk_at "rd"
  refine⟨_,hwp,_,rfl,_,hyp,_,rfl,_,rfl,_,rfl,?_⟩
  have hdd:0 < (r.2.den:Int) * (t.den:Int):=Int.mul_pos (by have:=r.2.den_pos; omega) (by have:=t.den_pos; omega)
  refine⟨Zhs zr.1 (ZbZ z1) (by decide),_,hyp,_,rfl,_,hwp,_,rfl,_,rfl,_,rfl,Zhs z1.1 (ZbZ zr) (by decide),_,hwp,_,rfl,_,hyp,_,rfl,_,rfl,_,rfl,Zhs (ZbZ zr) (ZbZ z1) (by decide),?_⟩
  refine⟨_,_,rfl,Big.of (ZfO (ZbZ zr) (ZbZ z1)) (by decide),hdd,λrv H5 s5 hrv=>?_⟩
  rw [<- ZfL] at hrv
  subst hB2
  try dsimp only
  refine Zo λB2 hB2=>?_
  walk_at "rd"
  refine⟨_,.inl (s5 _ _ e12),λt6 H6 ht6 s6 e6=>⟨_,(s5.trans s6) _ _ ht,_,rfl,_,rfl,_,(s5.trans s6) _ _ e12,j,?_,?_⟩⟩
  ·rw [show (j:Int) + 1 - 1=(j:Int) by omega]
   exact Zi7 hxj
  have s26:=s5.trans s6
  have e16:=s26 _ _ e12
  have nt:∀ b ys,H6 b=some (.tup ys)->upd H6 p1 (.lst (rx.set j (.ref t6))) b=some (.tup ys):=λb ys e=>by rw [Zj (JD e e16 (by intro z; cases z))]; exact e
  have S3:Zn H (upd H6 p1 (.lst (rx.set j (.ref t6)))):=ZW hp1 (s12.trans s26)
  have hRs:ZR (upd H6 p1 (.lst (rx.set j (.ref t6)))) (rx.set j (.ref t6)) (n.1.set j (n.1.length + 1,r.2 - t)):=((hR2.same s26).keep nt).set (Jm.keep ⟨t6,rv,rfl,by rw [e6,hrl]; rfl,hrv.same s6⟩ nt)
  have hyq:Jn (upd H6 p1 (.lst (rx.set j (.ref t6)))) (.ref yp) t:=⟨yp,rfl,nt _ _ (s26 _ _ hyp)⟩
  have htq:=nt _ _ (s26 _ _ ht)
  have hdq:upd H6 p1 (.lst (rx.set j (.ref t6))) d1=some (.dK n.2):=by rw [Zj (Ne.symm npd)]; exact s26 _ _ e2
  have e17:upd H6 p1 (.lst (rx.set j (.ref t6))) p1=some (.lst (rx.set j (.ref t6))):=Zl
  generalize upd H6 p1 (.lst (rx.set j (.ref t6)))=H7 at S3 hRs hyq htq hdq e17 ⊢
  subst hB2
  try dsimp only
  walk_at "rd"
  refine⟨⟨_,e17⟩,λt8 H8 ht8 s8 e8=>⟨_,s8 _ _ e17,by rw [List.length_set,hrl]; have:=hN.1.2.1; omega,?_⟩⟩
  subst hB
  try dsimp only
  have e18:=s8 _ _ e17
  have S4:Zn H (upd H8 p1 (.lst (rx.set j (.ref t6) ++ [.ref t8]))):=ZW hp1 (S3.trans s8)
  have nt2:∀ b ys,H8 b=some (.tup ys)->upd H8 p1 (.lst (rx.set j (.ref t6) ++ [.ref t8])) b=some (.tup ys):=λb ys e=>by rw [Zj (JD e e18 (by intro z; cases z))]; exact e
  walk_at "rd"
  refine fin _ (rx.set j (.ref t6) ++ [.ref t8]) S4 Zl ?_ (by rw [Zj (Ne.symm npd)]; exact s8 _ _ hdq)
  show ZR _ _ (ZmU n.1 j t)
  rw [Zfb hrj,List.set_append_left _ _ hj]
  exact ((hRs.same s8).keep nt2).snoc (Jm.keep ⟨t8,_,rfl,e8,hyq.same s8⟩ nt2)
end
def ZlO{ns:List Int}(h:∀ n∈ns,ZmS n)(k:Nat)(hk:k < 100):ZmS (cellOf ns k):=by
 unfold cellOf
 rw [List.getD_eq_getElem?_getD]
 cases e:ns[k]? with
 | some n=>exact h n (Yx e)
 | none =>
  show ZmS (2 * (k:Int) + 1)
  exact ZiK (n:=1048576) (Yl (m:=2 ^ 20) (by omega) (Nat.pow_le_pow_right (by decide) (by decide)))
def Zhh(H:Hp)(v:V)(n:J0):Prop:=∃ t p d rx,v=.ref t/\H t=some (.tup [.ref p,.ref d])/\H p=some (.lst rx)/\ZR H rx n.1/\H d=some (.dK n.2)
theorem Zhh.same{H H':Hp}{v:V}{n:J0}(h:Zhh H v n)(s:Zn H H'):Zhh H' v n:=let ⟨t,p,d,rx,e,h1,h2,h3,h4⟩:=h; ⟨t,p,d,rx,e,s _ _ h1,s _ _ h2,h3.same s,s _ _ h4⟩
def Zok{a ps l:Addr}{o:HO}(hl:l∈ex):Zn (off ex a ps H) (off ex a ps (upd H l o)):=λb u e=>by
 obtain⟨g1,g2,g3,g4⟩:=Je.mp e
 exact Je.mpr ⟨g1,g2,g3,by rw [Zj (λz=>g3 (by rw [z]; exact hl))]; exact g4⟩
theorem ZI.updx{CS CT:Addr}{a ps l:Addr}{past:List J0}{ys:List V}(h:ZI ex CS CT H a ps rs kvs past)(hl:l∈ex):ZI ex CS CT (upd H l (.lst ys)) a ps rs kvs past:=by
 obtain⟨dx,tr,ds,pv,h1,h2,h3,h4,h5,h6,h7⟩:=h
 have so:Zn (off ex a ps H) (off ex a ps (upd H l (.lst ys))):=Zok hl
 have na:a ≠ l:=λz=>by obtain⟨zs,q⟩:=h6 l hl; rw [<- z,h1] at q; cases q
 have np:ps ≠ l:=λz=>h7 (z ▸ hl)
 refine⟨dx,tr,ds,pv,by rw [Zj na]; exact h1,by rw [Zj np]; exact h2,h3.same so,so _ _ h4,h5.mono λv n q=>q.same so,λm hm=>?_,h7⟩
 by_cases c:m=l
 ·rw [c]; exact⟨_,Zl⟩
 ·obtain⟨zs,q⟩:=h6 m hm
  exact⟨zs,by rw [Zj c]; exact q⟩
section
variable {P:Program}{w:World}{K:PySem.W.Frag}{mg:Str->Option Value}{base:Heap}{f:Addr}{fd:FuncData}{CT CNP CS CND:Addr}
def ZjG(CS CT CND:Addr):Sp:=λvs H Q E=>∃ (ex:List Addr) (a ps:Addr) (rs:List (Nat × Rat)) (kvs:Kvs) (past:List J0),vs=[.ref a]/\ZI ex CS CT H a ps rs kvs past/\past.length < 1000/\(∀ past0 n,past=past0 ++ [n]->Zfq ex CS CT a ps H n.1 n.2 past0 (Q .non))/\(past=[]->E (.ref CND) none H)
def Znc(F:FunD K "back" "Shire.back" Zau .none f fd)(ZcM:mg "NoDeed"=some (.ref CND))(ec_NoDeed:Zrp K CND)(Zg:Cls K CS)(Zw:ZJ K CS "land")(Zs:ZJ K CS "places")(Zbs:ZJ K CS "past"):FnOk P w K mg base (CX1 P w) 1 f fd ["self"] (ZjG CS CT CND):=by
 refine okX F Zdv (λvs H Q E h=>?_) (λcdv A outer s H vs Q E hr h=>?_)
 ·obtain⟨ex,a,ps,rs,kvs,past,rfl,_⟩:=h; rfl
 obtain⟨ex,a,ps,rs,kvs,past,rfl,hS,hpl,q,qE⟩:=h
 obtain⟨dx,tr,ds,pv,h1,h2,h3,h4,h5,hx,hpx⟩:=id hS
 refine⟨_,(Zd (ZN (Jr (Zta (Z2 (Zf 0)))) (Zk (ZqW ZiH ZcM ec_NoDeed rfl (Zm Zv Zc))) Zy)
   (Zd (Zt 1 Zdv.nd (Zpm (Z2 (Zf 0))))
   (Zd (Zfn (Zf 0) (ZD (Zf 1) Zb))
   (Zk (Zfn (Zf 0) (ZD (Zf 1) Zb)))))),?_⟩
 rw [show Zu ["self","ahead"] [.ref a]=[some (.ref a),none] from rfl]
 have na:ps ≠ a:=λz=>by rw [z,h1] at h2; cases h2
 by_cases c:past=[]
 ·subst c
  have hpv:pv=[]:=List.eq_nil_of_length_eq_zero h5.1
  subst hpv
  walk_at "rd"
  refine⟨CS,dx,_,h1,Zg,Zbs,.ref ps,rfl,false,.inl ⟨_,.of h2,rfl⟩,?_⟩
  rw [if_pos rfl]
  exact qE rfl
 obtain⟨past0,n,rfl⟩:∃ past0 n,past=past0 ++ [n]:=⟨past.dropLast,past.getLast c,(List.dropLast_concat_getLast _).symm⟩
 have q:=q past0 n rfl
 have hlen:pv.length=past0.length + 1:=by rw [h5.1]; simp
 obtain⟨pv',v,rfl⟩:∃ pv' v,pv=pv' ++ [v]:=⟨pv.dropLast,pv.getLast (by intro z; rw [z] at hlen; simp at hlen),(List.dropLast_concat_getLast _).symm⟩
 have hl':pv'.length=past0.length:=by simpa using hlen
 obtain⟨p,tr0,ds0,rfl,g1,g2,g3⟩:=h5.2 past0.length v n (by rw [<- hl']; simp) (by simp)
 have h5':Jb (Zk5 CT) (off ex a ps H) pv' past0:=⟨hl',λi x m e1 e2=>h5.2 i x m (by rw [YD (Yf.mp e1).1]; exact e1) (by rw [YD (Yf.mp e2).1]; exact e2)⟩
 walk_at "rd"
 refine⟨CS,dx,_,h1,Zg,Zbs,.ref ps,rfl,true,.inl ⟨_,.of h2,by simp⟩,?_⟩
 rw [if_neg (by decide)]
 have hdl:(pv' ++ [V.ref p]).dropLast=pv':=by simp
 have g1':=Je.mp g1
 have np:p ≠ ps:=g1'.2.1
 have npa:p ≠ a:=g1'.1
 refine⟨CS,dx,_,h1,Zg,Zbs,.ref ps,rfl,ps,rfl,_,h2,.ref p,by simp,p,rfl,_,by rw [Zj np]; exact g1'.2.2.2,_,rfl,CS,dx,_,by rw [Zj (Ne.symm na)]; exact h1,Zg,Zw,(by show (3:Nat) < 1000; decide),p,rfl,_,by rw [Zj npa,Zj np]; exact g1'.2.2.2,_,rfl,CS,dx,_,Zl,Zg,Zs,(by show (3:Nat) < 1000; decide),?_⟩
 rw [hdl]
 have k2:=(Z9.of (a:=a) (p:=ps) (λ(b:Addr) (o:HO) (e:H b=some o)=>e)).upd (o:=.lst pv') (.inr rfl)
 have k3:=k2.upd (o:=.ins CS dx (JN (Str.ofString "land") tr0 [(Str.ofString "land",tr),(Str.ofString "places",V.ref ds),(Str.ofString "past",V.ref ps)])) (.inl rfl)
 have k4:=k3.upd (o:=.ins CS dx (JN (Str.ofString "places") (V.ref ds0) (JN (Str.ofString "land") tr0 [(Str.ofString "land",tr),(Str.ofString "places",V.ref ds),(Str.ofString "past",V.ref ps)]))) (.inl rfl)
 have s4:=k4.off (ex:=ex)
 have nax:a ∉ ex:=λz=>by obtain⟨zs,q⟩:=hx a z; rw [h1] at q; cases q
 refine q _ k4 ⟨dx,tr0,ds0,pv',?_,?_,g2.same s4,s4 _ _ g3,h5'.mono λv m g=>g.same s4,k4.lists hx nax hpx,hpx⟩
 ·rw [Zl]
  rfl
 ·rw [Zj na,Zj na,Zl]
end
def Zt0:Deed->List Str
 | .come z k=>["come",z,ZK (k:Int)]
 | .go z=>["go",z]
 | .move z k=>["move",z,ZK (k:Int)]
 | .reprice j t=>["price",ZK ((j:Int) + 1),Jv t]
 | .build to t=>["build",ZK (to:Int),Jv t]
 | .cut j t=>["cut",ZK ((j:Int) + 1),Jv t]
def ZrL(d:Deed):Str:=Txt.join (one 32) (Zt0 d)
def Zn9:Deed->Prop
 | .come z k=>JH z/\k < 1000
 | .go z=>JH z
 | .move z k=>JH z/\k < 1000
 | .reprice j t=>j < 1000/\Few t/\0<=t.num
 | .build to t=>to < 1000/\Few t/\0<=t.num
 | .cut j t=>j < 1000/\Few t/\0<=t.num
def ZnM(h:SzQ 98 t):Few t:=⟨Yl h.1 (by decide),Yl h.2 (by decide)⟩
def Zjo{n:J0}{d:Deed}(hi:i < 23)(h:JX i n)(hd:Zfx i n d):Zn9 d:=by
 have hl:=h.1.2.1
 cases d with
 | come z k=>obtain⟨⟨j,s,_,rfl⟩,hk,_⟩:=hd; exact⟨Zgk j s,by omega⟩
 | go z=>exact (Zdn h.2 hd).2
 | move z k=>exact⟨(Zdn h.2 hd.1).2,by have:=hd.2; omega⟩
 | reprice j t=>exact⟨by have:=hd.1; omega,ZnM hd.2.1,hd.2.2⟩
 | build to t=>exact⟨by have:=hd.1; omega,ZnM hd.2.1,hd.2.2⟩
 | cut j t=>obtain⟨r,e,h1,h2,_⟩:=hd; exact⟨by have:=(Yf.mp e).1; omega,ZnM h1,h2⟩
def ZgN(H:Hp)(x:V)(z:Str):Prop:=(Zmb x z/\z.length<=100)\/∃ t,z=Jv t/\Jn H x t/\Few t
theorem Zpv{R:Hp->V->α->Prop}{a:α}(h:R H x a):Jb R H [x] [a]:=⟨rfl,λi y b h1 h2=>by
 cases i with
 | zero=>cases h1; cases h2; exact h
 | succ i=>simp at h1⟩
theorem ZhH{R:Hp->V->α->Prop}{x y:V}{a b:α}(h:R H x a)(g:R H y b):Jb R H [x,y] [a,b]:=⟨rfl,λi z c h1 h2=>by
 match i,h1,h2 with
 | 0,h1,h2=>cases h1; cases h2; exact h
 | 1,h1,h2=>cases h1; cases h2; exact g
 | i + 2,h1,_=>simp at h1⟩
theorem ZdD(h:n<=1000):ZgN H (.int (n:Int)) (ZK (n:Int)):=by
 have h2:((n:Int)).natAbs < 10 ^ 30:=by omega
 exact .inl ⟨.inl ⟨_,rfl,Zbw h2,rfl⟩,Yj (ZaM h2) (by decide)⟩
theorem Zey(h:JH z):ZgN H (.str z) z:=.inl ⟨.inr ⟨rfl,by have:=h.2.1; omega⟩,by have:=h.2.1; omega⟩
theorem Zgn{y:V}(h:Jn H y t)(hf:Few t):ZgN H y (Jv t):=.inr ⟨t,rfl,h,hf⟩
theorem ZgN.len(h:ZgN H x z):z.length<=100:=by
 rcases h with h | ⟨t,rfl,_,hf⟩
 ·exact h.2
 ·exact Yj (ZcO hf) (by decide)
theorem ZgN.keep{H H':Hp}(h:ZgN H x z)(s:Zn H H'):ZgN H' x z:=by
 rcases h with h | ⟨t,e,h1,hf⟩
 ·exact .inl h
 ·exact .inr ⟨t,e,h1.same s,hf⟩
def ZfA{d:Deed}(hD:ZfZ H x d)(hS:Zn9 d):∃ (p:Addr) (xs:List V) (first:Str) (ws:List Str),x=.ref p/\H p=some (.tup (.str first :: xs))/\Zt0 d=first :: ws/\Jb ZgN H xs ws/\first.length<=100/\xs.length<=2/\xs ≠ []:=by
 cases d with
 | come z k=>obtain⟨p,e,h1⟩:=hD; exact⟨p,_,_,_,e,h1,rfl,ZhH (Zey hS.1) (ZdD (by have:=hS.2; omega)),by decide,by simp,by simp⟩
 | go z=>obtain⟨p,e,h1⟩:=hD; exact⟨p,_,_,_,e,h1,rfl,Zpv (Zey hS),by decide,by simp,by simp⟩
 | move z k=>obtain⟨p,e,h1⟩:=hD; exact⟨p,_,_,_,e,h1,rfl,ZhH (Zey hS.1) (ZdD (by have:=hS.2; omega)),by decide,by simp,by simp⟩
 | reprice j t=>obtain⟨p,y,e,h1,h2⟩:=hD; exact⟨p,_,_,_,e,h1,rfl,ZhH (ZdD (n:=j + 1) (by have:=hS.1; omega)) (Zgn h2 hS.2.1),by decide,by simp,by simp⟩
 | build to t=>obtain⟨p,y,e,h1,h2⟩:=hD; exact⟨p,_,_,_,e,h1,rfl,ZhH (ZdD (by have:=hS.1; omega)) (Zgn h2 hS.2.1),by decide,by simp,by simp⟩
 | cut j t=>obtain⟨p,y,e,h1,h2⟩:=hD; exact⟨p,_,_,_,e,h1,rfl,ZhH (ZdD (n:=j + 1) (by have:=hS.1; omega)) (Zgn h2 hS.2.1),by decide,by simp,by simp⟩
def Zes:ZmR (x :: xs) (some 1) none=xs:=by
 unfold ZmR HT.sIx
 simp
section
variable {P:Program}{w:World}{K:PySem.W.Frag}{mg:Str->Option Value}{base:Heap}{f:Addr}{fd:FuncData}{CT CNP CS:Addr}
def ZfD:Sp:=λvs H Q _=>∃ (x:V) (d:Deed),vs=[x]/\ZfZ H x d/\Zn9 d/\∀ H',Zn H H'->Q (.str (ZrL d)) H'
def Zkb(F:Fun K "_law_row_text" "_law_row_text" ZaO f fd)(Zp:mg "isinstance"=none)(Zcs:mg "tuple"=none)(Jl:mg "str"=none)(ZbQ:Fn P w K mg base Zx 1 "_law_word" ["_law_one"] Zis):FnOk P w K mg base Zx 2 f fd ["_law_deed"] ZfD:=by
 refine JA F ZbV λcdv A outer s H vs Q E hr h=>?_
 obtain⟨x,d,rfl,hD,hS,q⟩:=h
 obtain⟨p,xs,first,ws,rfl,hp,hw,hpart,hfl,hxl,hxn⟩:=ZfA hD hS
 unfold ZrL at q
 rw [hw] at q
 refine⟨_,(Zd (Zt 1 ZbV.nd (JK (Zm (ZD (Zf 0) Zb) Zc)))
   (Zd (ZhP YM (ZtN (ZqY (Zf 0) Zb)) (Z3 2 ZbV.nd) (Zk (ZN (Jk (ZcY rfl Zp (Zm (Zf 2) (Zm (ZmN rfl Zcs rfl) Zc)))) (Zk (ZL (Zgf (Zf 1) (Zm (Jp ZbQ hr (Zm (Zf 2) Zc)) Zc)))) (Zk (ZL (Zgf (Zf 1) (Zm (ZrH rfl Jl (Zm (Zf 2) Zc)) Zc)))))))
   (Zk (Zr (Zhp Zv (Zm (Zf 1) Zc)))))),?_⟩
 rw [show Zu ["_law_deed","_law_words","_law_part"] [.ref p]=[some (.ref p),none,none] from rfl]
 walk_at "rd"
 refine⟨_,hp,.str first,(by show atI _ ((0:Nat):Int)=_; exact Z5 rfl),λl H1 hl s1 e1=>?_⟩
 rw [Zn7]
 walk_at "rd"
 refine⟨p,_,rfl,.inl (.of (s1 _ _ hp)),?_,λpc hpc=>?_⟩
 ·unfold HT.sIx
  simp
 rw [Zes]
 have nl:pc ≠ l:=λz=>by rw [z,e1] at hpc; cases hpc
 refine Zqa (xs:=xs) (λi σ H'=>∃ o,σ=[some (V.ref p),some (V.ref l),o]/\Zn H H'/\H' pc=some (.tup xs)/\H' l=some (.lst ((first :: ws.take i).map V.str))) ⟨_,rfl,s1.trans (ZS hpc _),Zl,by rw [Zj (Ne.symm nl)]; exact e1⟩ (λi σ H2 hi hP=>?_) (λi x σ H2 hx hP=>?_) (λσ H2 hP=>?_)
 ·obtain⟨o,_,_,h,_⟩:=hP
  exact .inl (.of h)
 ·obtain⟨o,rfl,s2,hpc2,hl2⟩:=hP
  have hi:i < xs.length:=(Yf.mp hx).1
  have hi':i < ws.length:=by rw [<- hpart.1]; exact hi
  have hz:=hpart.2 i x _ hx (Yb hi')
  have hap:((first :: ws.take i).map V.str) ++ [V.str ws[i]]=(first :: ws.take (i + 1)).map V.str:=by rw [List.take_succ_eq_append_getElem hi']; simp only [List.map_cons,List.map_append,List.map_nil,List.cons_append]
  have hlen:((first :: ws.take i).map V.str).length < 1000000:=by
   rw [Yg,YH,YU]
   have:=hpart.1
   omega
  have fin:∀ o:List V,o=(first :: ws.take (i + 1)).map V.str->Zn H (upd H2 l (HO.lst o))/\upd H2 l (HO.lst o) pc=some (HO.tup xs)/\upd H2 l (HO.lst o) l=some (HO.lst ((first :: ws.take (i + 1)).map V.str)):=λo eo=>⟨ZW hl s2,by rw [Zj nl]; exact hpc2,by rw [Zl,eo]⟩
  walk_at "rd"
  rcases hz with ⟨hf,h100⟩ | ⟨t,et,hr',hf⟩
  ·obtain⟨k,hk,hk2⟩:∃ k,Zdt H2 x=some k/\isA k "tuple"=false:=by
    rcases hf with ⟨n,rfl,_⟩ | ⟨rfl,_⟩
    ·exact⟨"int",rfl,by decide⟩
    ·exact⟨"str",rfl,by decide⟩
   refine⟨k,hk,?_⟩
   rw [hk2,if_neg (by decide)]
   exact⟨⟨_,hl2⟩,_,hf,_,hl2,hlen,fin _ hap⟩
  ·obtain⟨a,rfl,ha⟩:=hr'.same s2
   refine⟨"tuple",Zgy ha,?_⟩
   rw [if_pos (by decide)]
   rw [et] at hap
   exact⟨⟨_,hl2⟩,_,t,rfl,⟨a,rfl,ha⟩,hf,_,hl2,hlen,fin _ hap⟩
 ·obtain⟨o,rfl,s2,hpc2,hl2⟩:=hP
  walk_at "rd"
  rw [hpart.1,List.take_length] at hl2
  refine⟨_,hl2,by decide,?_,by rw [Zcl]; exact q _ s2⟩
  have hs:=StrLaws.sumLen_le (B:=100) (first :: ws) (λy hy=>by
   rcases Ym.mp hy with rfl | hy
   ·exact hfl
   ·obtain⟨i,hi⟩:=YT hy
    have hix:i < xs.length:=by rw [hpart.1]; exact (Yf.mp hi).1
    exact (hpart.2 i _ _ (Yb hix) hi).len)
  have:=hpart.1
  rw [YH] at hs ⊢
  omega
end
def hmV(kvs:Kvs)(z:Str):Int:=match Ji kvs (Sum.inr z) with
 | some (.int n)=>n
 | _=>0
def Zrw(kvs:Kvs)(z:Str):Str:=z ++ one 58 ++ ZK (hmV kvs z)
def Zre(kvs:Kvs)(ts:List Str):Str:=if ts=[] then Str.ofString "none" else Txt.join (one 32) (ts.map (Zrw kvs))
def Zmm:Str.ofString ":"=one 58:=by decide +kernel
def Zo9{kv:Z7 × V}(hn:(kvs.map (·.1)).Nodup)(h:kv∈kvs):Ji kvs kv.1=some kv.2:=by
 induction kvs with
 | nil=>cases h
 | cons p r ih =>
  rw [Yq,Vq] at hn
  rcases Ym.mp h with rfl | h
  ·exact Zdj rfl
  ·rw [Zds (λe=>hn.1 (Yo.mpr ⟨_,h,e.symm⟩))]
   exact ih hn.2 h
def Zjt(h:HV i kvs):∃ ss:List Str,kvs.map (·.1)=ss.map Sum.inr/\ss.Nodup/\ss.length=kvs.length:=by
 have e:kvs.map (·.1)=(kvs.map λkv=>(match kv.1 with | Sum.inr z=>z | Sum.inl _=>Str.empty)).map Sum.inr:=by
  rw [YQ]
  refine Vt λkv hkv=>?_
  obtain⟨j,s,k,_,rfl,_⟩:=h.2.2 kv hkv
  rfl
 refine⟨_,e,?_,by simp⟩
 have:=h.1
 rw [e] at this
 exact List.Pairwise.of_map _ (λa b hab e=>hab (by rw [e])) this
def Zlc(h:HV i kvs){kv:Z7 × V}(hk:kv∈kvs):∃ z,kv.1=Sum.inr z/\kv.2=.int (hmV kvs z)/\JH z/\(hmV kvs z).natAbs < 10 ^ 30:=by
 have hv:=Zo9 h.1 hk
 obtain⟨j,s,k,_,e,hk2⟩:=h.2.2 kv hk
 subst e
 refine⟨_,rfl,?_,Zgk j s,?_⟩
 ·unfold hmV
  rw [hv]
 ·unfold hmV
  rw [hv]
  show ((k:Int)).natAbs < _
  omega
def ZmM(h:HV i kvs){kv:Z7 × V}(hk:kv∈kvs){z:Str}(e:kv.1=Sum.inr z):(Zrw kvs z).length<=100:=by
 obtain⟨z',e1,_,h1,h2⟩:=Zlc h hk
 rw [e] at e1
 cases e1
 unfold Zrw
 rw [strLen_append,strLen_append]
 have:=h1.2.1
 have:=ZaM h2
 have:(one 58).length=1:=rfl
 omega
section
variable {P:Program}{w:World}{K:PySem.W.Frag}{mg:Str->Option Value}{base:Heap}{f:Addr}{fd:FuncData}{CT CNP CS:Addr}
def Zhm:Sp:=λvs H Q _=>∃ (l:Addr) (zs:List Str),vs=[.ref l]/\H l=some (.lst (zs.map V.str))/\zs.length<=100/\(∀ z∈zs,z.length<=100)/\Q (.str (if zs=[] then Str.ofString "none" else Txt.join (one 32) zs)) H
def ZlF(F:Fun K "or_none" "or_none" Zb8 f fd):FnOk P w K mg base Zx 1 f fd ["words"] Zhm:=by
 refine JA F ZkE λcdv A outer s H vs Q E hr h=>?_
 obtain⟨l,zs,rfl,hl,hn,hz,q⟩:=h
 refine⟨_,(Zk (Zr (Zh2 (Zta (Zf 0)) (Zhp Zv (Zm (Zf 0) Zc)) Zv))),?_⟩
 rw [show Zu ["words"] [.ref l]=[some (.ref l)] from rfl]
 walk_at "rd"
 refine⟨decide (zs ≠ []),.inl ⟨_,.of hl,?_⟩,?_⟩
 ·cases zs <;> rfl
 ·by_cases c:zs=[]
  ·rw [if_pos c] at q
   rw [Yp (λz=>z c),if_neg (by decide)]
   exact q
  ·rw [if_neg c] at q
   rw [Yt c,if_pos rfl]
   refine⟨zs,hl,by decide,?_,by rw [Zcl]; exact q⟩
   have hs:=StrLaws.sumLen_le (B:=100) zs hz
   omega
def Zd5:Sp:=λvs H Q _=>∃ (d:Addr) (kvs:Kvs) (i:Nat),vs=[.ref d]/\H d=some (.dK kvs)/\HV i kvs/\∀ (ts:List Str) H',ts.Pairwise leS->(ts.map (Sum.inr:Str->Z7)).Perm (kvs.map (·.1))->Zn H H'->Q (.str (Zre kvs ts)) H'
def Zhv(F:Fun K "show_homes" "show_homes" Zbd f fd)(ZbC:mg "sorted"=none)(Zez:Fn P w K mg base Zx 1 "or_none" ["words"] Zhm):FnOk P w K mg base Zx 2 f fd ["homes"] Zd5:=by
 refine JA F Zf3 λcdv A outer s H vs Q E hr h=>?_
 obtain⟨d,kvs,i,rfl,hd,hH,q⟩:=h
 obtain⟨ss,hss,hnd,hsl⟩:=Zjt hH
 have h6:=hH.2.1
 refine⟨_,(Zk (Zr (Jp Zez hr (Zm (Zdy (ZnJ ["name","k"]) (Zfd (Zoi rfl ZbC (Zf 0))) (by exact λs H fp=>(ZlW (n:=2) (Zb5 (Z3 0 (show List.Nodup (["name","k"]:List Str) from by decide +kernel)) (Zb5 (Z3 1 (show List.Nodup (["name","k"]:List Str) from by decide +kernel)) ZgT)))) (by exact λs H fp=>(ZqL (Zf 0) (Zf 1)))) Zc)))),?_⟩
 rw [show Zu ["homes"] [.ref d]=[some (.ref d)] from rfl]
 walk_at "rd"
 simp only [JY,Zfo]
 walk_at "rd"
 refine⟨kvs,.inl hd,ss,hss,hnd,by omega,λb H2 ys qs ts hb s2 e2 hyl hyq hperm hts hpw=>⟨⟨_,.of e2⟩,?_⟩⟩
 have hql:qs.length=kvs.length:=hperm.length_eq
 have htl:ts.length=qs.length:=by have:=congrArg List.length hts; simpa using this.symm
 rw [show JB [some (V.ref d)] []=[] from rfl]
 refine ZdQ StR Zen (xs:=ys) (as:=ts.map (Zrw kvs)) e2 (by rw [Yg]; omega) (by omega) (λi y z hy hz H' k os s3 ol hk=>?_) (λpl H' zs hpl s3 e3 hL=>?_)
 ·obtain⟨o,o',rfl⟩:∃ o o',os=[o,o']:=by
   match os,ol with
   | [o,o'],_=>exact⟨o,o',rfl⟩
  rw [Yh] at hz
  obtain⟨nm,en,rfl⟩:=YS.mp hz
  have hiq:i < qs.length:=by have:=(Yf.mp en).1; omega
  have ekv:=Yb hiq
  obtain⟨t,rfl,ht⟩:=hyq i y _ hy ekv
  have hmem:=hperm.mem_iff.mp (Yy hiq)
  have hk1:(qs[i]).1=Sum.inr nm:=by
   have:=congrArg (λl=>l[i]?) hts
   simp only [List.getElem?_map,ekv,en,Option.map_some,Option.some.injEq] at this
   exact this
  obtain⟨z',e1',ev,hnm,hbig⟩:=Zlc hH hmem
  rw [hk1] at e1'
  cases e1'
  rw [hk1,ev] at ht
  walk_at "rd"
  refine⟨_,s3 _ _ ht,rfl,_,_,rfl,_,_,rfl,rfl,[_,_],rfl,rfl,_,.inr ⟨rfl,by have:=hnm.2.1; omega⟩,_,.inl ⟨_,rfl,Zbw hbig,rfl⟩,?_⟩
  rw [Zmm]
  exact hk _ _ (λ_ _ e=>e) rfl
 ·rw [ZcL (g:=V.str) (λ_ _ _ h=>h) hL] at e3
  have hp:(ts.map (Sum.inr:Str->Z7)).Perm (kvs.map (·.1)):=by rw [<- hts]; exact hperm.map _
  refine⟨pl,_,rfl,e3,by rw [Yg]; omega,λz hz=>?_,?_⟩
  ·obtain⟨nm,hnm,rfl⟩:=Yo.mp hz
   obtain⟨kv,hkv,e⟩:=Yo.mp (hp.mem_iff.mp (List.mem_map_of_mem hnm))
   exact ZmM hH hkv e
  ·have:=q ts H' hpw hp (s2.trans s3)
   unfold Zre at this
   by_cases c:ts=[]
   ·rw [if_pos c] at this
    rw [if_pos (by rw [c]; rfl)]
    exact this
   ·rw [if_neg c] at this
    rw [if_neg (λz=>c (List.map_eq_nil_iff.mp z))]
    exact this
def Zd6:Sp:=λvs H Q _=>∃ (d:Addr) (kvs:Kvs) (i:Nat),vs=[.ref d]/\H d=some (.dK kvs)/\HV i kvs/\∀ (ts:List Str) H',ts.Pairwise leS->(ts.map (Sum.inr:Str->Z7)).Perm (kvs.map (·.1))->Zn H H'->Q (.str (Zre kvs ts)) H'
def Zhx(F:Fun K "_law_homes_text" "_law_homes_text" Zat f fd)(ZbC:mg "sorted"=none)(Jl:mg "str"=none):FnOk P w K mg base Zx 2 f fd ["_law_homes"] Zd6:=by
 refine JA F Zd0 λcdv A outer s H vs Q E hr h=>?_
 obtain⟨d,kvs,i,rfl,hd,hH,q⟩:=h
 obtain⟨ss,hss,hnd,hsl⟩:=Zjt hH
 have h6:=hH.2.1
 refine⟨_,(Zd (ZN (ZuG hr (Zf 0) ZjR) (Zk (Zr Zv)) Zy)
   (Zk (Zr (Zhp Zv (Zm (Zdy (ZuP ["_law_name_here"] [0] ["_law_homes"]) (Zfd (Zmz rfl ZbC (Zm (Zf 0) Zc))) (by exact λs H fp=>(Z3 0 (show List.Nodup (["_law_name_here","_law_homes"]:List Str) from by decide +kernel))) (by exact λs H fp=>(ZeO (ZeO (Zf 0) Zv) (ZfG rfl Jl (Zm (ZrR (Zl3 hr) (Zf 1) (Zf 0)) Zc))))) Zc))))),?_⟩
 rw [show Zu ["_law_homes"] [.ref d]=[some (.ref d)] from rfl]
 refine Zo λB hB=>?_
 walk_at "rd"
 intro p1 H2 hp1 s2 e2
 refine⟨kvs,.inl (s2 _ _ hd),.inl e2,JF (λc=>?_) (λc=>?_)⟩
 ·have:=q [] H2 .nil (by rw [List.eq_nil_of_length_eq_zero c]; exact .refl _) s2
  rw [Zre,if_pos rfl] at this
  exact this
 subst hB
 try dsimp only
 walk_at "rd"
 simp only [JY,Zfo]
 walk_at "rd"
 have hkv:(kvs.map λkv=>kV kv.1)=ss.map V.str:=by
  have:=congrArg (List.map kV) hss
  rw [YQ,YQ] at this
  exact this
 refine⟨kvs,.inl (s2 _ _ hd),ss,hkv,by omega,λl H3 ts hl s3 e3 hpw hperm=>⟨⟨_,.of e3⟩,?_⟩⟩
 have htl:ts.length=ss.length:=hperm.length_eq
 have hp:(ts.map (Sum.inr:Str->Z7)).Perm (kvs.map (·.1)):=by rw [hss]; exact hperm.map _
 have hts:ts ≠ []:=λz=>by rw [z] at htl; simp at htl; omega
 have hin:∀ nm∈ts,∃ kv∈kvs,kv.1=Sum.inr nm:=λnm hnm=>Yo.mp (hp.mem_iff.mp (List.mem_map_of_mem hnm))
 rw [show JB [some (V.ref d)] [0]=[some (V.ref d)] from rfl]
 refine ZdQ StR Zen (xs:=ts.map V.str) (as:=ts.map (Zrw kvs)) e3 (by rw [Yg,Yg]) (by rw [Yg]; omega) (λi y z hy hz H' k os s4 ol hk=>?_) (λpl H' zs hpl s4 e4 hL=>?_)
 ·obtain⟨o,rfl⟩:∃ o,os=[o]:=List.length_eq_one_iff.mp ol
  rw [Yh] at hz hy
  obtain⟨nm,en,rfl⟩:=YS.mp hz
  rw [en] at hy
  cases hy
  obtain⟨kv,hkv2,e⟩:=hin nm (Yx en)
  obtain⟨z',e1',ev,hnm,hbig⟩:=Zlc hH hkv2
  rw [e] at e1'
  cases e1'
  have hval:=Zo9 hH.1 hkv2
  rw [e,ev] at hval
  walk_at "rd"
  have l1:=hnm.2.1
  have l2:=ZaM hbig
  have l3:(one 58).length=1:=rfl
  rw [Zmm]
  exact⟨[_],rfl,rfl,Jj (by omega),kvs,.inl ((s2.trans (s3.trans s4)) _ _ hd),Sum.inr nm,rfl,_,hval,_,rfl,Zbw hbig,by rw [strLen_append]; exact Jj (by omega),hk _ _ (λ_ _ e=>e) rfl⟩
 ·rw [ZcL (g:=V.str) (λ_ _ _ h=>h) hL] at e4
  refine⟨pl,rfl,_,e4,by decide,?_,?_⟩
  ·have hs:=StrLaws.sumLen_le (B:=100) (ts.map (Zrw kvs)) (λy hy=>by
    obtain⟨nm,hnm,rfl⟩:=Yo.mp hy
    obtain⟨kv,hkv2,e⟩:=hin nm hnm
    exact ZmM hH hkv2 e)
   rw [Yg] at hs ⊢
   omega
  ·have:=q ts H' hpw hp (s2.trans (s3.trans s4))
   rw [Zre,if_neg hts] at this
   rw [Zcl]
   exact this
end
def ZO{z z':Str}{v:V}{r:List (Z7 × V)}(h:z ≠ z'):Ji ((Sum.inr z,v) :: r) (Sum.inr z':Z7)=Ji r (Sum.inr z'):=Zds (p:=(Sum.inr z,v)) λe=>h (Sum.inr.inj e)
def ZdJ{v:V}{r:List (Z7 × V)}:Ji ((Sum.inr z,v) :: r) (Sum.inr z:Z7)=some v:=Zdj (p:=(Sum.inr z,v)) rfl
def Jz(K:PySem.W.Frag)(a:Addr)(xs:List V):Prop:=∃ (o:Obj) (its:Array Value) (n:Nat),K.lookup a=some o/\o.cls=.type "tuple"/\o.data=.seq its n/\its.size<=sizeLine/\ZB xs its.toList
theorem Jz.at{a:Addr}(h:Jz K a xs)(H:Hp):SqT K H a xs:=.inr h
structure DeskT(P:Program)(w:World)(K:PySem.W.Frag)(aD aA aL:Addr):Prop where
 d:∃ T0 T1 T2 T3 T4 T5 T6,GDict P w K aD [(Sum.inr "come",.ref T0),(Sum.inr "go",.ref T1),(Sum.inr "move",.ref T2),(Sum.inr "price",.ref T3),(Sum.inr "cut",.ref T4),(Sum.inr "build",.ref T5),(Sum.inr "back",.ref T6)] /\
  Jz K T0 [.str "name",.str "number"]/\Jz K T1 [.str "name"]/\Jz K T2 [.str "name",.str "number"]/\Jz K T3 [.str "number",.str "fraction"]/\Jz K T4 [.str "number",.str "fraction"]/\Jz K T5 [.str "number",.str "fraction"]/\Jz K T6 []
 a:∃ T0 T1 T2 T3 T4 T5,GDict P w K aA [(Sum.inr "tree",.ref T0),(Sum.inr "homes",.ref T1),(Sum.inr "even",.ref T2),(Sum.inr "evenest",.ref T3),(Sum.inr "third",.ref T4),(Sum.inr "stairs",.ref T5)]/\Jz K T0 []/\Jz K T1 []/\Jz K T2 []/\Jz K T3 []/\Jz K T4 []/\Jz K T5 []
 l:GDict P w K aL [(Sum.inr "cost",.str "name"),(Sum.inr "judge",.str "share")]
def Zdx:List (Str × List Str):=[("come",["name","number"]),("go",["name"]),("move",["name","number"]),("price",["number","fraction"]),("cut",["number","fraction"]),("build",["number","fraction"]),("back",[])]
def Ztr(z:Str):Prop:=z=Str.ofString "tree"\/z=Str.ofString "homes"
def ZuI(z:Str)(ks:List Str):Prop:=(z,ks)∈Zdx\/Ztr z/\ks=[]
def ZsL(h:Ztr z\/∃ ks,(z,ks)∈Zdx):Ji ([(Sum.inr "cost",.str "name"),(Sum.inr "judge",.str "share")]:List (Z7 × V)) (Sum.inr z)=none:=by
 rcases h with (rfl | rfl) | ⟨ks,h⟩
 ·exact (ZO (by decide +kernel)).trans ((ZO (by decide +kernel)).trans Zep)
 ·exact (ZO (by decide +kernel)).trans ((ZO (by decide +kernel)).trans Zep)
 ·have key:∀ p∈Zdx,"cost" ≠ p.1/\"judge" ≠ p.1:=by decide +kernel
  have:=key _ h
  exact (ZO this.1).trans ((ZO this.2).trans Zep)
section
variable {P:Program}{w:World}{K:PySem.W.Frag}{mg:Str->Option Value}{base:Heap}{f:Addr}{fd:FuncData}{CT CS CD aD aA aL:Addr}
def Zpk(h:DeskT P w K aD aA aL){z:Str}{ks:List Str}(hz:(z,ks)∈Zdx):∃ kvs T,GDict P w K aD kvs/\Ji kvs (Sum.inr z)=some (.ref T)/\Jz K T (ks.map V.str):=by
 obtain⟨T0,T1,T2,T3,T4,T5,T6,h0,g0,g1,g2,g3,g4,g5,g6⟩:=h.d
 unfold Zdx at hz
 simp only [List.mem_cons,List.not_mem_nil,or_false,Prod.mk.injEq] at hz
 rcases hz with ⟨rfl,rfl⟩ | ⟨rfl,rfl⟩ | ⟨rfl,rfl⟩ | ⟨rfl,rfl⟩ | ⟨rfl,rfl⟩ | ⟨rfl,rfl⟩ | ⟨rfl,rfl⟩
 ·exact⟨_,T0,h0,ZdJ,g0⟩
 ·exact⟨_,T1,h0,(ZO (by decide +kernel)).trans ZdJ,g1⟩
 ·exact⟨_,T2,h0,(ZO (by decide +kernel)).trans ((ZO (by decide +kernel)).trans ZdJ),g2⟩
 ·exact⟨_,T3,h0,(ZO (by decide +kernel)).trans ((ZO (by decide +kernel)).trans ((ZO (by decide +kernel)).trans ZdJ)),g3⟩
 ·exact⟨_,T4,h0,(ZO (by decide +kernel)).trans ((ZO (by decide +kernel)).trans ((ZO (by decide +kernel)).trans ((ZO (by decide +kernel)).trans ZdJ))),g4⟩
 ·exact⟨_,T5,h0,(ZO (by decide +kernel)).trans ((ZO (by decide +kernel)).trans ((ZO (by decide +kernel)).trans ((ZO (by decide +kernel)).trans ((ZO (by decide +kernel)).trans ZdJ)))),g5⟩
 ·exact⟨_,T6,h0,(ZO (by decide +kernel)).trans ((ZO (by decide +kernel)).trans ((ZO (by decide +kernel)).trans ((ZO (by decide +kernel)).trans ((ZO (by decide +kernel)).trans ((ZO (by decide +kernel)).trans ZdJ))))),g6⟩
def Zr6(h:DeskT P w K aD aA aL){z:Str}(hz:Ztr z):(∃ kvs,GDict P w K aD kvs/\Ji kvs (Sum.inr z)=none)/\∃ kvs T,GDict P w K aA kvs/\Ji kvs (Sum.inr z)=some (.ref T)/\Jz K T []:=by
 obtain⟨T0,T1,T2,T3,T4,T5,T6,h0,_⟩:=h.d
 obtain⟨A0,A1,A2,A3,A4,A5,hA,hA0,hA1,_⟩:=h.a
 refine⟨⟨_,h0,?_⟩,?_⟩
 ·rcases hz with rfl | rfl <;> exact (ZO (by decide +kernel)).trans ((ZO (by decide +kernel)).trans ((ZO (by decide +kernel)).trans ((ZO (by decide +kernel)).trans ((ZO (by decide +kernel)).trans ((ZO (by decide +kernel)).trans ((ZO (by decide +kernel)).trans Zep))))))
 ·rcases hz with rfl | rfl
  ·exact⟨_,A0,hA,ZdJ,hA0⟩
  ·exact⟨_,A1,hA,(ZO (by decide +kernel)).trans ZdJ,hA1⟩
def ZjN:Sp:=λvs H Q _=>∃ (z:Str) (n:Int) (ks:List Str),vs=[.str z,.int n]/\ZuI z ks/\n=(ks.length:Int)/\∀ l H',Zn H H'->H' l=some (.lst (ks.map V.str))->Q (.ref l) H'
def ZoA(F:Fun K "kinds_behind" "kinds_behind" ZaP f fd)(ZC:mg "len"=none)(JJ:mg "list"=none)(ZdT:mg "DEEDS"=some (.ref aD))(Zia:mg "ASKED"=some (.ref aA))(ZcK:mg "LONG_ASKED"=some (.ref aL))(dt:DeskT P w K aD aA aL):FnOk P w K mg base Zx 1 f fd ["first","many"] ZjN:=by
 refine JA F Zcz λcdv A outer s H vs Q E hr h=>?_
 obtain⟨z,n,ks,rfl,hK,hn,q⟩:=h
 refine⟨_,(Zd (ZN (Zup (Zf 0) (ZmI rfl ZcK)) (Zk (Zr (Zj7))) Zy)
   (Zd (Zt 2 Zcz.nd (Zra (ZmI rfl ZdT) (Zf 0) (Zqn (ZmI rfl Zia) (Zf 0))))
   (Zd (ZN (t_w (J3 (ZrN (Zf 2) ZqS) (JV (ZlN (ZlU rfl ZC (Zm (Zf 2) Zc)) (Zf 1))))) (Zk Z6) Zy)
   (Zk (Zr (Zjs rfl JJ (Zm (Zf 2) Zc))))))),?_⟩
 rw [show Zu ["first","many","kinds"] [.str z,.int n]=[some (.str z),some (.int n),none] from rfl]
 have hL:=ZsL (z:=z) (hK.elim (λh=>.inr ⟨ks,h⟩) (λh=>.inl h.1))
 refine Zo λB hB=>?_
 walk_at "rd"
 refine⟨_,dt.l,Sum.inr z,rfl,?_⟩
 rw [hL,if_neg (by decide)]
 subst hB
 try dsimp only
 refine Zo λB hB=>?_
 walk_at "rd"
 have fin:∀ T,Jz K T (ks.map V.str)->B [some (V.str z),some (V.int n),some (V.ref T)] H:=by
  intro T hT
  subst hB
  try dsimp only [Option.getD]
  walk_at "rd"
  refine⟨_,.inr (hT.at _),?_⟩
  rw [if_neg (λz=>z (by rw [hn,Yg]))]
  simp only [ZjV]
  walk_at "rd"
  exact⟨_,.inr (.inl (hT.at _)),λl H1 hl s1 e1=>q l H1 s1 e1⟩
 rcases hK with hK | ⟨hK,rfl⟩
 ·obtain⟨kvs,T,hD,hv,hT⟩:=Zpk dt hK
  obtain⟨A0,A1,A2,A3,A4,A5,hA,_⟩:=dt.a
  refine⟨kvs,hD,_,hA,Sum.inr z,rfl,Sum.inr z,rfl,?_⟩
  rw [hv]
  exact fin T hT
 ·obtain⟨⟨kvs,hD,hv⟩,kva,T,hA,hva,hT⟩:=Zr6 dt hK
  refine⟨kvs,hD,kva,hA,Sum.inr z,rfl,Sum.inr z,rfl,?_⟩
  rw [hv,hva]
  exact fin T hT
def Zff:Sp:=λvs H Q _=>∃ z,vs=[.str z]/\JH z/\∀ H',Zn H H'->Q (.str z) H'
def ZiC(F:Fun K "read_name" "read_name" Zbp f fd)(Zbg:Fn P w K mg base Zx 1 "is_name" ["thing"] ZdA):FnOk P w K mg base Zx 2 f fd ["word"] Zff:=by
 refine JA F Zg3 λcdv A outer s H vs Q E hr h=>?_
 obtain⟨z,rfl,hz,q⟩:=h
 refine⟨_,(Zd (ZN (Jr (Jk (Jp Zbg hr (Zm (Zf 0) Zc)))) (Zk Z6) Zy)
   (Zk (Zr (Zf 0)))),?_⟩
 rw [show Zu ["word"] [.str z]=[some (.str z)] from rfl]
 walk_at "rd"
 refine⟨z,rfl,hz,λH1 s1=>⟨true,rfl,?_⟩⟩
 rw [if_neg (by decide)]
 exact q H1 s1
def k_1:¬ Str.ofString "name"=Str.ofString "number":=by decide +kernel
def k_2:¬ Str.ofString "name"=Str.ofString "fraction":=by decide +kernel
def k_3:¬ Str.ofString "number"=Str.ofString "fraction":=by decide +kernel
def ZgA(kz:Str × Str):Prop:=(kz.1=Str.ofString "name"/\JH kz.2)\/(kz.1=Str.ofString "number"/\∃ n:Int,kz.2=ZK n/\0<=n/\n < 10 ^ 30)\/(kz.1=Str.ofString "fraction"/\∃ t,kz.2=Jv t/\Few t/\0<=t.num)
def ZrW(H:Hp)(v:V)(kz:Str × Str):Prop:=(kz.1=Str.ofString "name"->v=.str kz.2)/\(kz.1=Str.ofString "number"->∀ n:Int,kz.2=ZK n->0<=n->n < 10 ^ 30->v=.int n)/\(kz.1=Str.ofString "fraction"->∀ t,kz.2=Jv t->Few t->0<=t.num->Jn H v t)
theorem ZeC:ZhT ZrW:=λ_ _ _ _ h s=>⟨h.1,h.2.1,λz t e1 e2 e3=>(h.2.2 z t e1 e2 e3).keep s⟩
def Zjg{n m:Int}(h0:0<=n)(h1:n < 10 ^ 30)(g0:0<=m)(g1:m < 10 ^ 30)(h:ZK n=ZK m):n=m:=by
 have e1:=ZeG h0 h1
 have e2:=ZeG g0 g1
 rw [h,e2] at e1
 exact (YB e1).symm
def ZjO:∀ {l m:List Int},(∀ n∈l,0<=n/\n < 10 ^ 30)->(∀ n∈m,0<=n/\n < 10 ^ 30)->l.map ZK=m.map ZK->l=m
 | [],[],_,_,_=>rfl
 | [],_ :: _,_,_,h=>by simp at h
 | _ :: _,[],_,_,h=>by simp at h
 | a :: l,b :: m,hl,hm,h=>by
  rw [Yq,Yq,List.cons.injEq] at h
  rw [Zjg (hl a (.head _)).1 (hl a (.head _)).2 (hm b (.head _)).1 (hm b (.head _)).2 h.1,ZjO (λn hn=>hl n (.tail _ hn)) (λn hn=>hm n (.tail _ hn)) h.2]
def Zn3{s t:Rat}(hs:Few s)(ht:Few t)(hs0:0<=s.num)(ht0:0<=t.num)(h:Jv s=Jv t):s=t:=by
 rw [Zdf hs0,Zdf ht0] at h
 have e:(JR s).map ZK=(JR t).map ZK:=by rw [<- ZdS,<- ZdS,h]
 have e2:=ZjO (ZgD hs) (ZgD ht) e
 have h1:=s.den_pos
 have h2:=t.den_pos
 unfold JR at e2
 have e3:s.num=t.num/\s.den=t.den:=by
  split at e2 <;> split at e2
  ·simp at e2; omega
  ·simp at e2
  ·simp at e2
  ·simp at e2; omega
 exact Rat.ext e3.1 e3.2
def Ze1:Sp:=λvs H Q _=>∃ k z,vs=[.str k,.str z]/\ZgA (k,z)/\∀ v H',Zn H H'->ZrW H' v (k,z)->Q v H'
def ZiV(F:Fun K "read_word" "read_word" Zbo f fd)(Zc5:Fn P w K mg base Zx 2 "read_name" ["word"] Zff)(ZaB:Fn P w K mg base Zx 2 "read_whole" ["text"] Zet)(Za8:Fn P w K mg base Zx 4 "read_ratio" ["text"] Zgo):FnOk P w K mg base Zx 5 f fd ["kind","word"] Ze1:=by
 refine JA F ZgW λcdv A outer s H vs Q E hr h=>?_
 obtain⟨k,z,rfl,hw,q⟩:=h
 refine⟨_,(Zd (ZN (Jq (Zf 0) Zv) (Zk (Zr (Jp Zc5 hr (Zm (Zf 1) Zc)))) Zy)
   (Zd (ZN (Jq (Zf 0) Zv) (Zk (Zr (Jp ZaB hr (Zm (Zf 1) Zc)))) Zy)
   (Zd (ZN (Jq (Zf 0) Zv) (Zk (Zr (Jp Za8 hr (Zm (Zf 1) Zc)))) Zy)
   (Zk (Zr (Zj7)))))),?_⟩
 rw [show Zu ["kind","word"] [.str k,.str z]=[some (.str k),some (.str z)] from rfl]
 walk_at "rd"
 rcases hw with ⟨hk,hz⟩ | ⟨hk,n,hz,h0,h1⟩ | ⟨hk,t,hz,hf,h0⟩ <;> (dsimp only at hk hz; subst hk)
 ·rw [if_pos rfl]
  exact⟨z,rfl,hz,λH' s=>q _ H' s ⟨λ_=>rfl,λz=>absurd z k_1,λz=>absurd z k_2⟩⟩
 ·subst hz
  rw [if_neg (by decide +kernel),if_pos rfl]
  exact⟨n,rfl,h0,h1,λH' s=>q _ H' s ⟨λz=>absurd z.symm k_1,λ_ m e g0 g1=>by rw [Zjg h0 h1 g0 g1 e],λz=>absurd z k_3⟩⟩
 ·subst hz
  rw [if_neg (by decide +kernel),if_neg (by decide +kernel),if_pos rfl]
  exact⟨t,rfl,hf,λr H' s hr=>q r H' s ⟨λz=>absurd z.symm k_2,λz=>absurd z.symm k_3,λ_ u e hu hu0=>by rw [<- Zn3 hf hu h0 hu0 e]; exact hr⟩⟩
def ZfK:Sp:=λvs H Q _=>∃ (first:Str) (ws ks:List Str),vs=[.str (Txt.join (one 32) (first :: ws))]/\ZuI first ks/\ks.length=ws.length/\ws.length<=2/\(∀ z∈first :: ws,32 ∉ z.cps.toList/\z.length<=100)/\(∀ kz∈ks.zip ws,ZgA kz) /\
 ∀ l H' xs,Zn H H'->H' l=some (.lst (.str first :: xs))->Jb ZrW H' xs (ks.zip ws)->Q (.ref l) H'
def Zj5(F:Fun K "read_row" "read_row" ZbK f fd)(ZC:mg "len"=none)(ZpF:mg "zip"=none)(ZaI:Fn P w K mg base Zx 1 "look_text" ["thing"] Zcj)(Zb7:Fn P w K mg base Zx 1 "kinds_behind" ["first","many"] ZjN)(Zc9:Fn P w K mg base Zx 5 "read_word" ["kind","word"] Ze1):FnOk P w K mg base Zx 6 f fd ["row"] ZfK:=by
 refine JA F Zc3 λcdv A outer s H vs Q E hr h=>?_
 obtain⟨fi,ws,ks,rfl,hK,hkl,hwl,hz,hok,q⟩:=h
 have hsp:Txt.split (Txt.join (one 32) (fi :: ws)) (one 32)=fi :: ws:=Zcf (by simp) (λp hp=>(hz p hp).1)
 refine⟨_,(Zd (ZL (Jp ZaI hr (Zm (Zf 0) Zc)))
   (Zd (Zt 1 Zc3.nd (ZfU (Zf 0) (Zm Zv Zc)))
   (Zd (Zt 2 Zc3.nd (Jp Zb7 hr (Zm (ZE (Zf 1) Zb) (Zm (JS (JE rfl ZC (Zm (Zf 1) Zc)) Zb) Zc))))
   (Zk (Zr (Zqd (JK (Zm (ZE (Zf 1) Zb) Zc)) (Zdy (ZnJ ["kind","word"]) (Zur rfl ZpF (Zm (Zf 2) (Zm (Zgg (Zf 1) Zb) Zc))) (by exact λs H fp=>(ZlW (n:=2) (Zb5 (Z3 0 (show List.Nodup (["kind","word"]:List Str) from by decide +kernel)) (Zb5 (Z3 1 (show List.Nodup (["kind","word"]:List Str) from by decide +kernel)) ZgT)))) (by exact λs H fp=>(Jp Zc9 hr (Zm (Zf 0) (Zm (Zf 1) Zc))))))))))),?_⟩
 rw [show Zu ["row","words","kinds"] [.str (Txt.join (one 32) (fi :: ws))]=[some (.str (Txt.join (one 32) (fi :: ws))),none,none] from rfl]
 refine Zo λB hB=>?_
 walk_at "rd"
 refine⟨_,rfl,?_⟩
 subst hB
 try dsimp only
 refine Zo λB hB=>?_
 walk_at "rd"
 refine⟨32,Zcl,?_,λl H1 hl1 s1 e1=>?_⟩
 ·have h1:=Zji (one 32) (fi :: ws)
  have h2:=StrLaws.sumLen_le (B:=100) (fi :: ws) (λy hy=>(hz y hy).2)
  rw [YH] at h1 h2
  rw [show (one 32).length=1 from rfl] at h1
  omega
 rw [hsp] at e1
 subst hB
 try dsimp only
 refine Zo λB hB=>?_
 walk_at "rd"
 refine⟨_,e1,_,Zsa _ _,_,.inl e1,fi,_,ks,rfl,hK,?_,λlk H2 s2 e2=>?_⟩
 ·rw [Yg,YH,hkl]
  omega
 have e12:=s2 _ _ e1
 subst hB
 try dsimp only
 walk_at "rd"
 refine⟨_,e12,_,Zsa _ _,λl3 H3 hl3 s3 e3=>?_⟩
 simp only [JY,Zt3]
 walk_at "rd"
 have e13:=s3 _ _ e12
 refine⟨l,_,rfl,.of e13,λl4 hl4=>?_⟩
 rw [show ZmR (List.map V.str (fi :: ws)) (some 1) none=ws.map V.str from Zes]
 try dsimp only
 have s4:Zn H3 (upd H3 l4 (.lst (ws.map V.str))):=ZS hl4 _
 have e4:upd H3 l4 (.lst (ws.map V.str)) l4=some (.lst (ws.map V.str)):=Zl
 generalize upd H3 l4 (.lst (ws.map V.str))=H4 at s4 e4 ⊢
 have s04:=s1.trans (s2.trans (s3.trans s4))
 refine⟨l4,rfl,⟨_,.of (s4 _ _ (s3 _ _ e2))⟩,⟨_,.of e4⟩,?_⟩
 unfold ZpV
 refine Zqp (xs:=ks.map V.str) (zs:=ws.map V.str) (by rw [List.length_map,List.length_map,hkl]) (λacc i ys H'=>Zn H4 H'/\H' acc=some (.lst ys)/\Jb ZrW H' ys ((ks.zip ws).take i)/\i<=ws.length) (λacc H5 hn sm e=>⟨sm,e,⟨rfl,λi x a h=>by simp at h⟩,Nat.zero_le _⟩) (λacc i ys H5 hn ⟨sm,e,e5,e6⟩=>⟨e,?_,.of (sm _ _ (s4 _ _ (s3 _ _ e2))),.of (sm _ _ e4)⟩) (λacc i x y ys H5 os p H' hn hx hy hP ol hp s6 e6=>?_) (λacc ys H5 hn ⟨sm,e,e5,_⟩=>?_)
 ·have:=e5.1
  rw [YU] at this
  omega
 ·obtain⟨sm,e,e5,e7⟩:=hP
  obtain⟨o1,o2,rfl⟩:∃ o1 o2,os=[o1,o2]:=by match os,ol with | [o1,o2],_=>exact⟨o1,o2,rfl⟩
  rw [Yh] at hx hy
  obtain⟨k,ek,rfl⟩:=YS.mp hx
  obtain⟨z,ez,rfl⟩:=YS.mp hy
  have hiw:i < ws.length:=(Yf.mp ez).1
  have hzip:(ks.zip ws)[i]?=some (k,z):=by rw [List.getElem?_zip_eq_some]; exact⟨ek,ez⟩
  rw [show JB [some (V.str (Txt.join (one 32) (fi :: ws))),some (V.ref l),some (V.ref lk)] []=[] from rfl]
  walk_at "rd"
  refine⟨_,e6,rfl,_,_,rfl,_,_,rfl,rfl,[_,_],rfl,rfl,?_⟩
  unfold Zrv
  try dsimp only
  rw [if_pos rfl]
  refine⟨k,z,rfl,hok _ (Yx hzip),λv H6 s7 hv=>⟨(s6.trans s7) _ _ e,ZW hn (sm.trans (s6.trans s7)),Zl,?_,hiw⟩⟩
  have hlz:i < (ks.zip ws).length:=(Yf.mp hzip).1
  rw [List.take_succ_eq_append_getElem hlz,show (ks.zip ws)[i]=(k,z) from (Yf.mp hzip).2]
  have e8:=(s6.trans s7) _ _ e
  refine Jb.snoc (e5.keep ZeC λb zs eb=>?_) (ZeC _ _ _ _ hv λb zs eb=>?_)
  ·rw [Zj (λz=>by rw [z,e] at eb; cases eb)]
   exact (s6.trans s7) _ _ eb
  ·rw [Zj (λz=>by rw [z,e8] at eb; cases eb)]
   exact eb
 ·rw [Yg,show (ks.zip ws).take ks.length=ks.zip ws from List.take_of_length_le (by rw [List.length_zip]; omega)] at e5
  refine⟨acc,rfl,_,sm _ _ (s4 _ _ e3),_,e,by rw [e5.1,List.length_zip]; simp; exact Jj (by omega),λpl hpl=>?_⟩
  exact q pl _ ys (s04.trans (sm.trans (ZS hpl _))) Zl (e5.mono λv a h=>⟨h.1,h.2.1,λz t e1 e2 e3=>(h.2.2 z t e1 e2 e3).same (ZS hpl _)⟩)
end
def ZuC:([Sum.inr (Str.ofString "come"),Sum.inr (Str.ofString "go"),Sum.inr (Str.ofString "move"),Sum.inr (Str.ofString "price"),Sum.inr (Str.ofString "cut"),Sum.inr (Str.ofString "build"),Sum.inr (Str.ofString "back")]:List Z7).Nodup:=by decide +kernel
def Zuj:([Sum.inr (Str.ofString "tree"),Sum.inr (Str.ofString "homes"),Sum.inr (Str.ofString "even"),Sum.inr (Str.ofString "evenest"),Sum.inr (Str.ofString "third"),Sum.inr (Str.ofString "stairs")]:List Z7).Nodup:=by decide +kernel
def Zug:([Sum.inr (Str.ofString "cost"),Sum.inr (Str.ofString "judge")]:List Z7).Nodup:=by decide +kernel
def Zro{P:Program}{w:World}{aD aA aL:Addr}{D0 D1 D2 D3 D4 D5 D6 A0 A1 A2 A3 A4 A5:Addr}{dh0 dh1 dh2 dh3 dh4 dh5 dh6 ah0 ah1 ah2 ah3 ah4 ah5 lh0 lh1:Int}{dt0 dt1 dt2 dt3 dt4 dt5 dt6 at0 at1 at2 at3 at4 at5 lt0 lt1 lv0 lv1:Tok}{dep aep lep:Nat}
    (gd:K.lookup aD=some ⟨.type "dict",none,.dict #[⟨dh0,.str "come" dt0,.ref D0⟩,⟨dh1,.str "go" dt1,.ref D1⟩,⟨dh2,.str "move" dt2,.ref D2⟩,⟨dh3,.str "price" dt3,.ref D3⟩,⟨dh4,.str "cut" dt4,.ref D4⟩,⟨dh5,.str "build" dt5,.ref D5⟩,⟨dh6,.str "back" dt6,.ref D6⟩] dep,#[]⟩) (sd:(aD == sysModules)=false)
    (ga:K.lookup aA=some ⟨.type "dict",none,.dict #[⟨ah0,.str "tree" at0,.ref A0⟩,⟨ah1,.str "homes" at1,.ref A1⟩,⟨ah2,.str "even" at2,.ref A2⟩,⟨ah3,.str "evenest" at3,.ref A3⟩,⟨ah4,.str "third" at4,.ref A4⟩,⟨ah5,.str "stairs" at5,.ref A5⟩] aep,#[]⟩) (sa:(aA == sysModules)=false)
    (gl:K.lookup aL=some ⟨.type "dict",none,.dict #[⟨lh0,.str "cost" lt0,.str "name" lv0⟩,⟨lh1,.str "judge" lt1,.str "share" lv1⟩] lep,#[]⟩) (sl:(aL == sysModules)=false)
    (hh_dh0:dh0=JG w (Sum.inr "come")) (hh_dh1:dh1=JG w (Sum.inr "go")) (hh_dh2:dh2=JG w (Sum.inr "move")) (hh_dh3:dh3=JG w (Sum.inr "price")) (hh_dh4:dh4=JG w (Sum.inr "cut")) (hh_dh5:dh5=JG w (Sum.inr "build")) (hh_dh6:dh6=JG w (Sum.inr "back")) (hh_ah0:ah0=JG w (Sum.inr "tree")) (hh_ah1:ah1=JG w (Sum.inr "homes")) (hh_ah2:ah2=JG w (Sum.inr "even")) (hh_ah3:ah3=JG w (Sum.inr "evenest")) (hh_ah4:ah4=JG w (Sum.inr "third")) (hh_ah5:ah5=JG w (Sum.inr "stairs")) (hh_lh0:lh0=JG w (Sum.inr "cost")) (hh_lh1:lh1=JG w (Sum.inr "judge"))
    (gD0:Jz K D0 [.str "name",.str "number"]) (gD1:Jz K D1 [.str "name"]) (gD2:Jz K D2 [.str "name",.str "number"]) (gD3:Jz K D3 [.str "number",.str "fraction"]) (gD4:Jz K D4 [.str "number",.str "fraction"]) (gD5:Jz K D5 [.str "number",.str "fraction"]) (gD6:Jz K D6 []) (gA0:Jz K A0 []) (gA1:Jz K A1 []) (gA2:Jz K A2 []) (gA3:Jz K A3 []) (gA4:Jz K A4 []) (gA5:Jz K A5 []):DeskT P w K aD aA aL :=
  ⟨⟨D0,D1,D2,D3,D4,D5,D6,ZgQ gd sd (.cons (ZY _ _) hh_dh0 rfl (.cons (ZY _ _) hh_dh1 rfl (.cons (ZY _ _) hh_dh2 rfl (.cons (ZY _ _) hh_dh3 rfl (.cons (ZY _ _) hh_dh4 rfl (.cons (ZY _ _) hh_dh5 rfl (.cons (ZY _ _) hh_dh6 rfl .nil))))))) ZuC,gD0,gD1,gD2,gD3,gD4,gD5,gD6⟩,
   ⟨A0,A1,A2,A3,A4,A5,ZgQ ga sa (.cons (ZY _ _) hh_ah0 rfl (.cons (ZY _ _) hh_ah1 rfl (.cons (ZY _ _) hh_ah2 rfl (.cons (ZY _ _) hh_ah3 rfl (.cons (ZY _ _) hh_ah4 rfl (.cons (ZY _ _) hh_ah5 rfl .nil)))))) Zuj,gA0,gA1,gA2,gA3,gA4,gA5⟩,ZgQ gl sl (.cons (ZY _ _) hh_lh0 ⟨_,rfl⟩ (.cons (ZY _ _) hh_lh1 ⟨_,rfl⟩ .nil)) Zug⟩
def gt2{a:Addr}{x y:Str}{td:Option Addr}{ts:Array (Option Value)}{t1 t2:Tok}(h:K.lookup a=some ⟨.type "tuple",td,.seq #[.str x t1,.str y t2] n,ts⟩):Jz K a [.str x,.str y]:=⟨_,_,_,h,rfl,rfl,Jj (show (2:Nat)<=1000000 by decide),.cons ⟨_,rfl⟩ (.cons ⟨_,rfl⟩ .nil)⟩
def gt1{a:Addr}{x:Str}{td:Option Addr}{ts:Array (Option Value)}{t1:Tok}(h:K.lookup a=some ⟨.type "tuple",td,.seq #[.str x t1] n,ts⟩):Jz K a [.str x]:=⟨_,_,_,h,rfl,rfl,Jj (show (1:Nat)<=1000000 by decide),.cons ⟨_,rfl⟩ .nil⟩
def gt0{a:Addr}{td:Option Addr}{ts:Array (Option Value)}(h:K.lookup a=some ⟨.type "tuple",td,.seq #[] n,ts⟩):Jz K a []:=⟨_,_,_,h,rfl,rfl,by decide,.nil⟩
def Zu0(n:J0):Deed->V
 | .build _ _=>.int ((n.1.length:Int) + 1)
 | .cut _ _=>.int ((n.1.length:Int) + 1)
 | _=>.non
def Ztm(n:J0):Deed->Str
 | .build _ _=>ZK ((n.1.length:Int) + 1)
 | .cut _ _=>ZK ((n.1.length:Int) + 1)
 | _=>Str.ofString "ok"
def Ztg(H:Hp)(xs:List V):Deed->Prop
 | .come z k=>xs=[.str z,.int (k:Int)]
 | .go z=>xs=[.str z]
 | .move z k=>xs=[.str z,.int (k:Int)]
 | .reprice j t=>∃ y,xs=[.int ((j:Int) + 1),y]/\Jn H y t
 | .build to t=>∃ y,xs=[.int (to:Int),y]/\Jn H y t
 | .cut j t=>∃ y,xs=[.int ((j:Int) + 1),y]/\Jn H y t
def Zcu:Deed->Str
 | .come _ _=>"come"
 | .go _=>"go"
 | .move _ _=>"move"
 | .reprice _ _=>"price"
 | .build _ _=>"build"
 | .cut _ _=>"cut"
theorem Zi1(h:JH z):32 ∉ z.cps.toList/\z.length<=100:=⟨λm=>by have:=h.2.2 _ m; omega,by have:=h.2.1; omega⟩
theorem ZhK(h:n < 10000):32 ∉ (ZK (n:Int)).cps.toList/\(ZK (n:Int)).length<=100:=⟨Zbe (by omega),Yj (ZaM (by omega)) (by decide)⟩
theorem Zlv(h:Few t):32 ∉ (Jv t).cps.toList/\(Jv t).length<=100:=⟨Zil (by omega),Yj (ZcO h) (by decide)⟩
def lv2{R:Hp->V->α->Prop}{a b:α}(h:Jb R H xs [a,b]):∃ x y,xs=[x,y]/\R H x a/\R H y b:=by
 obtain⟨hl,h⟩:=h
 match xs,hl with
 | [x,y],_=>exact⟨x,y,rfl,h 0 _ _ rfl rfl,h 1 _ _ rfl rfl⟩
def lv1{R:Hp->V->α->Prop}{a:α}(h:Jb R H xs [a]):∃ x,xs=[x]/\R H x a:=by
 obtain⟨hl,h⟩:=h
 match xs,hl with
 | [x],_=>exact⟨x,rfl,h 0 _ _ rfl rfl⟩
structure RowRd(d:Deed)(ws ks:List Str):Prop where
 eq:Zt0 d=Zcu d :: ws
 dk:(Zcu d,ks)∈Zdx
 len:ks.length=ws.length
 few:ws.length<=2
 no:∀ z∈Zcu d :: ws,32 ∉ z.cps.toList/\z.length<=100
 ok:∀ kz∈ks.zip ws,ZgA kz
 rd:∀ H xs,Jb ZrW H xs (ks.zip ws)->Ztg H xs d
theorem Zdl{a b c:Str}(ha:32 ∉ a.cps.toList/\a.length<=100)(hb:32 ∉ b.cps.toList/\b.length<=100)(hc:32 ∉ c.cps.toList/\c.length<=100):∀ z∈[a,b,c],32 ∉ z.cps.toList/\z.length<=100:=λz hz=>by
 simp only [List.mem_cons,List.not_mem_nil,or_false] at hz
 rcases hz with rfl | rfl | rfl
 ·exact ha
 ·exact hb
 ·exact hc
theorem Zhc{a b:Str × Str}(ha:ZgA a)(hb:ZgA b):∀ z∈[a,b],ZgA z:=λz hz=>by
 simp only [List.mem_cons,List.not_mem_nil,or_false] at hz
 rcases hz with rfl | rfl
 ·exact ha
 ·exact hb
theorem Zf1(h:JH z):ZgA (Str.ofString "name",z):=.inl ⟨rfl,h⟩
theorem Zex(h:n < 10000):ZgA (Str.ofString "number",ZK (n:Int)):=.inr (.inl ⟨rfl,_,rfl,by omega,by omega⟩)
theorem ZiS(h:Few t)(h0:0<=t.num):ZgA (Str.ofString "fraction",Jv t):=.inr (.inr ⟨rfl,t,rfl,h,h0⟩)
def Zpe{d:Deed}(h:Zn9 d):∃ ws ks,RowRd d ws ks:=by
 cases d with
 | come z k =>
  refine⟨[z,ZK (k:Int)],["name","number"],rfl,by show (Str.ofString "come",_)∈Zdx; decide +kernel,rfl,by simp,Zdl (show 32 ∉ (Str.ofString "come").cps.toList/\(Str.ofString "come").length<=100 by decide +kernel) (Zi1 h.1) (ZhK (by have:=h.2; omega)),Zhc (Zf1 h.1) (Zex (by have:=h.2; omega)),λH xs hx=>?_⟩
  obtain⟨x,y,rfl,h1,h2⟩:=lv2 hx
  rw [h1.1 rfl,h2.2.1 rfl _ rfl (by omega) (by have:=h.2; omega)]
  rfl
 | go z =>
  refine⟨[z],["name"],rfl,by show (Str.ofString "go",_)∈Zdx; decide +kernel,rfl,by simp,λy hy=>?_,λy hy=>?_,λH xs hx=>?_⟩
  ·simp only [List.mem_cons,List.not_mem_nil,or_false] at hy
   rcases hy with rfl | rfl
   ·exact (show 32 ∉ (Str.ofString "go").cps.toList/\(Str.ofString "go").length<=100 by decide +kernel)
   ·exact Zi1 h
  ·rw [Y0.mp hy]; exact Zf1 h
  ·obtain⟨x,rfl,h1⟩:=lv1 hx
   rw [h1.1 rfl]
   rfl
 | move z k =>
  refine⟨[z,ZK (k:Int)],["name","number"],rfl,by show (Str.ofString "move",_)∈Zdx; decide +kernel,rfl,by simp,Zdl (show 32 ∉ (Str.ofString "move").cps.toList/\(Str.ofString "move").length<=100 by decide +kernel) (Zi1 h.1) (ZhK (by have:=h.2; omega)),Zhc (Zf1 h.1) (Zex (by have:=h.2; omega)),λH xs hx=>?_⟩
  obtain⟨x,y,rfl,h1,h2⟩:=lv2 hx
  rw [h1.1 rfl,h2.2.1 rfl _ rfl (by omega) (by have:=h.2; omega)]
  rfl
 | reprice j t =>
  refine⟨[ZK ((j:Int) + 1),Jv t],["number","fraction"],rfl,by show (Str.ofString "price",_)∈Zdx; decide +kernel,rfl,by simp,Zdl (show 32 ∉ (Str.ofString "price").cps.toList/\(Str.ofString "price").length<=100 by decide +kernel) (ZhK (n:=j + 1) (by have:=h.1; omega)) (Zlv h.2.1),Zhc (Zex (n:=j + 1) (by have:=h.1; omega)) (ZiS h.2.1 h.2.2),λH xs hx=>?_⟩
  obtain⟨x,y,rfl,h1,h2⟩:=lv2 hx
  rw [h1.2.1 rfl _ rfl (by omega) (by have:=h.1; omega)]
  exact⟨y,rfl,h2.2.2 rfl _ rfl h.2.1 h.2.2⟩
 | build to t =>
  refine⟨[ZK (to:Int),Jv t],["number","fraction"],rfl,by show (Str.ofString "build",_)∈Zdx; decide +kernel,rfl,by simp,Zdl (show 32 ∉ (Str.ofString "build").cps.toList/\(Str.ofString "build").length<=100 by decide +kernel) (ZhK (by have:=h.1; omega)) (Zlv h.2.1),Zhc (Zex (by have:=h.1; omega)) (ZiS h.2.1 h.2.2),λH xs hx=>?_⟩
  obtain⟨x,y,rfl,h1,h2⟩:=lv2 hx
  rw [h1.2.1 rfl _ rfl (by omega) (by have:=h.1; omega)]
  exact⟨y,rfl,h2.2.2 rfl _ rfl h.2.1 h.2.2⟩
 | cut j t =>
  refine⟨[ZK ((j:Int) + 1),Jv t],["number","fraction"],rfl,by show (Str.ofString "cut",_)∈Zdx; decide +kernel,rfl,by simp,Zdl (show 32 ∉ (Str.ofString "cut").cps.toList/\(Str.ofString "cut").length<=100 by decide +kernel) (ZhK (n:=j + 1) (by have:=h.1; omega)) (Zlv h.2.1),Zhc (Zex (n:=j + 1) (by have:=h.1; omega)) (ZiS h.2.1 h.2.2),λH xs hx=>?_⟩
  obtain⟨x,y,rfl,h1,h2⟩:=lv2 hx
  rw [h1.2.1 rfl _ rfl (by omega) (by have:=h.1; omega)]
  exact⟨y,rfl,h2.2.2 rfl _ rfl h.2.1 h.2.2⟩
section
variable {P:Program}{w:World}{K:PySem.W.Frag}{mg:Str->Option Value}{base:Heap}{f:Addr}{fd:FuncData}{CT CNP CS CD CND aD aA aL:Addr}
def ZgE(CS CT CND:Addr):Sp:=λvs H Q E=>∃ (ex:List Addr) (a ps l:Addr) (first:Str) (xs:List V) (n:J0) (past:List J0),vs=[.ref a,.str first,.ref l]/\ZI ex CS CT H a ps n.1 n.2 past/\past.length < 900/\H l=some (.lst xs) /\
 ((∃ dd i,first=Zcu dd/\Ztg H xs dd/\JX i n/\i < 23/\Zfx i n dd/\∀ H',Z9 a ps H H'->ZI ex CS CT H' a ps (done dd n).1 (done dd n).2 (past ++ [n])->Q (Zu0 n dd) H') \/
  (first=Str.ofString "back"/\(∀ past0 m,past=past0 ++ [m]->Zfq ex CS CT a ps H m.1 m.2 past0 (Q .non))/\(past=[]->E (.ref CND) none H)))
def Zna(F:FunD K "done" "done" ZdG .none f fd)(ZmJ:Mth P w K mg base Zx 3 CS "come" ["self","name","k"] (Zld CS CT))(Zua:Mth P w K mg base Zx 3 CS "go" ["self","name"] (ZrI CS CT))(Zlt:Mth P w K mg base Zx 3 CS "move" ["self","name","k"] (ZkO CS CT))(Ze0:Mth P w K mg base Zx 9 CS "reprice" ["self","k","price"] (ZfH CS CT))
  (Zh4:Mth P w K mg base Zx 9 CS "build" ["self","to","price"] (ZjB CS CT)) (ZqV:Mth P w K mg base Zx 9 CS "cut" ["self","k","price"] (Zpf CS CT)) (Zlg:Mth P w K mg base (CX1 P w) 1 CS "back" ["self"] (ZjG CS CT CND)):FnOk P w K mg base (CX1 P w) 10 f fd ["shire","first","words"] (ZgE CS CT CND):=by
 refine okX F Zp9 (λvs H Q E h=>?_) (λcdv A outer s H vs Q E hr h=>?_)
 ·obtain⟨ex,a,ps,l,first,xs,n,past,rfl,_⟩:=h; rfl
 obtain⟨ex,a,ps,l,first,xs,n,past,rfl,hS,hpl,hl,h⟩:=h
 obtain⟨dx,tr,ds,pv,h1,_⟩:=id hS
 refine⟨_,(Zd (ZN (Jq (Zf 1) Zv) (Zk (Zr (ZZ ZmJ hr (by decide) (Zf 0) (Zm (ZE (Zf 2) Zb) (Zm (ZE (Zf 2) Zb) Zc))))) Zy)
   (Zd (ZN (Jq (Zf 1) Zv) (Zk (Zr (ZZ Zua hr (by decide) (Zf 0) (Zm (ZE (Zf 2) Zb) Zc)))) Zy)
   (Zd (ZN (Jq (Zf 1) Zv) (Zk (Zr (ZZ Zlt hr (by decide) (Zf 0) (Zm (ZE (Zf 2) Zb) (Zm (ZE (Zf 2) Zb) Zc))))) Zy)
   (Zd (ZN (Jq (Zf 1) Zv) (Zk (Zr (ZZ Ze0 hr (by decide) (Zf 0) (Zm (ZE (Zf 2) Zb) (Zm (ZE (Zf 2) Zb) Zc))))) Zy)
   (Zd (ZN (Jq (Zf 1) Zv) (Zk (Zr (ZZ ZqV hr (by decide) (Zf 0) (Zm (ZE (Zf 2) Zb) (Zm (ZE (Zf 2) Zb) Zc))))) Zy)
   (Zd (ZN (Jq (Zf 1) Zv) (Zk (Zr (ZZ Zh4 hr (by decide) (Zf 0) (Zm (ZE (Zf 2) Zb) (Zm (ZE (Zf 2) Zb) Zc))))) Zy)
   (Zk (Zr (Zoq ZiH Zlg hr (by decide) (Zf 0)))))))))),?_⟩
 rw [show Zu ["shire","first","words"] [.ref a,.str first,.ref l]=[some (.ref a),some (.str first),some (.ref l)] from rfl]
 walk_at "rd"
 rcases h with ⟨dd,i,ef,hx,hN,hi,hO,q⟩ | ⟨ef,q1,q2⟩
 ·have hH:=hN.2
  have hT:=hN.1.1
  have hz:=hN.1.2.2
  have hl6:=hN.2.2.1
  have hlr:=hN.1.2.1
  have hnn:∀ r∈n.1,0<=r.2.num:=λr hr=>(hz r hr).2
  have hok:=Zmv hi hN hO
  cases dd with
  | come z k =>
   obtain rfl:first=Str.ofString "come":=ef
   obtain rfl:xs=[.str z,.int (k:Int)]:=hx
   rw [if_pos rfl]
   obtain⟨⟨j,sN,hj,rfl⟩,hk,hlen⟩:=hO
   exact⟨dx,_,h1,rfl,_,hl,_,rfl,_,hl,_,rfl,ex,a,ps,n.1,n.2,past,_,_,rfl,hS,by omega,by omega,Zgk j sN,Zob hH hj sN,⟨by omega,by omega⟩,q⟩
  | go z =>
   obtain rfl:first=Str.ofString "go":=ef
   obtain rfl:xs=[.str z]:=hx
   rw [if_neg (by decide +kernel),if_pos rfl]
   exact⟨dx,_,h1,rfl,_,hl,_,rfl,ex,a,ps,n.1,n.2,past,_,rfl,hS,by omega,(Zdn hH hO).2,hO,q⟩
  | move z k =>
   obtain rfl:first=Str.ofString "move":=ef
   obtain rfl:xs=[.str z,.int (k:Int)]:=hx
   rw [if_neg (by decide +kernel),if_neg (by decide +kernel),if_pos rfl]
   exact⟨dx,_,h1,rfl,_,hl,_,rfl,_,hl,_,rfl,ex,a,ps,n.1,n.2,past,_,_,rfl,hS,by omega,by omega,(Zdn hH hO.1).2,hO.1,⟨by omega,by have:=hO.2; omega⟩,q⟩
  | reprice j t =>
   obtain rfl:first=Str.ofString "price":=ef
   obtain⟨y,rfl,hy⟩:=hx
   rw [if_neg (by decide +kernel),if_neg (by decide +kernel),if_neg (by decide +kernel),if_pos rfl]
   exact⟨dx,_,h1,rfl,_,hl,_,rfl,_,hl,_,rfl,ex,a,ps,n.1,n.2,past,j,y,t,rfl,hS,by omega,hy,hO.2.2,hO.1,by omega,hok.1.1,λr hr=>(hok.1.2.2 r hr).2,q⟩
  | build to t =>
   obtain rfl:first=Str.ofString "build":=ef
   obtain⟨y,rfl,hy⟩:=hx
   rw [if_neg (by decide +kernel),if_neg (by decide +kernel),if_neg (by decide +kernel),if_neg (by decide +kernel),if_neg (by decide +kernel),if_pos rfl]
   exact⟨dx,_,h1,rfl,_,hl,_,rfl,_,hl,_,rfl,ex,a,ps,n.1,n.2,past,to,y,t,rfl,hS,by omega,hy,hO.2.2,hO.1,by omega,hok.1.1,λr hr=>(hok.1.2.2 r hr).2,q⟩
  | cut j t =>
   obtain rfl:first=Str.ofString "cut":=ef
   obtain⟨y,rfl,hy⟩:=hx
   obtain⟨r,hrj,z1,z2,z3,z4,z5⟩:=hO
   obtain⟨_,_,_,hto⟩:=id hT
   have hr1:=(hto j r hrj).1
   rw [if_neg (by decide +kernel),if_neg (by decide +kernel),if_neg (by decide +kernel),if_neg (by decide +kernel),if_pos rfl]
   refine⟨dx,_,h1,rfl,_,hl,_,rfl,_,hl,_,rfl,ex,a,ps,n.1,n.2,past,j,y,t,r,rfl,hS,by omega,hy,z2,hrj,by omega,(hz r (Yx hrj)).1.mono (by decide),z1.mono (by decide),z3,Ze2 hT hr1 t,λu hu=>?_,hok.1.1,λu hu=>(hok.1.2.2 u hu).2,q⟩
   rcases Yz.mp hu with g | g
   ·exact hnn u g
   ·rw [Y0.mp g]; exact z2
 ·subst ef
  rw [if_neg (by decide +kernel),if_neg (by decide +kernel),if_neg (by decide +kernel),if_neg (by decide +kernel),if_neg (by decide +kernel),if_neg (by decide +kernel)]
  exact⟨dx,_,h1,rfl,ex,a,ps,n.1,n.2,past,rfl,hS,by omega,q1,q2⟩
def ZgM(CS CT:Addr):Sp:=λvs H Q _=>∃ (ex:List Addr) (a ps:Addr) (first:Str) (x:V) (n:J0) (past:List J0) (i:Nat),vs=[.ref a,.str first,x]/\ZI ex CS CT H a ps n.1 n.2 past/\JX i n/\i<=23 /\
 ((first=Str.ofString "tree"/\∀ H',Zn H H'->Q (.str (JO n.1)) H')\/(first=Str.ofString "homes"/\∀ (ts:List Str) H',ts.Pairwise leS->(ts.map (Sum.inr:Str->Z7)).Perm (n.2.map (·.1))->Zn H H'->Q (.str (Zre n.2 ts)) H'))
def Ztw(h:ZhL i rs)(hi:i<=23):(∀ r∈rs,Few r.2/\r.1 < 10 ^ 30)/\rs.length<=40:=by
 have hl:=h.2.1
 obtain⟨_,_,_,hto⟩:=id h.1
 refine⟨λr hr=>⟨ZnM (h.2.2 r hr).1,?_⟩,by omega⟩
 obtain⟨j,hj⟩:=YT hr
 have:=(hto j r hj).1
 omega
def Znf(F:Fun K "told" "told" ZfN f fd)(Zc0:Fn P w K mg base Zx 4 "show_tree" ["tree"] (ZeZ CT))(ZcC:Fn P w K mg base Zx 2 "show_homes" ["homes"] Zd5)(Zmo:Mth P w K mg base Zx 1 CS "tree" ["self"] (ZjQ CS CT))(ZiR:Mth P w K mg base Zx 1 CS "homes" ["self"] (ZgV CS CT)):FnOk P w K mg base Zx 5 f fd ["shire","first","words"] (ZgM CS CT):=by
 refine JA F ZpL λcdv A outer s H vs Q E hr h=>?_
 obtain⟨ex,a,ps,first,x,n,past,i,rfl,hS,hN,hi,h⟩:=h
 obtain⟨dx,tr,ds,pv,h1,_⟩:=id hS
 refine⟨_,(Zd (ZN (Jq (Zf 1) Zv) (Zk (Zr (Jp Zc0 hr (Zm (Zcq Zmo hr (by decide) (Zf 0)) Zc)))) Zy)
   (Zd (ZN (Jq (Zf 1) Zv) (Zk (Zr (Jp ZcC hr (Zm (Zcq ZiR hr (by decide) (Zf 0)) Zc)))) Zy)
   (Zd (ZN (Jq (Zf 1) Zv) (Zk (Zr (Zj7))) Zy)
   (Zd (ZN (Jq (Zf 1) Zv) (Zk (Zr (Zj7))) Zy)
   (Zd (ZN (Jq (Zf 1) Zv) (Zk (Zr (Zj7))) Zy)
   (Zk (Zr (Zj7)))))))),?_⟩
 rw [show Zu ["shire","first","words"] [.ref a,.str first,x]=[some (.ref a),some (.str first),some (x)] from rfl]
 walk_at "rd"
 rcases h with ⟨ef,q⟩ | ⟨ef,q⟩
 ·subst ef
  rw [if_pos rfl]
  have hf:=Ztw hN.1 hi
  exact⟨dx,_,h1,rfl,ex,a,ps,n.1,n.2,past,rfl,hS,λx hx=>⟨x,n.1,rfl,hx.same (λb o e=>Zbv _ _ e),hf.1,hf.2,q⟩⟩
 ·subst ef
  rw [if_neg (by decide +kernel),if_pos rfl]
  exact⟨dx,_,h1,rfl,ex,a,ps,n.1,n.2,past,rfl,hS,λd H1 hd s1 e1=>⟨d,n.2,i,rfl,e1,hN.2,λts H2 h2 h3 s2=>q ts H2 h2 h3 (s1.trans s2)⟩⟩
def Zjy(CD CS CT CND:Addr):Sp:=λvs H Q E=>∃ (x dx:Addr) (ex:List Addr) (a ps:Addr) (row:Str) (n:J0) (past:List J0) (i:Nat),vs=[.ref x,.str row]/\H x=some (.ins CD dx [("shire",.ref a)])/\ZI ex CS CT H a ps n.1 n.2 past/\past.length < 900/\JX i n/\i<=23 /\
 ((row=Str.ofString "tree"/\∀ H',Zn H H'->Q (.str (JO n.1)) H')\/(row=Str.ofString "homes"/\∀ (ts:List Str) H',ts.Pairwise leS->(ts.map (Sum.inr:Str->Z7)).Perm (n.2.map (·.1))->Zn H H'->Q (.str (Zre n.2 ts)) H') \/
  (∃ dd,row=ZrL dd/\Zfx i n dd/\i < 23/\∀ H',Z9 a ps H H'->ZI ex CS CT H' a ps (done dd n).1 (done dd n).2 (past ++ [n])->Q (.str (Ztm n dd)) H') \/
  (row=Str.ofString "back"/\(∀ past0 m,past=past0 ++ [m]->Zfq ex CS CT a ps H m.1 m.2 past0 (Q (.str "ok")))/\(past=[]->∀ H',Zn H H'->E (.ref CND) none H')))
theorem ZgJ:Txt.join (one 32) [z]=z:=ZjM 32 z
def ZrC(F:FunD K "say" "Desk.say" Za1 .none f fd)(ZdT:mg "DEEDS"=some (.ref aD))(dt:DeskT P w K aD aA aL)(ZbD:Cls K CD)(Zbz:ZJ K CD "shire")(ZdV:Fn P w K mg base Zx 6 "read_row" ["row"] ZfK)(ZmK:Fn P w K mg base Zx 5 "told" ["shire","first","words"] (ZgM CS CT))(ZlE:Fn P w K mg base (CX1 P w) 10 "done" ["shire","first","words"] (ZgE CS CT CND)):FnOk P w K mg base (CX1 P w) 11 f fd ["self","row"] (Zjy CD CS CT CND):=by
 refine okX F Zcm (λvs H Q E h=>?_) (λcdv A outer s H vs Q E hr h=>?_)
 ·obtain⟨x,dx,ex,a,ps,row,n,past,i,rfl,_⟩:=h; rfl
 obtain⟨x,dx,ex,a,ps,row,n,past,i,rfl,hx,hS,hpl,hN,hi,h⟩:=h
 refine⟨_,(Zd (Zt 2 Zcm.nd (Jp ZdV hr (Zm (Zf 1) Zc)))
   (Zd (Zt 3 Zcm.nd (ZE (Zf 2) Zb))
   (Zd (ZN (Ztc (Zf 3) (ZmI rfl ZdT)) (Zk (Zr (Jp ZmK hr (Zm (Z2 (Zf 0)) (Zm (Zf 3) (Zm (Zgg (Zf 2) Zb) Zc)))))) Zy)
   (Zd (Zt 4 Zcm.nd (Zut ZiH ZlE hr (by decide) rfl (Zm (Z2 (Zf 0)) (Zm (Zf 3) (Zm (Zgg (Zf 2) Zb) Zc)))))
   (Zk (Zr (Zh2 (ZrN (Zf 4) ZqS) Zv (ZrG (Zf 4))))))))),?_⟩
 rw [show Zu ["self","row","words","first","fresh"] [.ref x,.str row]=[some (.ref x),some (.str row),none,none,none] from rfl]
 refine Zo λB hB=>?_
 walk_at "rd"
 have kT:∀ first l H1 xs,Ztr first->Zn H H1->H1 l=some (.lst (.str first :: xs))->(∀ H2 y,Zn H H2->ZgM CS CT [.ref a,.str first,y] H2 Q E0)->B [some (V.ref x),some (V.str row),some (V.ref l),none,none] H1:=by
  intro first l H1 xs hA s1 e1 k
  obtain⟨⟨kvs,hD,hv⟩,_⟩:=Zr6 dt hA
  subst hB
  try dsimp only
  refine Zo λB hB=>?_
  walk_at "rd"
  refine⟨_,e1,_,Zsa _ _,?_⟩
  subst hB
  try dsimp only
  refine Zo λB hB=>?_
  walk_at "rd"
  refine⟨kvs,hD,Sum.inr first,rfl,?_⟩
  rw [hv,if_pos (show (none:Option V).isSome=false from rfl)]
  exact⟨CD,dx,_,s1 _ _ hx,ZbD,Zbz,.ref a,rfl,l,_,rfl,.of e1,λl4 hl4=>k _ _ (s1.trans (ZS hl4 _))⟩
 have kD:∀ first ks l H1 xs,(first,ks)∈Zdx->Zn H H1->H1 l=some (.lst (.str first :: xs))->(∀ H2 l2 (Q':VK),Zn H H2->(∀ b ys,H1 b=some (.tup ys)->H2 b=some (.tup ys))->H2 l2=some (.lst xs)->(∀ v H3,(v=.non/\Q (.str (Str.ofString "ok")) H3\/∃ j:Int,v=.int j/\j.natAbs < 10 ^ 30/\Q (.str (ZK j)) H3)->Q' v H3)->ZgE CS CT CND [.ref a,.str first,.ref l2] H2 Q' E)->B [some (V.ref x),some (V.str row),some (V.ref l),none,none] H1:=by
  intro first ks l H1 xs hA s1 e1 k
  obtain⟨kvs,T,hD,hv,_⟩:=Zpk dt hA
  subst hB
  try dsimp only
  refine Zo λB hB=>?_
  walk_at "rd"
  refine⟨_,e1,_,Zsa _ _,?_⟩
  subst hB
  try dsimp only
  refine Zo λB hB=>?_
  walk_at "rd"
  refine⟨kvs,hD,Sum.inr first,rfl,?_⟩
  rw [hv,if_neg (λz=>nomatch z)]
  subst hB
  try dsimp only
  refine Zo λB hB=>?_
  walk_at "rd"
  refine⟨CD,dx,_,s1 _ _ hx,ZbD,Zbz,.ref a,rfl,l,_,rfl,.of e1,λl4 hl4=>?_⟩
  rw [Zes]
  refine k _ l4 _ (s1.trans (ZS hl4 _)) (λb ys eb=>ZS hl4 _ _ _ eb) Zl (λv H3 hv3=>?_)
  subst hB
  try dsimp only
  walk_at "rd"
  rcases hv3 with ⟨rfl,q3⟩ | ⟨j,rfl,hj,q3⟩
  ·rw [if_pos rfl]
   exact q3
  ·rw [if_neg (λz=>nomatch z)]
   exact⟨_,.inl ⟨j,rfl,Zbw hj,rfl⟩,q3⟩
 have hnl:=(Ztw hN.1 hi).2
 have kx:∀ {H2 H3:Hp},Zn H H2->Z9 a ps H2 H3->Z9 a ps H H3:=λs2 k3 b o g1 g2 e=>k3 b o g1 g2 (s2 _ _ e)
 rcases h with ⟨rfl,q⟩ | ⟨rfl,q⟩ | ⟨dd,rfl,hO,hi2,q⟩ | ⟨rfl,q1,q2⟩
 ·exact⟨Str.ofString "tree",[],[],by rw [ZgJ],.inr ⟨.inl rfl,rfl⟩,rfl,by simp,λz hz=>by rw [List.mem_singleton.mp hz]; decide +kernel,λkz h=>by simp at h,λl H1 xs s1 e1 _=>kT _ l H1 xs (.inl rfl) s1 e1 λH2 y s2=>⟨ex,a,ps,_,y,n,past,i,rfl,hS.same s2,hN,hi,.inl ⟨rfl,λH3 s3=>q H3 (s2.trans s3)⟩⟩⟩
 ·exact⟨Str.ofString "homes",[],[],by rw [ZgJ],.inr ⟨.inr rfl,rfl⟩,rfl,by simp,λz hz=>by rw [List.mem_singleton.mp hz]; decide +kernel,λkz h=>by simp at h,λl H1 xs s1 e1 _=>kT _ l H1 xs (.inr rfl) s1 e1 λH2 y s2=>⟨ex,a,ps,_,y,n,past,i,rfl,hS.same s2,hN,hi,.inr ⟨rfl,λts H3 h2 h3 s3=>q ts H3 h2 h3 (s2.trans s3)⟩⟩⟩
 ·obtain⟨ws,ks,R⟩:=Zpe (Zjo hi2 hN hO)
  refine⟨Zcu dd,ws,ks,by unfold ZrL; rw [R.eq],.inl R.dk,R.len,R.few,R.no,R.ok,λl H1 xs s1 e1 hL=>kD _ ks l H1 xs R.dk s1 e1 λH2 l2 Q' s2 st el2 hQ=>⟨ex,a,ps,l2,_,xs,n,past,rfl,hS.same s2,hpl,el2,.inl ⟨dd,i,rfl,R.rd H2 xs (hL.keep ZeC st),hN,hi2,hO,λH3 k3 hS3=>hQ _ H3 ?_⟩⟩⟩
  have q':=q H3 (kx s2 k3) hS3
  cases dd with
  | build to t=>exact .inr ⟨_,rfl,by omega,q'⟩
  | cut j t=>exact .inr ⟨_,rfl,by omega,q'⟩
  | come z k=>exact .inl ⟨rfl,q'⟩
  | go z=>exact .inl ⟨rfl,q'⟩
  | move z k=>exact .inl ⟨rfl,q'⟩
  | reprice j t=>exact .inl ⟨rfl,q'⟩
 ·have hb:(Str.ofString "back",([]:List Str))∈Zdx:=by decide +kernel
  exact⟨Str.ofString "back",[],[],by rw [ZgJ],.inl hb,rfl,by simp,λz hz=>by rw [List.mem_singleton.mp hz]; decide +kernel,λkz h=>by simp at h,λl H1 xs s1 e1 _=>kD _ [] l H1 xs hb s1 e1 λH2 l2 Q' s2 st el2 hQ=>⟨ex,a,ps,l2,_,xs,n,past,rfl,hS.same s2,hpl,el2,.inr ⟨rfl,λpast0 m e H3 k3 hS3=>hQ .non H3 (.inl ⟨rfl,q1 past0 m e H3 (kx s2 k3) hS3⟩),λe=>q2 e _ s2⟩⟩⟩
end
section
variable {P:Program}{w:World}{K:PySem.W.Frag}{mg:Str->Option Value}{base:Heap}{f:Addr}{fd:FuncData}{CT CNP CS CD CND CSE aD aA aL:Addr}
def Zi9(CD CS CT:Addr):Sp:=λvs H Q _=>∃ (x dx:Addr) (rs:List (Nat × Rat)) (ol:List Addr),vs=[.ref x,.str (JO rs)]/\H x=some (.ins CD dx [])/\Jd rs/\(∀ r∈rs,Few r.2/\r.1 < 10 ^ 30)/\(∀ r∈rs,0<=r.2.num)/\rs.length<=40/\Zdg ol H /\
 ∀ H' a ps ds da tr G,(∀ b o,b ≠ x->H b=some o->H' b=some o)->H a=none->H ps=none->a ≠ x->ps ≠ x->H' x=some (.ins CD dx [("shire",.ref a)])->H' a=some (.ins CS da [("land",tr),("places",.ref ds),("past",.ref ps)])->H' ps=some (.lst [])->H' ds=some (.dK [])->ZM CT G tr rs->(∀ b o,G b=some o->b ≠ x/\b ≠ a/\b ≠ ps/\b ∉ ol/\H' b=some o)->Q .non H'
def ZmX(F:Fun K "__init__" "Desk.__init__" Zah f fd)(ZbD:Cls K CD)(Zbz:ZJ K CD "shire")(Zc4:Fn P w K mg base Zx 8 "read_tree" ["text"] (ZeY CT))(ZiN:Mkr P w K mg base Zx 1 CS "Shire" ["self","tree"] (ZjJ CS)):FnOk P w K mg base Zx 9 f fd ["self","text"] (Zi9 CD CS CT):=by
 refine JA F Zee λcdv A outer s H vs Q E hr h=>?_
 obtain⟨x,dx,rs,ol,rfl,hx,hT,hf,hn,hl,hol,q⟩:=h
 refine⟨_,(Zk (Zfn (Zf 0) (ZfP ZiN hr (by decide) rfl (Zm (Jp Zc4 hr (Zm (Zf 1) Zc)) Zc)))),?_⟩
 rw [show Zu ["self","text"] [.ref x,.str (JO rs)]=[some (.ref x),some (.str (JO rs))] from rfl]
 walk_at "rd"
 refine⟨rs,rfl,hT,hf,hn,hl,λtr H1 s1 hTr hd1 a da ha hda hne=>?_⟩
 have hx1:=s1 _ _ hx
 have old:∀ b o,H1 b=some o->upd (upd H1 da (.own a)) a (.ins CS da []) b=some o:=λb o e=>by rw [Zj (Ze e ha),Zj (Ze e hda)]; exact e
 refine⟨a,da,tr,rfl,Zl,λH2 ps ds k2 hps hds i2 p2 d2=>?_⟩
 have hps1:H1 ps=none:=by
  cases z:H1 ps with
  | none=>rfl
  | some o=>rw [old _ _ z] at hps; cases hps
 have k1:∀ b o,H1 b=some o->H2 b=some o:=λb o e=>k2 b o (Ze e ha) (old b o e)
 have hx2:=k1 _ _ hx1
 have nax:a ≠ x:=λz=>by rw [z,hx1] at ha; cases ha
 have npx:ps ≠ x:=λz=>by rw [z,hx1] at hps1; cases hps1
 have hol1:Zdg ol H1:=λl h=>let ⟨zs,e⟩:=hol l h; ⟨zs,s1 _ _ e⟩
 have hTr':ZM CT (Jw ol H1) tr rs:=Zhj hTr hol1 λl h=>let ⟨zs,e⟩:=hol l h; Zjj λys=>hd1 l zs e H1 (λ_ _ z=>z) ys
 have hx1':Jw ol H1 x=some (.ins CD dx []):=Zz.mpr ⟨λz=>(by obtain⟨zs,e⟩:=hol x z; rw [hx] at e; cases e),hx1⟩
 refine⟨rfl,CD,dx,_,hx2,ZbD,Zbz,by decide,?_⟩
 refine q _ a ps ds da tr (del x (Jw ol H1)) (λb o hb e=>by rw [Zj hb]; exact k1 _ _ (s1 _ _ e)) (s1.free ha) (s1.free hps1) nax npx Zl (by rw [Zj nax]; exact i2) (by rw [Zj npx]; exact p2) (by rw [Zj (λz=>by rw [z,hx2] at d2; cases d2)]; exact d2) (Zgi hTr' hx1' (Zi2 hTr' hx1' (by decide))) (λb o e=>?_)
 obtain⟨g1,g2⟩:=Za3.mp e
 obtain⟨g3,g4⟩:=Zz.mp g2
 exact⟨g1,Ze g4 ha,Ze g4 hps1,g3,by rw [Zj g1]; exact k1 _ _ g4⟩
def Zju(CD CS CT:Addr):Sp:=λvs H Q _=>∃ (x dx:Addr) (ex:List Addr) (a ps p d:Addr) (rx:List V) (n:J0) (past:List J0) (i:Nat),vs=[.ref x,.ref p,.ref d]/\H x=some (.ins CD dx [("shire",.ref a)])/\ZI ex CS CT H a ps n.1 n.2 past/\past.length < 900/\JX i n/\i<=23/\H p=some (.lst rx)/\ZR H rx n.1/\H d=some (.dK n.2)/\∀ H',Zn H H'->Q (.bl true) H'
def Zn4(F:Fun K "_law_shows" "_law_shows" Zbn f fd)(Zp:mg "isinstance"=none)(Jl:mg "str"=none)(ZhC:Mth P w K mg base Zx 11 CD "say" ["self","row"] (λvs H Q _=>Zjy CD CS CT CND vs H Q E0))(Zas:Fn P w K mg base Zx 3 "_law_tree_text" ["_law_roads"] Zda)(Zbu:Fn P w K mg base Zx 2 "_law_homes_text" ["_law_homes"] Zd6):FnOk P w K mg base Zx 12 f fd ["_law_desk","_law_roads","_law_homes"] (Zju CD CS CT):=by
 refine JA F Zcy λcdv A outer s H vs Q E hr h=>?_
 obtain⟨x,dx,ex,a,ps,p,d,rx,n,past,i,rfl,hx,hS,hpl,hN,hi,hp,hR,hd,q⟩:=h
 refine⟨_,(Zd (Zt 3 Zcy.nd (ZZ ZhC hr (by decide) (Zf 0) (Zm Zv Zc)))
   (Zd (Zt 4 Zcy.nd (ZZ ZhC hr (by decide) (Zf 0) (Zm Zv Zc)))
   (Zd (ZN (t_w (J3 (Jr (Jk (ZcY rfl Zp (Zm (Zf 3) (Zm (ZmN rfl Jl rfl) Zc))))) (JV (Jr (Jk (ZcY rfl Zp (Zm (Zf 4) (Zm (ZmN rfl Jl rfl) Zc)))))))) (Zk (Zr ZnR)) Zy)
   (Zk (Zr (ZhF (Ztd (Zf 3) (Jp Zas hr (Zm (Zf 1) Zc))) (Zix (Ztd (Zf 4) (Jp Zbu hr (Zm (Zf 2) Zc)))))))))),?_⟩
 rw [show Zu ["_law_desk","_law_roads","_law_homes","_law_told","_law_other"] [.ref x,.ref p,.ref d]=[some (.ref x),some (.ref p),some (.ref d),none,none] from rfl]
 walk_at "rd"
 have hf:=Ztw hN.1 hi
 refine⟨dx,_,hx,rfl,x,dx,ex,a,ps,_,n,past,i,rfl,hx,hS,hpl,hN,hi,.inl ⟨rfl,λH1 s1=>⟨dx,_,s1 _ _ hx,rfl,x,dx,ex,a,ps,_,n,past,i,rfl,s1 _ _ hx,hS.same s1,hpl,hN,hi,.inr (.inl ⟨rfl,λts H2 hpw hperm s2=>?_⟩)⟩⟩⟩
 have s12:=s1.trans s2
 refine⟨"str",rfl,?_⟩
 rw [if_neg (by decide)]
 refine⟨"str",rfl,?_⟩
 rw [if_neg (by decide)]
 refine⟨p,rx,n.1,rfl,s12 _ _ hp,hR.same s12,hf.1,hf.2,λH3 s3=>⟨rfl,?_⟩⟩
 rw [if_pos rfl]
 refine⟨d,n.2,i,rfl,(s12.trans s3) _ _ hd,hN.2,λts' H4 hpw' hperm' s4=>?_⟩
 have ets:ts=ts':=by
  have h1:(ts.map (Sum.inr:Str->Z7)).Perm (ts'.map Sum.inr):=hperm.trans hperm'.symm
  have h2:=h1.map (λk:Z7=>match k with | Sum.inr z=>z | Sum.inl _=>Str.empty)
  rw [YQ,YQ] at h2
  have h3:∀ l:List Str,l.map ((λk:Z7=>match k with | Sum.inr z=>z | Sum.inl _=>Str.empty) ∘ Sum.inr)=l:=λl=>List.map_id' l
  rw [h3,h3] at h2
  exact ZiY hpw hpw' h2
 subst ets
 refine⟨rfl,?_⟩
 rw [Yt rfl]
 exact q _ ((s12.trans s3).trans s4)
def Zjx(CD CS CT:Addr):Sp:=λvs H Q _=>∃ (x dx:Addr) (ex:List Addr) (a ps l:Addr) (lv:List V) (n:J0) (past:List J0) (i:Nat),vs=[.ref x,.ref l]/\H x=some (.ins CD dx [("shire",.ref a)])/\ZI ex CS CT H a ps n.1 n.2 past/\past.length < 900/\JX i n/\i<=23/\H l=some (.lst lv)/\l ≠ ps/\lv.length=past.length /\
 (∀ past0 m,past=past0 ++ [m]->∀ H',Z9 a ps H H'->ZI ex CS CT H' a ps m.1 m.2 past0->Q (.bl true) H')/\(past=[]->∀ H',Zn H H'->Q (.bl true) H')
def Znq(F:Fun K "_law_back" "_law_back" ZbJ f fd)(Zp:mg "isinstance"=none)(ZcH:mg "ShareError"=some (.ref CSE))(ZcM:mg "NoDeed"=some (.ref CND))(xk:ExcK K CND)(e1:exmOne K (.ref CND) (.ref CSE)=some true)(e3:kitOne K (.ref CND) (.ref CND)=some true)(ZhC:Mth P w K mg base (CX1 P w) 11 CD "say" ["self","row"] (Zjy CD CS CT CND)):FnOk P w K mg base Zx 12 f fd ["_law_desk","_law_past"] (Zjx CD CS CT):=by
 refine JA F Zc8 λcdv A outer s H vs Q E hr h=>?_
 obtain⟨x,dx,ex,a,ps,l,lv,n,past,i,rfl,hx,hS,hpl,hN,hi,hl,hlp,hll,q1,q2⟩:=h
 refine⟨_,(Zd (ZtX 3 ZjK Zc8.nd ZcH (ZsV 2 Zc8.nd (Zsf ZjK ZhC hr (by decide) (Zf 0) (Zm Zv Zc))) (by exact λea=>(Zk (Zr (ZhF (Ztb hr (Zf 1) (JK Zc)) (Zix (Zq9 rfl Zp (Zm (Zf 3) (Zm (ZmI rfl ZcM) Zc)))))))))
   (Zk (Zr (ZhF (ZuD hr (Zf 1) (JK Zc)) (Zix (Ztd (Zf 2) Zv)))))),?_⟩
 rw [show Zu ["_law_desk","_law_past","_law_told","e"] [.ref x,.ref l]=[some (.ref x),some (.ref l),none,none] from rfl]
 refine Zo λB hB=>?_
 walk_at "rd"
 obtain⟨dy,tr,ds,pv,g1,g2,_⟩:=id hS
 refine⟨dx,_,hx,rfl,x,dx,ex,a,ps,_,n,past,i,rfl,hx,hS,hpl,hN,hi,.inr (.inr (.inr ⟨rfl,λpast0 m ep H1 k1 hS1=>?_,λep H1 s1=>?_⟩))⟩
 ·subst hB
  try dsimp only
  walk_at "rd"
  intro p1 H2 hp1 s2 e2
  have hl1:=k1 l _ (λz=>by rw [z,g1] at hl; cases hl) hlp hl
  have hne:lv.length ≠ 0:=by rw [hll,ep]; simp
  refine⟨_,1,l,p1,rfl,rfl,Zdm (s2 _ _ hl1) e2,by decide,?_⟩
  rw [Yp hne]
  refine⟨_,rfl,?_⟩
  rw [if_pos (show (!false)=true from rfl)]
  exact q1 past0 m ep H2 (λb o h1 h2 e=>s2 _ _ (k1 b o h1 h2 e)) (hS1.same s2)
 ·refine⟨CND,rfl,e1,λea hn=>?_⟩
  walk_at "rd"
  intro p1 H2 hp1 s2 e2
  have S2:=s1.trans ((ZS hn (Zls CND ea)).trans s2)
  have hz:lv.length=0:=by rw [hll,ep]; rfl
  refine⟨_,1,l,p1,rfl,rfl,Zdm (S2 _ _ hl) e2,by decide,?_⟩
  rw [Yt hz]
  refine⟨_,rfl,?_⟩
  rw [if_pos rfl]
  exact⟨ea,CND,_,_,true,rfl,s2 ea _ Zl,xk,rfl,e3,q2 ep H2 S2⟩
end
theorem ZI.other{CS CT C':Addr}{H H':Hp}{a ps b qs dx:Addr}{fs:List (Str × V)}{past:List J0}(h:ZI ex CS CT H a ps rs kvs past)(hb:H b=some (.ins C' dx fs))(hf:fs.length ≠ 2)(hne:a ≠ b)(hq:qs∈ex)(k:Z9 b qs H H')(hl:Zdg ex H'):ZI ex CS CT H' a ps rs kvs past:=by
 obtain⟨dy,tr,ds,pv,h1,h2,h3,h4,h5,h6,h7⟩:=h
 have nb:ps ≠ b:=λz=>by rw [z,hb] at h2; cases h2
 have nq:ps ≠ qs:=λz=>h7 (z ▸ hq)
 have naq:a ≠ qs:=λz=>by obtain⟨zs,e⟩:=h6 qs hq; rw [<- z,h1] at e; cases e
 have so:Zn (del b (off ex a ps H)) (off ex a ps H'):=λc o e=>by
  obtain⟨g0,e⟩:=Za3.mp e
  obtain⟨g1,g2,g3,g4⟩:=Je.mp e
  exact Je.mpr ⟨g1,g2,g3,k _ _ g0 (λz=>g3 (z ▸ hq)) g4⟩
 by_cases cb:b=ps\/b∈ex
 ·exfalso
  rcases cb with z | z
  ·exact nb z.symm
  ·obtain⟨zs,e⟩:=h6 b z
   rw [hb] at e
   cases e
 ·have ob:off ex a ps H b=some (.ins C' dx fs):=Je.mpr ⟨hne.symm,λz=>cb (.inl z),λz=>cb (.inr z),hb⟩
  have tree:∀ x r,ZM CT (off ex a ps H) x r->ZM CT (off ex a ps H') x r:=λx r hT=>(Zgi hT ob (Zi2 hT ob hf)).same so
  have oth:∀ c o,(∀ C d f,o ≠ .ins C d f)->off ex a ps H c=some o->off ex a ps H' c=some o:=λc o no e=>so _ _ (Za3.mpr ⟨λz=>by rw [z,ob] at e; cases e; exact no _ _ _ rfl,e⟩)
  exact⟨dy,tr,ds,pv,k _ _ hne naq h1,k _ _ nb nq h2,tree _ _ h3,oth _ _ (λ_ _ _ z=>by cases z) h4,h5.mono λv m ⟨p,t2,d2,e,g1,g2,g3⟩=>⟨p,t2,d2,e,oth _ _ (λ_ _ _ z=>by cases z) g1,tree _ _ g2,oth _ _ (λ_ _ _ z=>by cases z) g3⟩,hl,h7⟩
def Zhf{CS CT:Addr}{H G:Hp}{a ps ds dx:Addr}{tr:V}(h1:H a=some (.ins CS dx [("land",tr),("places",.ref ds),("past",.ref ps)]))(h2:H ps=some (.lst []))(h4:H ds=some (.dK []))(hT:ZM CT G tr rs)(hG:∀ b o,G b=some o->b ≠ a/\b ≠ ps/\b ∉ ex/\H b=some o)(hx:Zdg ex H)(hp:ps ∉ ex):ZI ex CS CT H a ps rs [] [] :=
 ⟨dx,tr,ds,[],h1,h2,hT.same λb o e=>Je.mpr (hG b o e),Je.mpr ⟨λz=>(by rw [z,h1] at h4; cases h4),λz=>(by rw [z,h2] at h4; cases h4),λz=>(by obtain⟨zs,e⟩:=hx _ z; rw [h4] at e; cases e),h4⟩,⟨rfl,λi x n g1 g2=>by simp at g1⟩,hx,hp⟩
def Zi5{R:Hp->V->α->Prop}{as:List α}{n:α}(h:Jb R H xs (as ++ [n])):∃ l0 v,xs=l0 ++ [v]/\R H v n/\Jb R H l0 as:=by
 obtain⟨hl,h⟩:=h
 have hne:xs ≠ []:=λz=>by rw [z] at hl; simp at hl
 refine⟨xs.dropLast,xs.getLast hne,(List.dropLast_concat_getLast hne).symm,?_,?_,λi x a h1 h2=>?_⟩
 ·refine h as.length _ _ ?_ (by simp)
  rw [YL] at hl
  rw [List.getLast_eq_getElem,List.getElem?_eq_getElem (by simp at hl; omega)]
  congr 1
  congr 1
  simp at hl
  omega
 ·rw [List.length_dropLast,hl]; simp
 ·have hi:=(Yf.mp h2).1
  refine h i x a ?_ (by rw [YD hi]; exact h2)
  rw [List.getElem?_dropLast] at h1
  split at h1
  ·exact h1
  ·cases h1
theorem Zeq:atI (xs ++ [x]) (-1)=some x:=by
 unfold atI ixN
 simp
 rw [if_pos (by omega)]
 show (xs ++ [x])[(-1 + ((xs.length:Int) + 1)).toNat]?=some x
 rw [show (-1 + ((xs.length:Int) + 1)).toNat=xs.length by omega]
 simp
structure Two(CS CT:Addr)(a ps L:Bool->Addr)(O0:Hp)(i:Nat)(lv:Bool->List V)(n:Bool->J0)(past:Bool->List J0)(H:Hp):Prop where
 sh:∀ b,ZI [ps (!b),L false,L true] CS CT H (a b) (ps b) (n b).1 (n b).2 (past b)
 old:Zn O0 (Jw [a false,a true,ps false,ps true,L false,L true] H)
 lst:∀ b,H (L b)=some (.lst (lv b))
 his:∀ b,Jb Zhh (Jw [a false,a true,ps false,ps true,L false,L true] H) (lv b) (past b ++ [n b])
 ok:∀ b,∀ m∈past b ++ [n b],JX (3 + i) m
 pl:∀ b,(past b).length<=i
section
variable {CS CT:Addr}{a ps L:Bool->Addr}{O0:Hp}{i:Nat}{lv:Bool->List V}{n:Bool->J0}{past:Bool->List J0}{H H' H'':Hp}
def Zfa{l:List Addr}(s:Zn H H'):Zn (Jw l H) (Jw l H'):=λc o e=>let ⟨g1,g2⟩:=Zz.mp e; Zz.mpr ⟨g1,s _ _ g2⟩
theorem ZV{l:List Addr}:Zn (Jw l H) H:=λ_ _ e=>(Zz.mp e).2
theorem Two.same(T:Two CS CT a ps L O0 i lv n past H)(s:Zn H H'):Two CS CT a ps L O0 i lv n past H' :=
 ⟨λb=>(T.sh b).same s,T.old.trans (Zfa s),λb=>s _ _ (T.lst b),λb=>(T.his b).mono λv m h=>h.same (Zfa s),T.ok,T.pl⟩
def Zry(H:Hp)(c:Addr):Prop:=∃ o,H c=some o/\∀ ys,o ≠ .tup ys
def Two.alive(T:Two CS CT a ps L O0 i lv n past H):∀ c∈[a false,a true,ps false,ps true,L false,L true],Zry H c:=λc hc=>by
 obtain⟨_,_,_,_,r1,r2,_⟩:=id (T.sh false)
 obtain⟨_,_,_,_,r3,r4,_⟩:=id (T.sh true)
 simp only [List.mem_cons,List.not_mem_nil,or_false] at hc
 rcases hc with rfl | rfl | rfl | rfl | rfl | rfl
 ·exact⟨_,r1,λys z=>by cases z⟩
 ·exact⟨_,r3,λys z=>by cases z⟩
 ·exact⟨_,r2,λys z=>by cases z⟩
 ·exact⟨_,r4,λys z=>by cases z⟩
 ·exact⟨_,T.lst false,λys z=>by cases z⟩
 ·exact⟨_,T.lst true,λys z=>by cases z⟩
def Zj9{l:List Addr}{x p:Addr}(h:∀ c∈l,Zry H c)(k:Z9 x p H H')(hx:Zry H' x)(hp:Zry H' p):∀ c∈l,Zry H' c:=λc hc=>by
 by_cases c1:c=x
 ·rw [c1]; exact hx
 ·by_cases c2:c=p
  ·rw [c2]; exact hp
  ·obtain⟨o,e,ht⟩:=h c hc
   exact⟨o,k _ _ c1 c2 e,ht⟩
theorem Two.nL(T:Two CS CT a ps L O0 i lv n past H)(wb b:Bool):L b ≠ a wb/\L b ≠ ps wb:=by
 obtain⟨_,_,_,_,y1,y2,_,_,_,y6,y7⟩:=id (T.sh wb)
 exact⟨λz=>(by have:=T.lst b; rw [z,y1] at this; cases this),λz=>y7 (by rw [<- z]; cases b <;> simp)⟩
theorem Two.up(T:Two CS CT a ps L O0 i lv n past H):Two CS CT a ps L O0 (i + 1) lv n past H:=⟨T.sh,T.old,T.lst,T.his,λb m hm=>(T.ok b m hm).up,λb=>by have:=T.pl b; omega⟩
def Two.keepD(wb:Bool)(k:Z9 (a wb) (ps wb) H H')(s:Zn H' H'')(o:HO):Zn (Jw [a false,a true,ps false,ps true,L false,L true] H) (Jw [a false,a true,ps false,ps true,L false,L true] (upd H'' (L wb) o)):=λc u e=>by
 obtain⟨g1,g2⟩:=Zz.mp e
 refine Zz.mpr ⟨g1,?_⟩
 rw [Zj (λz=>g1 (by rw [z]; cases wb <;> simp))]
 exact s _ _ (k _ _ (λz=>g1 (by rw [z]; cases wb <;> simp)) (λz=>g1 (by rw [z]; cases wb <;> simp)) g2)
theorem Two.step(T:Two CS CT a ps L O0 i lv n past H)(wb:Bool)(hane:a false ≠ a true)(hLne:L false ≠ L true){n':J0}{past':List J0}{lv':List V}(k:Z9 (a wb) (ps wb) H H')(hS:ZI [ps (!wb),L false,L true] CS CT H' (a wb) (ps wb) n'.1 n'.2 past')(s:Zn H' H'')
  (hh:Jb Zhh (Jw [a false,a true,ps false,ps true,L false,L true] (upd H'' (L wb) (.lst lv'))) lv' (past' ++ [n'])) (ho:∀ m∈past' ++ [n'],JX (3 + (i + 1)) m) (hpl:past'.length<=i + 1) :
  Two CS CT a ps L O0 (i + 1) (λb=>if b=wb then lv' else lv b) (λb=>if b=wb then n' else n b) (λb=>if b=wb then past' else past b) (upd H'' (L wb) (.lst lv')):=by
 obtain⟨_,_,_,_,y1,y2,_,_,_,y6,y7⟩:=id (T.sh wb)
 obtain⟨_,_,_,_,z1,z2,_,_,_,z6,z7⟩:=id hS
 have nL:∀ b,L b ≠ a wb/\L b ≠ ps wb:=λb=>⟨λz=>(by have:=T.lst b; rw [z,y1] at this; cases this),λz=>y7 (by rw [<- z]; cases b <;> simp)⟩
 have eL:∀ b,H' (L b)=some (.lst (lv b)):=λb=>k _ _ (nL b).1 (nL b).2 (T.lst b)
 have nab:∀ b,b ≠ wb->a b ≠ a wb:=λb hb=>by
  cases b <;> cases wb <;> first | exact absurd rfl hb | exact hane | exact hane.symm
 have nLb:∀ b,b ≠ wb->L b ≠ L wb:=λb hb=>by
  cases b <;> cases wb <;> first | exact absurd rfl hb | exact hLne | exact hLne.symm
 refine⟨λb=>?_,T.old.trans (Two.keepD wb k s _),λb=>?_,λb=>?_,λb=>?_,λb=>?_⟩
 ·refine ZI.updx (ZI.same ?_ s) (by cases wb <;> simp)
  by_cases c:b=wb
  ·subst c
   rw [if_pos rfl,if_pos rfl]
   exact hS
  ·rw [if_neg c,if_neg c]
   have hw:(!b)=wb:=by cases b <;> cases wb <;> first | rfl | exact absurd rfl c
   refine ZI.other (T.sh b) y1 (by simp) (nab b c) (by rw [hw]; simp) k (λl hl=>?_)
   simp only [List.mem_cons,List.not_mem_nil,or_false] at hl
   rcases hl with rfl | rfl | rfl
   ·rw [hw]; exact⟨_,z2⟩
   ·exact⟨_,eL false⟩
   ·exact⟨_,eL true⟩
 ·by_cases c:b=wb
  ·subst c
   rw [if_pos rfl,Zl]
  ·rw [if_neg c,Zj (nLb b c)]
   exact s _ _ (eL b)
 ·by_cases c:b=wb
  ·simp only [if_pos c]; exact hh
  ·simp only [if_neg c]
   exact (T.his b).mono λv m h=>h.same (Two.keepD wb k s _)
 ·by_cases c:b=wb
  ·simp only [if_pos c]; exact ho
  ·simp only [if_neg c]; exact λm hm=>(T.ok b m hm).up
 ·by_cases c:b=wb
  ·simp only [if_pos c]; exact hpl
  ·simp only [if_neg c]; have:=T.pl b; omega
end
def ZpY{n:J0}{d:Deed}(h:Zcu d=Str.ofString "cut"\/Zcu d=Str.ofString "build"):Ztm n d=ZK ((n.1.length:Int) + 1):=by
 cases d with
 | build to t=>rfl
 | cut j t=>rfl
 | come z k=>exact absurd (show Str.ofString "come"=Str.ofString "cut"\/Str.ofString "come"=Str.ofString "build" from h) (by decide +kernel)
 | go z=>exact absurd (show Str.ofString "go"=Str.ofString "cut"\/Str.ofString "go"=Str.ofString "build" from h) (by decide +kernel)
 | move z k=>exact absurd (show Str.ofString "move"=Str.ofString "cut"\/Str.ofString "move"=Str.ofString "build" from h) (by decide +kernel)
 | reprice j t=>exact absurd (show Str.ofString "price"=Str.ofString "cut"\/Str.ofString "price"=Str.ofString "build" from h) (by decide +kernel)
def ZrX{n:J0}{d:Deed}(h:¬ (Zcu d=Str.ofString "cut"\/Zcu d=Str.ofString "build")):Ztm n d=Str.ofString "ok":=by
 cases d with
 | build to t=>exact absurd (.inr rfl) h
 | cut j t=>exact absurd (.inl rfl) h
 | come z k=>rfl
 | go z=>rfl
 | move z k=>rfl
 | reprice j t=>rfl
def Zvb(CS CT s0 p dk st:Addr)(a ps L:Bool->Addr)(O0:Hp)(i:Nat)(σ:L2.St)(H:Hp):Prop:=∃ (lv:Bool->List V) (n:Bool->J0) (past:Bool->List J0) (os:List (Option V)),σ=[some (V.ref s0),some (V.ref p),some (V.ref dk),some (V.ref st)] ++ os/\os.length=9/\Two CS CT a ps L O0 i lv n past H
section
variable {P:Program}{w:World}{K:PySem.W.Frag}{mg:Str->Option Value}{base:Heap}{f:Addr}{fd:FuncData}{CT CNP CS CD CND:Addr}
def Zk6(K:PySem.W.Frag):Sp:=λvs H Q _=>∃ (a:Addr) (ns:List Int),vs=[.ref a]/\JP K H a (ns.map V.int)/\(∀ n∈ns,ZmS n)/\∀ H',Q (.bl true) H'
def ZrS(F:Fun K "law" "law" Zgz f fd)(ZC:mg "len"=none)(Jh:mg "range"=none)(ZgK:mg "max"=none)(Zkx:mg "min"=none)(Jl:mg "str"=none)(ZbB:Fn P w K mg base Zx 1 "_law_cell_at" ["_law_script","_law_k"] (Zk3 K))
  (Zb4:Fn P w K mg base Zx 4 "_law_roads_by" ["_law_cell","_law_most"] ZhA) (ZaY:Fn P w K mg base Zx 2 "_law_numbers" ["_law_cell","_law_many"] Zco) (ZcF:Fn P w K mg base Zx 3 "_law_row_by" ["_law_v","_law_roads","_law_homes","_law_k"] ZjA) (ZdO:Fn P w K mg base Zx 3 "_law_done" ["_law_deed","_law_roads","_law_homes"] ZlC) (Zb2:Fn P w K mg base Zx 2 "_law_row_text" ["_law_deed"] ZfD) (Zas:Fn P w K mg base Zx 3 "_law_tree_text" ["_law_roads"] Zda)
  (Zc6:Fn P w K mg base Zx 12 "_law_shows" ["_law_desk","_law_roads","_law_homes"] (Zju CD CS CT)) (ZdW:Fn P w K mg base Zx 12 "_law_back" ["_law_desk","_law_past"] (Zjx CD CS CT)) (ZjC:Mkr P w K mg base Zx 9 CD "Desk" ["self","text"] (Zi9 CD CS CT)) (ZhC:Mth P w K mg base Zx 11 CD "say" ["self","row"] (λvs H Q _=>Zjy CD CS CT CND vs H Q E0)):FnOk P w K mg base Zx 13 f fd ["_law_script"] (Zk6 K):=by
 refine JA F ZbX λcdv A outer s H vs Q E hr h=>?_
 obtain⟨s0,ns,rfl,hS,hF,q⟩:=h
 refine⟨_,(Zd (Zt 1 ZbX.nd (Jp Zb4 hr (Zm (Jp ZbB hr (Zm (Zf 0) (Zm Zb Zc))) (Zm Zb Zc))))
   (Zd (Zt 2 ZbX.nd (JK (Zm (ZfP ZjC hr (by decide) rfl (Zm (Jp Zas hr (Zm (Zf 1) Zc)) Zc)) (Zm (ZfP ZjC hr (by decide) rfl (Zm (Jp Zas hr (Zm (Zf 1) Zc)) Zc)) Zc))))
   (Zd (Zt 3 ZbX.nd (JK (Zm (JK (Zm (Jo (Zm (Zf 1) (Zm ZjR Zc))) Zc)) (Zm (JK (Zm (Jo (Zm (Zf 1) (Zm ZjR Zc))) Zc)) Zc))))
   (Zd (ZhP YM (Zps rfl Jh (Zm Zb (Zm (ZqK rfl ZgK (Zm Zb (Zm (Zr7 rfl Zkx (Zm (ZlU rfl ZC (Zm (Zf 0) Zc)) (Zm Zb Zc))) Zc))) Zc))) (Z3 4 ZbX.nd) (Zd (Zt 5 ZbX.nd (Jp ZaY hr (Zm (Jp ZbB hr (Zm (Zf 0) (Zm (Zf 4) Zc))) (Zm Zb Zc))))
   (Zd (Zt 6 ZbX.nd (Zdi (ZX (Zdi (ZE (Zf 5) Zb) Zb) Zb) Zb))
   (Zd (Zt 7 ZbX.nd (ZE (Zf 3) (Zf 6)))
   (Zd (ZN (Jq (ZX (ZE (Zf 5) Zb) Zb) Zb) (Zd (ZN (Jr (Jk (Jp ZdW hr (Zm (ZE (Zf 2) (Zf 6)) (Zm (Zgg (Zf 7) Zb) Zc))))) (Zk (Zr ZnR)) Zy)
   (Zk (ZN (Zse (JE rfl ZC (Zm (Zf 7) Zc)) Zb) (Zk (ZL (Zpm (Zf 7)))) Zy))) (Zd (Zky (ZE (Zf 7) (Zmq Zb)) (ZlW (n:=2) (Zb5 (Z3 8 ZbX.nd) (Zb5 (Z3 9 ZbX.nd) ZgT))))
   (Zd (Zt 10 ZbX.nd (Jp ZcF hr (Zm (Zf 5) (Zm (Zf 8) (Zm (Zf 9) (Zm (Zf 4) Zc))))))
   (Zd (Zt 11 ZbX.nd Zv)
   (Zd (ZN (t_w (J3 (Jq (ZD (Zf 10) Zb) Zv) (JV (Jq (ZD (Zf 10) Zb) Zv)))) (Zk (Zt 11 ZbX.nd (ZfG rfl Jl (Zm (Z4 (JE rfl ZC (Zm (Zf 8) Zc)) Zb) Zc)))) Zy)
   (Zd (ZN (ZlN (ZZ ZhC hr (by decide) (ZE (Zf 2) (Zf 6)) (Zm (Jp Zb2 hr (Zm (Zf 10) Zc)) Zc)) (Zf 11)) (Zk (Zr ZnR)) Zy)
   (Zk (ZL (Zgf (Zf 7) (Zm (Jp ZdO hr (Zm (Zf 10) (Zm (Zf 8) (Zm (Zf 9) Zc)))) Zc))))))))))
   (Zk (ZhP YM (Zg6 rfl Jh (Zm Zb Zc)) (Z3 12 ZbX.nd) (Zk (ZN (Jr (Jk (Jp Zc6 hr (Zm (ZE (Zf 2) (Zf 12)) (Zm (ZD (ZE (ZE (Zf 3) (Zf 12)) (Zmq Zb)) Zb) (Zm (ZD (ZE (ZE (Zf 3) (Zf 12)) (Zmq Zb)) Zb) Zc)))))) (Zk (Zr ZnR)) Zy)))))))))
   (Zk (Zr ZnR)))))),?_⟩
 rw [show Zu ["_law_script","_law_first","_law_desks","_law_stands","_law_k","_law_v","_law_which","_law_past","_law_roads","_law_homes","_law_deed","_law_due","_law_j"] [.ref s0]=[some (.ref s0),none,none,none,none,none,none,none,none,none,none,none,none] from rfl]
 refine Zo λB hB=>?_
 walk_at "rd"
 refine⟨s0,ns,0,rfl,hS,_,_,rfl,ZlO hF 0 (by decide),by decide,by decide,λp H1 rx rs hp s1 e1 hR hT hl hn=>?_⟩
 subst hB
 try dsimp only
 refine Zo λB hB=>?_
 walk_at "rd"
 have hR0:ZhL 3 rs:=⟨hT,by omega,hn⟩
 obtain⟨hfw,hl40⟩:=Ztw hR0 (by decide)
 refine⟨p,rx,rs,rfl,e1,hR,hfw,hl40,λH2 s2 x0 dx0 hx0 hdx0 hne0=>?_⟩
 have old:∀ b o,H2 b=some o->upd (upd H2 dx0 (.own x0)) x0 (.ins CD dx0 []) b=some o:=λb o e=>by rw [Zj (Ze e hx0),Zj (Ze e hdx0)]; exact e
 refine⟨x0,dx0,rs,[],rfl,Zl,hT,hfw,λr hr=>(hn r hr).2,hl40,(λl h=>by cases h),λH3 a0 ps0 ds0 da0 tr0 G0 k3 ha0 hps0 nax0 npx0 ix0 ia0 ip0 id0 hTr0 hG0=>⟨rfl,?_⟩⟩
 have s3:Zn H2 H3:=λb o e=>k3 b o (Ze e hx0) (old b o e)
 have fr:∀ c,upd (upd H2 dx0 (.own x0)) x0 (.ins CD dx0 []) c=none->H2 c=none:=λc h=>by
  cases z:H2 c with
  | none=>rfl
  | some o=>rw [old _ _ z] at h; cases h
 replace ha0:=fr _ ha0
 replace hps0:=fr _ hps0
 clear fr old k3
 have s13:=s2.trans s3
 refine⟨p,rx,rs,rfl,s13 _ _ e1,hR.same s13,hfw,hl40,λH4 s4 x1 dx1 hx1 hdx1 hne1=>?_⟩
 have old:∀ b o,H4 b=some o->upd (upd H4 dx1 (.own x1)) x1 (.ins CD dx1 []) b=some o:=λb o e=>by rw [Zj (Ze e hx1),Zj (Ze e hdx1)]; exact e
 refine⟨x1,dx1,rs,[ps0],rfl,Zl,hT,hfw,λr hr=>(hn r hr).2,hl40,(λl h=>by rw [Y0.mp h]; exact⟨_,old _ _ (s4 _ _ ip0)⟩),λH5 a1 ps1 ds1 da1 tr1 G1 k5 ha1 hps1 nax1 npx1 ix1 ia1 ip1 id1 hTr1 hG1=>⟨rfl,?_⟩⟩
 have s5:Zn H4 H5:=λb o e=>k5 b o (Ze e hx1) (old b o e)
 have fr:∀ c,upd (upd H4 dx1 (.own x1)) x1 (.ins CD dx1 []) c=none->H4 c=none:=λc h=>by
  cases z:H4 c with
  | none=>rfl
  | some o=>rw [old _ _ z] at h; cases h
 replace ha1:=fr _ ha1
 replace hps1:=fr _ hps1
 clear fr old k5
 have s35:=s4.trans s5
 intro dk H6 hdk s6 e6
 subst hB
 try dsimp only
 refine Zo λB hB=>?_
 walk_at "rd"
 intro d0 H7 hd0 s7 e7 t0 H8 ht0 s8 e8 L0 H9 hL0 s9 e9 d1 H10 hd1 s10 e10 t1 H11 ht1 s11 e11 L1 H12 hL1 s12 e12 st H13 hst s13' e13
 have s913:Zn H9 H13:=s10.trans (s11.trans (s12.trans s13'))
 have s613:Zn H6 H13:=s7.trans (s8.trans (s9.trans s913))
 have s513:=s6.trans s613
 have s413:=s5.trans s513
 have s313:Zn H3 H13:=s35.trans s513
 have s213:Zn H2 H13:=s3.trans s313
 have fL0:H5 L0=none:=(s6.trans (s7.trans s8)).free hL0
 have fL1:H9 L1=none:=(s10.trans s11).free hL1
 have fL1':H5 L1=none:=(s6.trans (s7.trans (s8.trans s9))).free fL1
 have fst:H12 st=none:=hst
 have S0:ZI [ps1,L0,L1] CS CT H13 a0 ps0 rs [] []:=Zhf (s313 _ _ ia0) (s313 _ _ ip0) (s313 _ _ id0) hTr0 (λb o e=>by
   obtain⟨g1,g2,g3,_,g5⟩:=hG0 b o e
   refine⟨g2,g3,λz=>?_,s313 _ _ g5⟩
   simp only [List.mem_cons,List.not_mem_nil,or_false] at z
   rcases z with z | z | z
   ·exact Ze g5 (s4.free hps1) z
   ·exact Ze g5 (s35.free fL0) z
   ·exact Ze g5 (s35.free fL1') z) (λl hl=>by
   simp only [List.mem_cons,List.not_mem_nil,or_false] at hl
   rcases hl with rfl | rfl | rfl
   ·exact⟨_,s513 _ _ ip1⟩
   ·exact⟨_,s913 _ _ e9⟩
   ·exact⟨_,s13' _ _ e12⟩) (λz=>by
   simp only [List.mem_cons,List.not_mem_nil,or_false] at z
   rcases z with z | z | z
   ·exact Ze (s4 _ _ ip0) hps1 z
   ·exact Ze (s35 _ _ ip0) fL0 z
   ·exact Ze (s35 _ _ ip0) fL1' z)
 have S1:ZI [ps0,L0,L1] CS CT H13 a1 ps1 rs [] []:=Zhf (s513 _ _ ia1) (s513 _ _ ip1) (s513 _ _ id1) hTr1 (λb o e=>by
   obtain⟨g1,g2,g3,g4,g5⟩:=hG1 b o e
   refine⟨g2,g3,λz=>?_,s513 _ _ g5⟩
   simp only [List.mem_cons,List.not_mem_nil,or_false] at z
   rcases z with z | z | z
   ·exact g4 (by rw [z]; simp)
   ·exact Ze g5 fL0 z
   ·exact Ze g5 fL1' z) (λl hl=>by
   simp only [List.mem_cons,List.not_mem_nil,or_false] at hl
   rcases hl with rfl | rfl | rfl
   ·exact⟨_,s313 _ _ ip0⟩
   ·exact⟨_,s913 _ _ e9⟩
   ·exact⟨_,s13' _ _ e12⟩) (λz=>by
   simp only [List.mem_cons,List.not_mem_nil,or_false] at z
   rcases z with z | z | z
   ·exact Ze (s4 _ _ ip0) hps1 z.symm
   ·exact Ze ip1 fL0 z
   ·exact Ze ip1 fL1' z)
 have nin:∀ c,c ≠ a0->c ≠ a1->c ≠ ps0->c ≠ ps1->c ≠ L0->c ≠ L1->c ∉ [a0,a1,ps0,ps1,L0,L1]:=λc h1 h2 h3 h4 h5 h6 z=>by
  simp only [List.mem_cons,List.not_mem_nil,or_false] at z
  rcases z with z | z | z | z | z | z
  ·exact h1 z
  ·exact h2 z
  ·exact h3 z
  ·exact h4 z
  ·exact h5 z
  ·exact h6 z
 have o2:Zn H2 (Jw [a0,a1,ps0,ps1,L0,L1] H13):=λc o e=>Zz.mpr ⟨nin c (Ze e ha0) (Ze ((s3.trans s4) _ _ e) ha1) (Ze e hps0) (Ze ((s3.trans s4) _ _ e) hps1) (Ze ((s3.trans s35) _ _ e) fL0) (Ze ((s3.trans s35) _ _ e) fL1'),s213 _ _ e⟩
 have ox0:Jw [a0,a1,ps0,ps1,L0,L1] H13 x0=some (.ins CD dx0 [("shire",.ref a0)]):=Zz.mpr ⟨nin _ (Ne.symm nax0) (Ze (s4 _ _ ix0) ha1) (Ne.symm npx0) (Ze (s4 _ _ ix0) hps1) (Ze (s35 _ _ ix0) fL0) (Ze (s35 _ _ ix0) fL1'),s313 _ _ ix0⟩
 have ox1:Jw [a0,a1,ps0,ps1,L0,L1] H13 x1=some (.ins CD dx1 [("shire",.ref a1)]):=Zz.mpr ⟨nin _ (Ne.symm (Ze (s4 _ _ ia0) hx1)) (Ne.symm nax1) (Ne.symm (Ze (s4 _ _ ip0) hx1)) (Ne.symm npx1) (Ze ix1 fL0) (Ze ix1 fL1'),s513 _ _ ix1⟩
 have odk:Jw [a0,a1,ps0,ps1,L0,L1] H13 dk=some (.lst [V.ref x0,V.ref x1]):=Zz.mpr ⟨nin _ (Ne.symm (Ze (s35 _ _ ia0) hdk)) (Ne.symm (Ze ia1 hdk)) (Ne.symm (Ze (s35 _ _ ip0) hdk)) (Ne.symm (Ze ip1 hdk)) (Ze ((s7.trans s8) _ _ e6) hL0) (Ze ((s7.trans (s8.trans (s9.trans (s10.trans s11)))) _ _ e6) hL1),s613 _ _ e6⟩
 have ost:Jw [a0,a1,ps0,ps1,L0,L1] H13 st=some (.lst [V.ref L0,V.ref L1]):=by
  have k12:Zn H5 H12:=s6.trans (s7.trans (s8.trans (s9.trans (s10.trans (s11.trans s12)))))
  exact Zz.mpr ⟨nin _ (Ne.symm (Ze ((s35.trans k12) _ _ ia0) hst)) (Ne.symm (Ze (k12 _ _ ia1) hst)) (Ne.symm (Ze ((s35.trans k12) _ _ ip0) hst)) (Ne.symm (Ze (k12 _ _ ip1) hst)) (Ne.symm (Ze ((s10.trans (s11.trans s12)) _ _ e9) hst)) (Ne.symm (Ze e12 hst)),e13⟩
 have ol:∀ c o,H13 c=some o->(∀ C d f,o ≠ .ins C d f)->(∀ zs,o ≠ .lst zs)->Jw [a0,a1,ps0,ps1,L0,L1] H13 c=some o:=λc o e n1 n2=>Zz.mpr ⟨nin c (λz=>by rw [z,s313 _ _ ia0] at e; cases e; exact n1 _ _ _ rfl) (λz=>by rw [z,s513 _ _ ia1] at e; cases e; exact n1 _ _ _ rfl) (λz=>by rw [z,s313 _ _ ip0] at e; cases e; exact n2 _ rfl) (λz=>by rw [z,s513 _ _ ip1] at e; cases e; exact n2 _ rfl) (λz=>by rw [z,s913 _ _ e9] at e; cases e; exact n2 _ rfl) (λz=>by rw [z,s13' _ _ e12] at e; cases e; exact n2 _ rfl),e⟩
 have hane:a0 ≠ a1:=Ze (s4 _ _ ia0) ha1
 have hLne:L0 ≠ L1:=Ze e9 fL1
 have hN0:JX 3 (rs,[]):=⟨hR0,by simp,by simp,λkv hk=>by simp at hk⟩
 have T0:Two CS CT (λb=>cond b a1 a0) (λb=>cond b ps1 ps0) (λb=>cond b L1 L0) (Jw [a0,a1,ps0,ps1,L0,L1] H13) 0 (λb=>[V.ref (cond b t1 t0)]) (λ_=>(rs,[])) (λ_=>[]) H13:=by
  refine⟨λb=>?_,λ_ _ e=>e,λb=>?_,λb=>?_,λb m hm=>by rw [Y0.mp hm]; exact hN0,λ_=>Yd _⟩
  ·cases b with
   | false=>exact S0
   | true=>exact S1
  ·cases b with
   | false=>exact s913 _ _ e9
   | true=>exact s13' _ _ e12
  ·refine Zpv ?_
   cases b with
   | false=>exact⟨t0,p,d0,rx,rfl,ol _ _ ((s9.trans s913) _ _ e8) (λ_ _ _ z=>by cases z) (λ_ z=>by cases z),o2 _ _ (s2 _ _ e1),hR.same (s2.trans o2),ol _ _ ((s8.trans (s9.trans s913)) _ _ e7) (λ_ _ _ z=>by cases z) (λ_ z=>by cases z)⟩
   | true=>exact⟨t1,p,d1,rx,rfl,ol _ _ ((s12.trans s13') _ _ e11) (λ_ _ _ z=>by cases z) (λ_ z=>by cases z),o2 _ _ (s2 _ _ e1),hR.same (s2.trans o2),ol _ _ ((s11.trans (s12.trans s13')) _ _ e10) (λ_ _ _ z=>by cases z) (λ_ z=>by cases z)⟩
 have oS:JP K H13 s0 (ns.map V.int):=((s1.trans s2).trans s213).seq hS
 have oS2:JP K H2 s0 (ns.map V.int):=(s1.trans s2).seq hS
 subst hB
 try dsimp only
 refine Zo λB hB=>?_
 rw [Zg2]
 walk_at "rd"
 refine⟨_,.inl oS,?_⟩
 obtain⟨M,eM,hM⟩:∃ M:Int,(if 6 < if 23 < ((List.map V.int ns).length:Int) then 23 else ((List.map V.int ns).length:Int) then (if 23 < ((List.map V.int ns).length:Int) then 23 else ((List.map V.int ns).length:Int)) else 6)=M/\6<=M/\M<=23:=⟨_,rfl,by (repeat' split) <;> omega,by (repeat' split) <;> omega⟩
 rw [eM]
 refine⟨by omega,by omega,?_⟩
 refine ZeQ (Zvb CS CT s0 p dk st (λb=>cond b a1 a0) (λb=>cond b ps1 ps0) (λb=>cond b L1 L0) (Jw [a0,a1,ps0,ps1,L0,L1] H13)) ⟨_,_,_,[none,none,none,none,none,none,none,none,none],rfl,rfl,T0⟩ (λi σ H14 hi hP=>?_) (λσ H14 hP=>?_)
 ·obtain⟨lv,n,past,os,rfl,hos,T⟩:=hP
  obtain⟨o4,o5,o6,o7,o8,o9,o10,o11,o12,rfl⟩:∃ o4 o5 o6 o7 o8 o9 o10 o11 o12,os=[o4,o5,o6,o7,o8,o9,o10,o11,o12]:=by
   match os,hos with
   | [o4,o5,o6,o7,o8,o9,o10,o11,o12],_=>exact⟨_,_,_,_,_,_,_,_,_,rfl⟩
  have hi23:3 + i < 23:=by omega
  have ek:(3:Int) + (i:Int)=((3 + i:Nat):Int):=by omega
  rw [ek]
  have s14:Zn H2 H14:=λc o e=>(Zz.mp (T.old _ _ (o2 _ _ e))).2
  refine Zo λB hB=>?_
  walk_at "rd"
  refine⟨s0,ns,3 + i,rfl,s14.seq oS2,_,_,rfl,by decide,by decide,λpv H15 xs hpv s15 e15 hxl hxb=>?_⟩
  have hxl5:xs.length=5:=by omega
  have at_:∀ {j:Nat}(h:j < xs.length),atI (xs.map V.int) (j:Int)=some (.int xs[j]):=λ{j} h=>Z5 (by rw [Yh,Yb h]; rfl)
  have b4:=hxb xs[4] (Yy (by omega))
  subst hB
  try dsimp only
  refine Zo λB hB=>?_
  walk_at "rd"
  obtain⟨wb,hwb⟩:∃ wb:Bool,xs[4] / 6 % 5 / 3=cond wb 1 0:=by
   rcases (by omega:xs[4] / 6 % 5 / 3=0\/xs[4] / 6 % 5 / 3=1) with h | h
   ·exact⟨false,h⟩
   ·exact⟨true,h⟩
  refine⟨_,e15,_,at_ (j:=4) (by omega),_,rfl,?_⟩
  rw [hwb]
  have atb:∀ x:Bool->V,atI [x false,x true] (cond wb 1 0)=some (x wb):=λx=>by cases wb <;> rfl
  have T15:=T.same s15
  subst hB
  try dsimp only
  refine Zo λB hB=>?_
  walk_at "rd"
  refine⟨_,ZV _ _ (T15.old _ _ ost),_,atb (λb=>V.ref (cond b L1 L0)),?_⟩
  subst hB
  try dsimp only
  refine Zo λB hB=>?_
  have kB:∀ (lv':Bool->List V) (n':Bool->J0) (past':Bool->List J0) (u8 u9 u10 u11:Option V) H16,Two CS CT (λb=>cond b a1 a0) (λb=>cond b ps1 ps0) (λb=>cond b L1 L0) (Jw [a0,a1,ps0,ps1,L0,L1] H13) (i + 1) lv' n' past' H16->B [some (V.ref s0),some (V.ref p),some (V.ref dk),some (V.ref st),some (V.int ((3 + i:Nat):Int)),some (V.ref pv),some (V.int (cond wb 1 0)),some (V.ref (cond wb L1 L0)),u8,u9,u10,u11,o12] H16:=by
   intro lv' n' past' u8 u9 u10 u11 H16 T16
   subst hB
   try dsimp only
   rw [Ze4]
   walk_at "rd"
   refine ZeQ (λj σ H'=>∃ o,σ=[some (V.ref s0),some (V.ref p),some (V.ref dk),some (V.ref st),some (V.int ((3 + i:Nat):Int)),some (V.ref pv),some (V.int (cond wb 1 0)),some (V.ref (cond wb L1 L0)),u8,u9,u10,u11,o]/\Zn H16 H') ⟨_,rfl,λ_ _ e=>e⟩ (λj σ H18 hj hP=>?_) (λσ H18 hP=>?_)
   ·obtain⟨o,rfl,s18⟩:=hP
    have T18:=T16.same s18
    obtain⟨jb,ej⟩:∃ jb:Bool,(0:Int) + (j:Int)=cond jb 1 0:=by
     rcases (by omega:j=0\/j=1) with h | h
     ·exact⟨false,by rw [h]; rfl⟩
     ·exact⟨true,by rw [h]; rfl⟩
    rw [ej]
    have atj:∀ x:Bool->V,atI [x false,x true] (cond jb 1 0)=some (x jb):=λx=>by cases jb <;> rfl
    obtain⟨l0,v,elv,⟨t',p',d',rx',rfl,ht',hp',hR',hd'⟩,_⟩:=Zi5 (T18.his jb)
    have elst:=T18.lst jb
    rw [elv] at elst
    have hx18:Jw [a0,a1,ps0,ps1,L0,L1] H18 (cond jb x1 x0)=some (.ins CD (cond jb dx1 dx0) [("shire",.ref (cond jb a1 a0))]):=T18.old _ _ (by cases jb <;> first | exact ox0 | exact ox1)
    walk_at "rd"
    refine⟨_,ZV _ _ (T18.old _ _ odk),_,atj (λb=>V.ref (cond b x1 x0)),_,ZV _ _ (T18.old _ _ ost),_,atj (λb=>V.ref (cond b L1 L0)),_,rfl,_,elst,_,Zeq,t',rfl,_,ZV _ _ ht',_,rfl,_,ZV _ _ (T18.old _ _ ost),_,atj (λb=>V.ref (cond b L1 L0)),_,rfl,_,elst,_,Zeq,t',rfl,_,ZV _ _ ht',_,rfl,cond jb x1 x0,cond jb dx1 dx0,[cond (!jb) ps1 ps0,L0,L1],cond jb a1 a0,cond jb ps1 ps0,p',d',rx',n' jb,past' jb,3 + (i + 1),rfl,ZV _ _ hx18,T18.sh jb,by have:=T18.pl jb; omega,T18.ok jb _ (by simp),by omega,ZV _ _ hp',hR'.same ZV,ZV _ _ hd',λH19 s19=>⟨true,rfl,?_⟩⟩
    rw [if_neg (by decide)]
    exact s18.trans s19
   ·obtain⟨o,rfl,s18⟩:=hP
    exact⟨lv',n',past',_,rfl,rfl,T16.same s18⟩
  have hx15:Jw [a0,a1,ps0,ps1,L0,L1] H15 (cond wb x1 x0)=some (.ins CD (cond wb dx1 dx0) [("shire",.ref (cond wb a1 a0))]):=T15.old _ _ (by cases wb <;> first | exact ox0 | exact ox1)
  obtain⟨_,_,_,_,y1,y2,_,_,_,y6,y7⟩:=id (T15.sh wb)
  have nLw:=T15.nL wb wb
  have kD:∀ {X Y Z:Hp}(o:HO),Z9 (cond wb a1 a0) (cond wb ps1 ps0) X Y->Zn Y Z->Zn (Jw [a0,a1,ps0,ps1,L0,L1] X) (Jw [a0,a1,ps0,ps1,L0,L1] (upd Z (cond wb L1 L0) o)):=λo k s=>Two.keepD (a:=λb=>cond b a1 a0) (ps:=λb=>cond b ps1 ps0) (L:=λb=>cond b L1 L0) wb k s o
  refine Js λA0 hA0 C0 hC0=>?_
  walk_at "rd"
  refine⟨_,e15,_,at_ (j:=4) (by omega),_,rfl,?_⟩
  refine JF (λc=>?_) (λc=>?_)
  ·subst hA0
   try dsimp only
   refine Zo λB2 hB2=>?_
   refine Js λA1 hA1 C1 hC1=>?_
   walk_at "rd"
   obtain⟨v0,lr,elr⟩:∃ v0 lr,lv wb=v0 :: lr:=by
    have:=(T15.his wb).1
    cases z:lv wb with
    | nil=>rw [z] at this; simp at this
    | cons v0 lr=>exact⟨v0,lr,rfl⟩
   have hlr:lr.length=(past wb).length:=by
    have:=(T15.his wb).1
    rw [elr] at this
    simpa using this
   refine⟨_,ZV _ _ (T15.old _ _ odk),_,atb (λb=>V.ref (cond b x1 x0)),_,_,rfl,.of (T15.lst wb),λpc hpc=>?_⟩
   have hcut:ZmR (lv wb) (some 1) none=lr:=by rw [elr]; exact Zes
   rw [hcut]
   have s16:Zn H15 (upd H15 pc (.lst lr)):=ZS hpc _
   have T16:=T15.same s16
   have epc:upd H15 pc (.lst lr) pc=some (.lst lr):=Zl
   generalize upd H15 pc (.lst lr)=H16 at s16 T16 epc ⊢
   have eL16:H16 (cond wb L1 L0)=some (.lst (lv wb)):=T16.lst wb
   have hlen:(lv wb).length=(past wb).length + 1:=by rw [elr]; simp [hlr]
   refine⟨cond wb x1 x0,cond wb dx1 dx0,[cond (!wb) ps1 ps0,L0,L1],cond wb a1 a0,cond wb ps1 ps0,pc,lr,n wb,past wb,3 + i,rfl,s16 _ _ (ZV _ _ hx15),T16.sh wb,by have:=T16.pl wb; omega,T16.ok wb _ (by simp),by omega,epc,(λz=>by rw [z] at hpc; exact nomatch y2.symm.trans hpc),hlr,λpast0 m ep H17 k17 hS17=>⟨true,rfl,?_⟩,λep H17 s17=>⟨true,rfl,?_⟩⟩
   ·rw [if_neg (by decide)]
    subst hC1
    refine ZbT ?_
    subst hB2
    try dsimp only
    have eL17:H17 (cond wb L1 L0)=some (.lst (lv wb)):=k17 _ _ nLw.1 nLw.2 eL16
    obtain⟨l0,v,elv,_,hl0⟩:=Zi5 (T16.his wb)
    have hdl:(lv wb).dropLast=l0:=by rw [elv]; simp
    have S17:=T16.step wb hane hLne (n':=m) (past':=past0) (lv':=l0) k17 hS17 (λ_ _ e=>e) (by rw [<- ep]; exact hl0.mono λv m h=>h.same (kD _ k17 (λ_ _ e=>e))) (λm' hm=>by rw [<- ep] at hm; exact (T16.ok wb m' (List.mem_append_left _ hm)).up) (by have:=T16.pl wb; rw [ep] at this; simp at this; omega)
    walk_at "rd"
    refine⟨_,.inl eL17,?_⟩
    rw [if_pos (by rw [hlen,ep]; simp; omega)]
    exact⟨_,eL17,⟨v,by rw [elv]; simp⟩,by rw [hdl]; exact kB _ _ _ o8 o9 o10 o11 _ S17⟩
   ·rw [if_neg (by decide)]
    subst hC1
    refine ZbT ?_
    subst hB2
    try dsimp only
    walk_at "rd"
    refine⟨_,.inl (s17 _ _ eL16),?_⟩
    rw [if_neg (by rw [hlen,ep]; decide)]
    exact kB lv n past o8 o9 o10 o11 H17 (T16.same s17).up
  ·subst hC0
   try dsimp only
   refine Zo λB2 hB2=>?_
   walk_at "rd"
   obtain⟨l0,v,elv,⟨t',p',d',rx',rfl,ht',hp',hR',hd'⟩,hl0⟩:=Zi5 (T15.his wb)
   have elst:=T15.lst wb
   rw [elv] at elst
   have hNw:=T15.ok wb (n wb) (by simp)
   refine⟨_,elst,_,Zeq,t',rfl,_,ZV _ _ ht',rfl,_,_,rfl,_,_,rfl,rfl,?_⟩
   subst hB2
   try dsimp only
   refine Zo λB2 hB2=>?_
   walk_at "rd"
   refine⟨pv,p',d',xs,rx',n wb,3 + i,rfl,e15,hxl5,hxb,ZV _ _ hp',hR'.same ZV,ZV _ _ hd',hNw,by omega,hi23,λx dd H16 s16 hD hO=>?_⟩
   have hDS:=Zjo hi23 hNw hO
   obtain⟨ws,ks,R⟩:=Zpe hDS
   obtain⟨pt,xt,first,ws',rfl,hpt,hw,_⟩:=ZfA hD hDS
   obtain rfl:first=Zcu dd:=by
    have:=hw.symm.trans R.eq
    injection this
   have T16:=T15.same s16
   subst hB2
   try dsimp only
   refine Zo λB2 hB2=>?_
   walk_at "rd"
   subst hB2
   try dsimp only
   refine Zo λB3 hB3=>?_
   have kR:B3 [some (V.ref s0),some (V.ref p),some (V.ref dk),some (V.ref st),some (V.int ((3 + i:Nat):Int)),some (V.ref pv),some (V.int (cond wb 1 0)),some (V.ref (cond wb L1 L0)),some (V.ref p'),some (V.ref d'),some (V.ref pt),some (V.str (Ztm (n wb) dd)),o12] H16:=by
    subst hB3
    try dsimp only
    refine Zo λB4 hB4=>?_
    refine Js λA3 hA3 C3 hC3=>?_
    walk_at "rd"
    have hx16:=s16 _ _ (ZV _ _ hx15)
    refine⟨_,ZV _ _ (T16.old _ _ odk),_,atb (λb=>V.ref (cond b x1 x0)),_,rfl,cond wb dx1 dx0,_,hx16,rfl,_,dd,rfl,hD,hDS,λH17 s17=>?_⟩
    have T17:=T16.same s17
    refine⟨cond wb x1 x0,cond wb dx1 dx0,[cond (!wb) ps1 ps0,L0,L1],cond wb a1 a0,cond wb ps1 ps0,ZrL dd,n wb,past wb,3 + i,rfl,s17 _ _ hx16,T17.sh wb,by have:=T17.pl wb; omega,hNw,by omega,.inr (.inr (.inl ⟨dd,rfl,hO,hi23,λH18 k18 hS18=>⟨rfl,?_⟩⟩))⟩
    rw [if_neg (λz=>z rfl)]
    subst hC3
    refine ZbT ?_
    subst hB4
    try dsimp only
    obtain⟨_,_,_,_,z1,z2,_⟩:=id hS18
    obtain⟨_,_,_,_,w1,w2,_⟩:=id (T17.sh wb)
    have al18:∀ c∈[a0,a1,ps0,ps1,L0,L1],Zry H18 c:=Zj9 T17.alive k18 ⟨_,z1,λys z=>by cases z⟩ ⟨_,z2,λys z=>by cases z⟩
    have kd18:Zn (Jw [a0,a1,ps0,ps1,L0,L1] H17) (Jw [a0,a1,ps0,ps1,L0,L1] H18):=λc o e=>by
     obtain⟨g1,g2⟩:=Zz.mp e
     exact Zz.mpr ⟨g1,k18 _ _ (λz=>g1 (by rw [z]; cases wb <;> simp)) (λz=>g1 (by rw [z]; cases wb <;> simp)) g2⟩
    have D18:Zn (Jw [a0,a1,ps0,ps1,L0,L1] H15) H18:=(Zfa (s16.trans s17)).trans (kd18.trans ZV)
    have hD18:ZfZ H18 (.ref pt) dd:=(hD.keep λb ys e=>s17 _ _ e).keep λb ys e=>k18 _ _ (λz=>by rw [z] at e; exact nomatch w1.symm.trans e) (λz=>by rw [z] at e; exact nomatch w2.symm.trans e) e
    have eL18:H18 (cond wb L1 L0)=some (.lst (lv wb)):=k18 _ _ nLw.1 nLw.2 (T17.lst wb)
    have hlen:(lv wb).length < 1000000:=by
     have:=(T17.his wb).1
     have:=T17.pl wb
     simp at *
     omega
    walk_at "rd"
    refine⟨⟨_,eL18⟩,_,p',d',rx',dd,n wb,3 + i,rfl,hD18,D18 _ _ hp',hR'.same D18,D18 _ _ hd',hNw,hi23,hO,λt2 p2 d2 rx2 H19 ht2 hp2 hd2 s19 et2 ep2 eR2 ed2=>?_⟩
    have nw:∀ {c:Addr}{o u:HO},H18 c=none->H19 c=some o->Jw [a0,a1,ps0,ps1,L0,L1] (upd H19 (cond wb L1 L0) u) c=some o:=λ{c o u} g1 g2=>by
     have g3:c ∉ [a0,a1,ps0,ps1,L0,L1]:=λz=>by obtain⟨o',e',_⟩:=al18 c z; rw [g1] at e'; cases e'
     refine Zz.mpr ⟨g3,?_⟩
     rw [Zj (λz=>g3 (by rw [z]; cases wb <;> simp))]
     exact g2
    have tp:∀ (u:HO) c ys,H19 c=some (.tup ys)->Jw [a0,a1,ps0,ps1,L0,L1] (upd H19 (cond wb L1 L0) u) c=some (.tup ys):=λu c ys g2=>by
     have g3:c ∉ [a0,a1,ps0,ps1,L0,L1]:=λz=>by obtain⟨o',e',h'⟩:=al18 c z; rw [s19 _ _ e'] at g2; cases g2; exact h' _ rfl
     refine Zz.mpr ⟨g3,?_⟩
     rw [Zj (λz=>g3 (by rw [z]; cases wb <;> simp))]
     exact g2
    have S19:=T17.step wb hane hLne (n':=done dd (n wb)) (past':=past wb ++ [n wb]) (lv':=lv wb ++ [V.ref t2]) k18 hS18 s19 (Jb.snoc ((T17.his wb).mono λv m h=>h.same (kD _ k18 s19)) ⟨t2,p2,d2,rx2,rfl,nw ht2 et2,nw hp2 ep2,eR2.keep (tp _),nw hd2 ed2⟩) (λm hm=>by
     rcases Yz.mp hm with h | h
     ·exact (T17.ok wb m h).up
     ·rw [List.mem_singleton.mp h]; exact Zmv hi23 hNw hO) (by have:=T17.pl wb; simp; omega)
    exact⟨_,s19 _ _ eL18,hlen,kB _ _ _ _ _ _ _ _ S19⟩
   refine Js λA2 hA2 C2 hC2=>?_
   refine Zqm rfl hpt ?_
   by_cases c2:Zcu dd=Str.ofString "cut"\/Zcu dd=Str.ofString "build"
   ·rw [Yt c2,if_pos rfl]
    subst hA2
    try dsimp only
    walk_at "rd"
    rw [ZpY c2] at kR
    have hl16:=hNw.1.2.1
    refine⟨_,.inl (s16 _ _ (ZV _ _ hp')),?_⟩
    rw [hR'.1]
    exact⟨Zbw (by omega),kR⟩
   ·rw [Yp c2,if_neg (by decide)]
    subst hC2
    refine ZbT ?_
    rw [ZrX c2] at kR
    exact kR
 ·obtain⟨lv,n,past,os,rfl,hos,T⟩:=hP
  obtain⟨o4,o5,o6,o7,o8,o9,o10,o11,o12,rfl⟩:∃ o4 o5 o6 o7 o8 o9 o10 o11 o12,os=[o4,o5,o6,o7,o8,o9,o10,o11,o12]:=by
   match os,hos with
   | [o4,o5,o6,o7,o8,o9,o10,o11,o12],_=>exact⟨_,_,_,_,_,_,_,_,_,rfl⟩
  subst hB
  try dsimp only
  walk_at "rd"
  exact q _
end
def JM{Pr:List Value->Prop}(us:List Value)(h:us.length=1)(k:∀ a,Pr [a]):Pr us:=by
 match us,h with
 | [a],_=>exact k a
def JU{Pr:List Value->Prop}(us:List Value)(h:us.length=2)(k:∀ a b,Pr [a,b]):Pr us:=by
 match us,h with
 | [a,b],_=>exact k a b
def Zks{Pr:List Value->Prop}(us:List Value)(h:us.length=3)(k:∀ a b c,Pr [a,b,c]):Pr us:=by
 match us,h with
 | [a,b,c],_=>exact k a b c
def Zu5{Pr:List Value->Prop}(us:List Value)(h:us.length=4)(k:∀ a b c d,Pr [a,b,c,d]):Pr us:=by
 match us,h with
 | [a,b,c,d],_=>exact k a b c d
def ZQ{P:Program}{w:World}{mg:Str->Option Value}{base h:Heap}{k:Nat}{x:Str}{ps:List Str}{sp:Sp}{f:Addr}{fd:FuncData}(X:K.In h)(G:h.Ns mainGlobals mg)(a:nsIn K mainGlobals x=some (some (.ref f)))
  (kp:keepIn K (.ref f)=true) (b:ZA K fd ps []) (o:FnOk P w K mg base Zx k f fd ps sp):Fn P w K mg base Zx k x ps sp:=⟨f,fd,o,b,kp,mg_of X G a⟩
open PySem.W in
theorem ZqT{ns:List Int}(h:WData.layable (.list (ns.map .int))=true):∀ n∈ns,ZmS n:=by
 intro n hn
 unfold WData.layable at h
 simp only [Bool.and_eq_true,decide_eq_true_eq] at h
 have h2:WData.weight (.list (ns.map .int))<=2 ^ 20:=h.2
 have key:∀ l:List Int,n∈l->Builtin.Int.intBits n<=WData.weightAll (l.map WData.int):=by
  intro l
  induction l with
  | nil=>intro h; cases h
  | cons m l ih =>
   intro h
   rw [Yq]
   unfold WData.weightAll
   rcases Ym.mp h with rfl | h
   ·have:WData.weight (.int n)=Builtin.Int.intBits n:=by unfold WData.weight Builtin.Int.intBits; rfl
    omega
   ·have:=ih h
    omega
 have h3:=key ns hn
 unfold WData.weight at h2
 exact Yj h3 h2
open PySem.W PySem.Calls Att in
def Zi0{l:OpenLaw}{q:Program}{loose:List Str}{XP:(Str->Option Value)->Heap->Prop}{YP:World->Heap->Prop}{d:DefRec}
  (hn:l.most=some n) (hdf:d.params.defaults=[])
  (call:∀ (w:World) (s₀ s₁:Shared) (mg mb:Str->Option Value) (fa:Addr) (o:Obj) (pm cd doc:Value) (a:Addr) (vs:List Value) (ns:List Int),
   Ground q loose [] XP w s₀ mg mb s₁.heap->YP w s₁.heap ->
   s₁.heap.get? fa=some o->o.data=.func (docDef d.name d.params d.body d.scope pm cd doc)->s₁.heap.CodeRec cd d.name->mg d.name=some (.ref fa) ->
   s₁.heap.get? a=some { cls:=.type "list",data:=.seq vs.toArray }->IntsAre vs ns->ns.length<=n->(∀ m∈ns,ZmS m)->s₁.gens=#[] ->
   codeAny (model l.prog w) callerA (.call (.ref fa) ⟨[.ref a],[]⟩) (λr s'=>r=.ok (.ret (.bool true))/\OldK s₁.heap s'.heap/\s'.os=s₁.os/\AllBare s'.gens) s₁) :
  WalkO q loose XP YP l.row.toRowW d [] (λf vs=>PySem.call f vs):=by
 intro w s₀ s₁ mg mb G Y fa o pm cd doc dV kV ho hd hcd hD hmg hg args vals as hpre hlay hrd hwl hlo
 obtain rfl:dV=.none:=Dflts.none hD hdf
 obtain rfl:kV=.none:=Dflts.noKw hD
 obtain⟨a,vs,ns,rfl,rfl,hobj,hints,hlen⟩:=ZlG hn hpre hwl
 have hfit:=ZqT (ns:=ns) (by simpa [WData.layableAll] using hlay)
 refine enter_call (YR (call w s₀ s₁ mg mb fa o pm cd doc a vs ns G Y ho (fd_plain hd) hcd hmg hobj hints hlen hfit hg) λr s' hq=>?_)
 obtain⟨rfl,h2,h3,h4⟩:=hq
 exact⟨.inl ⟨.bool true,.bool true,[],rfl,λ_=>rfl,.bool true,ZmF l _,λ_=>⟨List.Pairwise.nil,λ_ hm=>(nomatch hm)⟩⟩,h2,h3,h4⟩
def Zl1{l:PySem.W.OpenLaw}{n k:Nat}{q:Program}{loose:List Str}{XP:(Str->Option Value)->Heap->Prop}{YP:World->Heap->Prop}{d:DefRec}{K:Params->PySem.W.Frag}{CX:CXT}{sp:PySem.W.Frag->Sp}{x:Str}
  (hn:l.most=some n) (hn2:n<=sizeLine) (hdf:d.params.defaults=[]) (hr:Room k callerA)
  (hY:∀ (w:World) (h:Heap),YP w h->(K w.params).In h)
  (F:∀ (w:World) (mg:Str->Option Value) (fa:Addr) (h:Heap),(K w.params).In h->h.Ns mainGlobals mg->mg d.name=some (.ref fa) ->
   ∃ fd:FuncData,(∀ (s:Shared) (u:Value),BindsTo s fd ⟨[u],[]⟩ [(x,u)]) /\
    ∀ base:Heap,(K w.params).In base->base.Ns mainGlobals mg->FnOk l.prog w (K w.params) mg base CX k fa fd [x] (sp (K w.params)))
  (hsp:∀ (K:PySem.W.Frag) (H:Hp) (a:Addr) (ns:List Int),ns.length<=n->(∀ m∈ns,ZmS m)->Zuy H->JP K H a (ns.map V.int)->sp K [.ref a] H (λv _=>v=.bl true) λ_ _ _=>False)
  (hCX:∀ (H:Hp) (s:Shared) (e:Value) (s':Shared),CX [] H s (λ_ _ _=>False) e s'->False) :
  PySem.W.WalkO q loose XP YP l.row.toRowW d [] (λf vs=>PySem.call f vs):=by
 refine Zi0 hn hdf λw s₀ s₁ mg mb fa o pm cd doc a vs ns G Y ho hd hcd hmg hobj hints hlen hfit hg=>?_
 have KX:=hY w _ Y
 obtain⟨fd,hb,hF⟩:=F w mg fa _ KX G.T.g hmg
 exact Znm KX G.T.g G.T.b G.T.builtins G.T.nolimit hg hobj hints (Yj hlen hn2) hr hF hb (λH hO hS=>hsp (K w.params) H a ns hlen hfit hO hS) λH e s'=>hCX H s₁ e s'
def Zso{l:PySem.W.OpenLaw}{w:World}{h:Heap}{mg:Str->Option Value}{fa:Addr}{cSE:Addr}{cND:Addr}{clsd:ClassData}{f16:Addr}{od16 an16:Option Addr}{sl16:Array (Option Value)}{oc16 kV16 dc16 pm16 cd16 ct16:Value}{f17:Addr}{od17 an17:Option Addr}{sl17:Array (Option Value)}{oc17 kV17 dc17 pm17 cd17 ct17:Value}{f18:Addr}{od18 an18:Option Addr}{sl18:Array (Option Value)}{oc18 kV18 dc18 pm18 cd18 ct18:Value}{f19:Addr}{od19 an19:Option Addr}{sl19:Array (Option Value)}{oc19 kV19 dc19 pm19 cd19 ct19:Value}{T19 tn19:Nat}{tc19:Value}{td19:Option Addr}{ts19:Array (Option Value)}{tk19_0:Tok}{f20:Addr}{od20 an20:Option Addr}{sl20:Array (Option Value)}{oc20 kV20 dc20 pm20 cd20 ct20:Value}{f21:Addr}{od21 an21:Option Addr}{sl21:Array (Option Value)}{oc21 kV21 dc21 pm21 cd21 ct21:Value}{tk_MOST_LETTERS:Tok}{tk_LETTERS:Tok}{f24:Addr}{od24 an24:Option Addr}{sl24:Array (Option Value)}{oc24 kV24 dc24 pm24 cd24 ct24:Value}{f25:Addr}{od25 an25:Option Addr}{sl25:Array (Option Value)}{oc25 kV25 dc25 pm25 cd25 ct25:Value}{f26:Addr}{od26 an26:Option Addr}{sl26:Array (Option Value)}{oc26 kV26 dc26 pm26 cd26 ct26:Value}{tk_MOST_ROADS:Tok}{f28:Addr}{od28 an28:Option Addr}{sl28:Array (Option Value)}{oc28 kV28 dc28 pm28 cd28 ct28:Value}{f29:Addr}{od29 an29:Option Addr}{sl29:Array (Option Value)}{oc29 kV29 dc29 pm29 cd29 ct29:Value}{cTree:Addr}{f31:Addr}{od31 an31:Option Addr}{sl31:Array (Option Value)}{oc31 kV31 dc31 pm31 cd31 ct31:Value}{f32:Addr}{od32 an32:Option Addr}{sl32:Array (Option Value)}{oc32 kV32 dc32 pm32 cd32 ct32:Value}{f33:Addr}{od33 an33:Option Addr}{sl33:Array (Option Value)}{oc33 kV33 dc33 pm33 cd33 ct33:Value}{f34:Addr}{od34 an34:Option Addr}{sl34:Array (Option Value)}{oc34 kV34 dc34 pm34 cd34 ct34:Value}{f35:Addr}{od35 an35:Option Addr}{sl35:Array (Option Value)}{oc35 kV35 dc35 pm35 cd35 ct35:Value}{f36:Addr}{od36 an36:Option Addr}{sl36:Array (Option Value)}{oc36 kV36 dc36 pm36 cd36 ct36:Value}{f37:Addr}{od37 an37:Option Addr}{sl37:Array (Option Value)}{oc37 kV37 dc37 pm37 cd37 ct37:Value}{tk_MOST_VILLAGES:Tok}{f39:Addr}{od39 an39:Option Addr}{sl39:Array (Option Value)}{oc39 kV39 dc39 pm39 cd39 ct39:Value}{f40:Addr}{od40 an40:Option Addr}{sl40:Array (Option Value)}{oc40 kV40 dc40 pm40 cd40 ct40:Value}{f41:Addr}{od41 an41:Option Addr}{sl41:Array (Option Value)}{oc41 kV41 dc41 pm41 cd41 ct41:Value}{f42:Addr}{od42 an42:Option Addr}{sl42:Array (Option Value)}{oc42 kV42 dc42 pm42 cd42 ct42:Value}{cShire:Addr}{f44:Addr}{od44 an44:Option Addr}{sl44:Array (Option Value)}{oc44 kV44 dc44 pm44 cd44 ct44:Value}{f45:Addr}{od45 an45:Option Addr}{sl45:Array (Option Value)}{oc45 kV45 dc45 pm45 cd45 ct45:Value}{f46:Addr}{od46 an46:Option Addr}{sl46:Array (Option Value)}{oc46 kV46 dc46 pm46 cd46 ct46:Value}{f47:Addr}{od47 an47:Option Addr}{sl47:Array (Option Value)}{oc47 kV47 dc47 pm47 cd47 ct47:Value}{f48:Addr}{od48 an48:Option Addr}{sl48:Array (Option Value)}{oc48 kV48 dc48 pm48 cd48 ct48:Value}{f49:Addr}{od49 an49:Option Addr}{sl49:Array (Option Value)}{oc49 kV49 dc49 pm49 cd49 ct49:Value}{f50:Addr}{od50 an50:Option Addr}{sl50:Array (Option Value)}{oc50 kV50 dc50 pm50 cd50 ct50:Value}{f51:Addr}{od51 an51:Option Addr}{sl51:Array (Option Value)}{oc51 kV51 dc51 pm51 cd51 ct51:Value}{f52:Addr}{od52 an52:Option Addr}{sl52:Array (Option Value)}{oc52 kV52 dc52 pm52 cd52 ct52:Value}{f53:Addr}{od53 an53:Option Addr}{sl53:Array (Option Value)}{oc53 kV53 dc53 pm53 cd53 ct53:Value}{f54:Addr}{od54 an54:Option Addr}{sl54:Array (Option Value)}{oc54 kV54 dc54 pm54 cd54 ct54:Value}{f55:Addr}{od55 an55:Option Addr}{sl55:Array (Option Value)}{oc55 kV55 dc55 pm55 cd55 ct55:Value}{f56:Addr}{od56 an56:Option Addr}{sl56:Array (Option Value)}{oc56 kV56 dc56 pm56 cd56 ct56:Value}{tk_MOST_FIGURES:Tok}{tk_FIGURES:Tok}{f59:Addr}{od59 an59:Option Addr}{sl59:Array (Option Value)}{oc59 kV59 dc59 pm59 cd59 ct59:Value}{f60:Addr}{od60 an60:Option Addr}{sl60:Array (Option Value)}{oc60 kV60 dc60 pm60 cd60 ct60:Value}{f61:Addr}{od61 an61:Option Addr}{sl61:Array (Option Value)}{oc61 kV61 dc61 pm61 cd61 ct61:Value}{f62:Addr}{od62 an62:Option Addr}{sl62:Array (Option Value)}{oc62 kV62 dc62 pm62 cd62 ct62:Value}{f63:Addr}{od63 an63:Option Addr}{sl63:Array (Option Value)}{oc63 kV63 dc63 pm63 cd63 ct63:Value}{f64:Addr}{od64 an64:Option Addr}{sl64:Array (Option Value)}{oc64 kV64 dc64 pm64 cd64 ct64:Value}{f65:Addr}{od65 an65:Option Addr}{sl65:Array (Option Value)}{oc65 kV65 dc65 pm65 cd65 ct65:Value}{f66:Addr}{od66 an66:Option Addr}{sl66:Array (Option Value)}{oc66 kV66 dc66 pm66 cd66 ct66:Value}{f67:Addr}{od67 an67:Option Addr}{sl67:Array (Option Value)}{oc67 kV67 dc67 pm67 cd67 ct67:Value}{f68:Addr}{od68 an68:Option Addr}{sl68:Array (Option Value)}{oc68 kV68 dc68 pm68 cd68 ct68:Value}{cDEEDS:Addr}{cASKED:Addr}{cLONG:Addr}{D0 D1 D2 D3 D4 D5 D6 A0 A1 A2 A3 A4 A5:Addr}{dh0 dh1 dh2 dh3 dh4 dh5 dh6 ah0 ah1 ah2 ah3 ah4 ah5 lh0 lh1:Int}{dt0 dt1 dt2 dt3 dt4 dt5 dt6 at0 at1 at2 at3 at4 at5 lt0 lt1 lv0 lv1:Tok}{dep aep lep:Nat}{tdD0:Option Addr}{tsD0:Array (Option Value)}{tnD0:Nat}{ttD00 ttD01:Tok}{tdD1:Option Addr}{tsD1:Array (Option Value)}{tnD1:Nat}{ttD10:Tok}{tdD2:Option Addr}{tsD2:Array (Option Value)}{tnD2:Nat}{ttD20 ttD21:Tok}{tdD3:Option Addr}{tsD3:Array (Option Value)}{tnD3:Nat}{ttD30 ttD31:Tok}{tdD4:Option Addr}{tsD4:Array (Option Value)}{tnD4:Nat}{ttD40 ttD41:Tok}{tdD5:Option Addr}{tsD5:Array (Option Value)}{tnD5:Nat}{ttD50 ttD51:Tok}{tdD6:Option Addr}{tsD6:Array (Option Value)}{tnD6:Nat}  {tdA0:Option Addr}{tsA0:Array (Option Value)}{tnA0:Nat}  {tdA1:Option Addr}{tsA1:Array (Option Value)}{tnA1:Nat}  {tdA2:Option Addr}{tsA2:Array (Option Value)}{tnA2:Nat}  {tdA3:Option Addr}{tsA3:Array (Option Value)}{tnA3:Nat}  {tdA4:Option Addr}{tsA4:Array (Option Value)}{tnA4:Nat}  {tdA5:Option Addr}{tsA5:Array (Option Value)}{tnA5:Nat}  {f121:Addr}{od121 an121:Option Addr}{sl121:Array (Option Value)}{oc121 kV121 dc121 pm121 cd121 ct121:Value}{f122:Addr}{od122 an122:Option Addr}{sl122:Array (Option Value)}{oc122 kV122 dc122 pm122 cd122 ct122:Value}{f123:Addr}{od123 an123:Option Addr}{sl123:Array (Option Value)}{oc123 kV123 dc123 pm123 cd123 ct123:Value}{f124:Addr}{od124 an124:Option Addr}{sl124:Array (Option Value)}{oc124 kV124 dc124 pm124 cd124 ct124:Value}{f125:Addr}{od125 an125:Option Addr}{sl125:Array (Option Value)}{oc125 kV125 dc125 pm125 cd125 ct125:Value}{f126:Addr}{od126 an126:Option Addr}{sl126:Array (Option Value)}{oc126 kV126 dc126 pm126 cd126 ct126:Value}{cDesk:Addr}{f128:Addr}{od128 an128:Option Addr}{sl128:Array (Option Value)}{oc128 kV128 dc128 pm128 cd128 ct128:Value}{f129:Addr}{od129 an129:Option Addr}{sl129:Array (Option Value)}{oc129 kV129 dc129 pm129 cd129 ct129:Value}{f130:Addr}{od130 an130:Option Addr}{sl130:Array (Option Value)}{oc130 kV130 dc130 pm130 cd130 ct130:Value}{f131:Addr}{od131 an131:Option Addr}{sl131:Array (Option Value)}{oc131 kV131 dc131 pm131 cd131 ct131:Value}{f132:Addr}{od132 an132:Option Addr}{sl132:Array (Option Value)}{oc132 kV132 dc132 pm132 cd132 ct132:Value}{f133:Addr}{od133 an133:Option Addr}{sl133:Array (Option Value)}{oc133 kV133 dc133 pm133 cd133 ct133:Value}{f134:Addr}{od134 an134:Option Addr}{sl134:Array (Option Value)}{oc134 kV134 dc134 pm134 cd134 ct134:Value}{f135:Addr}{od135 an135:Option Addr}{sl135:Array (Option Value)}{oc135 kV135 dc135 pm135 cd135 ct135:Value}{f136:Addr}{od136 an136:Option Addr}{sl136:Array (Option Value)}{oc136 kV136 dc136 pm136 cd136 ct136:Value}{f137:Addr}{od137 an137:Option Addr}{sl137:Array (Option Value)}{oc137 kV137 dc137 pm137 cd137 ct137:Value}{f138:Addr}{od138 an138:Option Addr}{sl138:Array (Option Value)}{oc138 kV138 dc138 pm138 cd138 ct138:Value}{f139:Addr}{od139 an139:Option Addr}{sl139:Array (Option Value)}{oc139 kV139 dc139 pm139 cd139 ct139:Value}{f140:Addr}{od140 an140:Option Addr}{sl140:Array (Option Value)}{oc140 kV140 dc140 pm140 cd140 ct140:Value}{f141:Addr}{od141 an141:Option Addr}{sl141:Array (Option Value)}{oc141 kV141 dc141 pm141 cd141 ct141:Value}{f142:Addr}{od142 an142:Option Addr}{sl142:Array (Option Value)}{oc142 kV142 dc142 pm142 cd142 ct142:Value}{f143:Addr}{od143 an143:Option Addr}{sl143:Array (Option Value)}{oc143 kV143 dc143 pm143 cd143 ct143:Value}{f144:Addr}{od144 an144:Option Addr}{sl144:Array (Option Value)}{oc144 kV144 dc144 pm144 cd144 ct144:Value}{f145:Addr}{od145 an145:Option Addr}{sl145:Array (Option Value)}{oc145 kV145 dc145 pm145 cd145 ct145:Value}{f146:Addr}{od146 an146:Option Addr}{sl146:Array (Option Value)}{oc146 kV146 dc146 pm146 cd146 ct146:Value}
  (X:K.In h) (G:h.Ns mainGlobals mg) (hfa:mg "law"=some (.ref fa))
  (a_ShareError:nsIn K mainGlobals "ShareError"=some (some (.ref cSE)))
  (a_NoDeed:nsIn K mainGlobals "NoDeed"=some (some (.ref cND)))
  (ec0:excIn K cND [.type "ValueError",.type "Exception",.type "BaseException",.type "object"] "ValueError.__new__"=true)
  (x0:PySem.W.clsIn K cND=some clsd)
  (x1:PySem.W.findIn K (.ref cND) "__getattribute__"=some (some (.builtin "BaseException.__getattribute__")))
  (x2:PySem.W.findIn K (.ref cND) "__getattr__"=some none)
  (x3:PySem.W.findIn K (.ref cND) "__class__"=some (some (.builtin "object.__class__")))
  (x4:PySem.W.specialIn K (.builtin "object.__class__") "__get__"=some (some (.builtin "getset_descriptor.__get__")))
  (x5:PySem.W.takesIn K (.builtin "object.__class__")=some true)
  (x6:PySem.W.mroIn K cND (.type "object")=some true)
  (x7:PySem.W.mroIn K cND (.type "BaseException")=some true)
  (e1:exmOne K (.ref cND) (.ref cSE)=some true)
  (e3:kitOne K (.ref cND) (.ref cND)=some true)
  (a16:nsIn K mainGlobals "is_whole"=some (some (.ref f16)))
  (l16:K.lookup f16=some ⟨oc16,od16,.func (fnOf "is_whole" "is_whole" (Zi ZbR) (Zh ZbR) (Za ZbR) .none kV16 dc16 pm16 an16 cd16 ct16),sl16⟩)
  (c16:codeIn K cd16 "is_whole"=true)
  (k16:keepIn K (.ref f16)=true)
  (a17:nsIn K mainGlobals "greatest_divisor"=some (some (.ref f17)))
  (l17:K.lookup f17=some ⟨oc17,od17,.func (fnOf "greatest_divisor" "greatest_divisor" (Zi Zam) (Zh Zam) (Za Zam) .none kV17 dc17 pm17 an17 cd17 ct17),sl17⟩)
  (c17:codeIn K cd17 "greatest_divisor"=true)
  (k17:keepIn K (.ref f17)=true)
  (a18:nsIn K mainGlobals "is_ratio"=some (some (.ref f18)))
  (l18:K.lookup f18=some ⟨oc18,od18,.func (fnOf "is_ratio" "is_ratio" (Zi ZbF) (Zh ZbF) (Za ZbF) .none kV18 dc18 pm18 an18 cd18 ct18),sl18⟩)
  (c18:codeIn K cd18 "is_ratio"=true)
  (k18:keepIn K (.ref f18)=true)
  (a19:nsIn K mainGlobals "ratio"=some (some (.ref f19)))
  (l19:K.lookup f19=some ⟨oc19,od19,.func (fnOf "ratio" "ratio" (Zi Zbx) (Zh Zbx) (Za Zbx) (.ref T19) kV19 dc19 pm19 an19 cd19 ct19),sl19⟩)
  (c19:codeIn K cd19 "ratio"=true)
  (k19:keepIn K (.ref f19)=true)
  (t19:K.lookup T19=some ⟨tc19,td19,.seq #[.int 1 tk19_0] tn19,ts19⟩)
  (a20:nsIn K mainGlobals "rest_of"=some (some (.ref f20)))
  (l20:K.lookup f20=some ⟨oc20,od20,.func (fnOf "rest_of" "rest_of" (Zi Zb9) (Zh Zb9) (Za Zb9) .none kV20 dc20 pm20 an20 cd20 ct20),sl20⟩)
  (c20:codeIn K cd20 "rest_of"=true)
  (k20:keepIn K (.ref f20)=true)
  (a21:nsIn K mainGlobals "is_less"=some (some (.ref f21)))
  (l21:K.lookup f21=some ⟨oc21,od21,.func (fnOf "is_less" "is_less" (Zi Zcd) (Zh Zcd) (Za Zcd) .none kV21 dc21 pm21 an21 cd21 ct21),sl21⟩)
  (c21:codeIn K cd21 "is_less"=true)
  (k21:keepIn K (.ref f21)=true)
  (a_MOST_LETTERS:nsIn K mainGlobals "MOST_LETTERS"=some (some (.int 8 tk_MOST_LETTERS)))
  (a_LETTERS:nsIn K mainGlobals "LETTERS"=some (some (.str "abcdefghijklmnopqrstuvwxyz" tk_LETTERS)))
  (a24:nsIn K mainGlobals "is_name"=some (some (.ref f24)))
  (l24:K.lookup f24=some ⟨oc24,od24,.func (fnOf "is_name" "is_name" (Zi Zcc) (Zh Zcc) (Za Zcc) .none kV24 dc24 pm24 an24 cd24 ct24),sl24⟩)
  (c24:codeIn K cd24 "is_name"=true)
  (k24:keepIn K (.ref f24)=true)
  (a25:nsIn K mainGlobals "is_price"=some (some (.ref f25)))
  (l25:K.lookup f25=some ⟨oc25,od25,.func (fnOf "is_price" "is_price" (Zi ZbI) (Zh ZbI) (Za ZbI) .none kV25 dc25 pm25 an25 cd25 ct25),sl25⟩)
  (c25:codeIn K cd25 "is_price"=true)
  (k25:keepIn K (.ref f25)=true)
  (a26:nsIn K mainGlobals "is_road"=some (some (.ref f26)))
  (l26:K.lookup f26=some ⟨oc26,od26,.func (fnOf "is_road" "is_road" (Zi Zcb) (Zh Zcb) (Za Zcb) .none kV26 dc26 pm26 an26 cd26 ct26),sl26⟩)
  (c26:codeIn K cd26 "is_road"=true)
  (k26:keepIn K (.ref f26)=true)
  (a_MOST_ROADS:nsIn K mainGlobals "MOST_ROADS"=some (some (.int 40 tk_MOST_ROADS)))
  (a28:nsIn K mainGlobals "look_roads"=some (some (.ref f28)))
  (l28:K.lookup f28=some ⟨oc28,od28,.func (fnOf "look_roads" "look_roads" (Zi Za5) (Zh Za5) (Za Za5) .none kV28 dc28 pm28 an28 cd28 ct28),sl28⟩)
  (c28:codeIn K cd28 "look_roads"=true)
  (k28:keepIn K (.ref f28)=true)
  (a29:nsIn K mainGlobals "way_from"=some (some (.ref f29)))
  (l29:K.lookup f29=some ⟨oc29,od29,.func (fnOf "way_from" "way_from" (Zi ZbH) (Zh ZbH) (Za ZbH) .none kV29 dc29 pm29 an29 cd29 ct29),sl29⟩)
  (c29:codeIn K cd29 "way_from"=true)
  (k29:keepIn K (.ref f29)=true)
  (a_Tree:nsIn K mainGlobals "Tree"=some (some (.ref cTree)))
  (pg_Tree:plainGet K cTree Str.empty=true)
  (hd_Tree:hasDictIn K cTree=true)
  (po_Tree:plainOver K cTree=true)
  (sa_Tree:PySem.W.findIn K (.ref cTree) "__setattr__"=some (some (.builtin "object.__setattr__")))
  (ZaT:PySem.W.findIn K (.ref cTree) "lanes"=some none)
  (ZcJ:PySem.W.findIn K (.ref cTree) "ways"=some none)
  (a31:PySem.W.findIn K (.ref cTree) "__init__"=some (some (.ref f31)))
  (l31:K.lookup f31=some ⟨oc31,od31,.func (fnOf "__init__" "Tree.__init__" (Zi Zai) (Zh Zai) (Za Zai) .none kV31 dc31 pm31 an31 cd31 ct31),sl31⟩)
  (c31:codeIn K cd31 "Tree.__init__"=true)
  (k31:keepIn K (.ref f31)=true)
  (i31:isFn K (.ref f31)=true)
  (mk31:makesIn K cTree=true)
  (kc31:keepIn K (.ref cTree)=true)
  (a32:PySem.W.findIn K (.ref cTree) "roads"=some (some (.ref f32)))
  (l32:K.lookup f32=some ⟨oc32,od32,.func (fnOf "roads" "Tree.roads" (Zi Zaw) (Zh Zaw) (Za Zaw) .none kV32 dc32 pm32 an32 cd32 ct32),sl32⟩)
  (c32:codeIn K cd32 "Tree.roads"=true)
  (k32:keepIn K (.ref f32)=true)
  (i32:isFn K (.ref f32)=true)
  (a33:PySem.W.findIn K (.ref cTree) "many"=some (some (.ref f33)))
  (l33:K.lookup f33=some ⟨oc33,od33,.func (fnOf "many" "Tree.many" (Zi ZaH) (Zh ZaH) (Za ZaH) .none kV33 dc33 pm33 an33 cd33 ct33),sl33⟩)
  (c33:codeIn K cd33 "Tree.many"=true)
  (k33:keepIn K (.ref f33)=true)
  (i33:isFn K (.ref f33)=true)
  (a34:PySem.W.findIn K (.ref cTree) "look_crossing"=some (some (.ref f34)))
  (l34:K.lookup f34=some ⟨oc34,od34,.func (fnOf "look_crossing" "Tree.look_crossing" (Zi Zaa) (Zh Zaa) (Za Zaa) .none kV34 dc34 pm34 an34 cd34 ct34),sl34⟩)
  (c34:codeIn K cd34 "Tree.look_crossing"=true)
  (k34:keepIn K (.ref f34)=true)
  (i34:isFn K (.ref f34)=true)
  (a35:PySem.W.findIn K (.ref cTree) "look_road"=some (some (.ref f35)))
  (l35:K.lookup f35=some ⟨oc35,od35,.func (fnOf "look_road" "Tree.look_road" (Zi Zae) (Zh Zae) (Za Zae) .none kV35 dc35 pm35 an35 cd35 ct35),sl35⟩)
  (c35:codeIn K cd35 "Tree.look_road"=true)
  (k35:keepIn K (.ref f35)=true)
  (i35:isFn K (.ref f35)=true)
  (a36:PySem.W.findIn K (.ref cTree) "leads_to"=some (some (.ref f36)))
  (l36:K.lookup f36=some ⟨oc36,od36,.func (fnOf "leads_to" "Tree.leads_to" (Zi Zaj) (Zh Zaj) (Za Zaj) .none kV36 dc36 pm36 an36 cd36 ct36),sl36⟩)
  (c36:codeIn K cd36 "Tree.leads_to"=true)
  (k36:keepIn K (.ref f36)=true)
  (i36:isFn K (.ref f36)=true)
  (a37:PySem.W.findIn K (.ref cTree) "price"=some (some (.ref f37)))
  (l37:K.lookup f37=some ⟨oc37,od37,.func (fnOf "price" "Tree.price" (Zi ZaA) (Zh ZaA) (Za ZaA) .none kV37 dc37 pm37 an37 cd37 ct37),sl37⟩)
  (c37:codeIn K cd37 "Tree.price"=true)
  (k37:keepIn K (.ref f37)=true)
  (i37:isFn K (.ref f37)=true)
  (a_MOST_VILLAGES:nsIn K mainGlobals "MOST_VILLAGES"=some (some (.int 12 tk_MOST_VILLAGES)))
  (a39:nsIn K mainGlobals "look_price"=some (some (.ref f39)))
  (l39:K.lookup f39=some ⟨oc39,od39,.func (fnOf "look_price" "look_price" (Zi Zbb) (Zh Zbb) (Za Zbb) .none kV39 dc39 pm39 an39 cd39 ct39),sl39⟩)
  (c39:codeIn K cd39 "look_price"=true)
  (k39:keepIn K (.ref f39)=true)
  (a40:nsIn K mainGlobals "look_room"=some (some (.ref f40)))
  (l40:K.lookup f40=some ⟨oc40,od40,.func (fnOf "look_room" "look_room" (Zi Zbi) (Zh Zbi) (Za Zbi) .none kV40 dc40 pm40 an40 cd40 ct40),sl40⟩)
  (c40:codeIn K cd40 "look_room"=true)
  (k40:keepIn K (.ref f40)=true)
  (a41:nsIn K mainGlobals "with_road"=some (some (.ref f41)))
  (l41:K.lookup f41=some ⟨oc41,od41,.func (fnOf "with_road" "with_road" (Zi Zbl) (Zh Zbl) (Za Zbl) .none kV41 dc41 pm41 an41 cd41 ct41),sl41⟩)
  (c41:codeIn K cd41 "with_road"=true)
  (k41:keepIn K (.ref f41)=true)
  (a42:nsIn K mainGlobals "with_one_more"=some (some (.ref f42)))
  (l42:K.lookup f42=some ⟨oc42,od42,.func (fnOf "with_one_more" "with_one_more" (Zi ZaG) (Zh ZaG) (Za ZaG) .none kV42 dc42 pm42 an42 cd42 ct42),sl42⟩)
  (c42:codeIn K cd42 "with_one_more"=true)
  (k42:keepIn K (.ref f42)=true)
  (a_Shire:nsIn K mainGlobals "Shire"=some (some (.ref cShire)))
  (pg_Shire:plainGet K cShire Str.empty=true)
  (hd_Shire:hasDictIn K cShire=true)
  (po_Shire:plainOver K cShire=true)
  (sa_Shire:PySem.W.findIn K (.ref cShire) "__setattr__"=some (some (.builtin "object.__setattr__")))
  (Zw:PySem.W.findIn K (.ref cShire) "land"=some none)
  (Zs:PySem.W.findIn K (.ref cShire) "places"=some none)
  (Zbs:PySem.W.findIn K (.ref cShire) "past"=some none)
  (a44:PySem.W.findIn K (.ref cShire) "__init__"=some (some (.ref f44)))
  (l44:K.lookup f44=some ⟨oc44,od44,.func (fnOf "__init__" "Shire.__init__" (Zi Zaf) (Zh Zaf) (Za Zaf) .none kV44 dc44 pm44 an44 cd44 ct44),sl44⟩)
  (c44:codeIn K cd44 "Shire.__init__"=true)
  (k44:keepIn K (.ref f44)=true)
  (i44:isFn K (.ref f44)=true)
  (mk44:makesIn K cShire=true)
  (kc44:keepIn K (.ref cShire)=true)
  (a45:PySem.W.findIn K (.ref cShire) "do"=some (some (.ref f45)))
  (l45:K.lookup f45=some ⟨oc45,od45,.func (fnOf "do" "Shire.do" (Zi Za0) (Zh Za0) (Za Za0) .none kV45 dc45 pm45 an45 cd45 ct45),sl45⟩)
  (c45:codeIn K cd45 "Shire.do"=true)
  (k45:keepIn K (.ref f45)=true)
  (i45:isFn K (.ref f45)=true)
  (a46:PySem.W.findIn K (.ref cShire) "place"=some (some (.ref f46)))
  (l46:K.lookup f46=some ⟨oc46,od46,.func (fnOf "place" "Shire.place" (Zi Zao) (Zh Zao) (Za Zao) .none kV46 dc46 pm46 an46 cd46 ct46),sl46⟩)
  (c46:codeIn K cd46 "Shire.place"=true)
  (k46:keepIn K (.ref f46)=true)
  (i46:isFn K (.ref f46)=true)
  (a47:PySem.W.findIn K (.ref cShire) "look_village"=some (some (.ref f47)))
  (l47:K.lookup f47=some ⟨oc47,od47,.func (fnOf "look_village" "Shire.look_village" (Zi Zab) (Zh Zab) (Za Zab) .none kV47 dc47 pm47 an47 cd47 ct47),sl47⟩)
  (c47:codeIn K cd47 "Shire.look_village"=true)
  (k47:keepIn K (.ref f47)=true)
  (i47:isFn K (.ref f47)=true)
  (a48:PySem.W.findIn K (.ref cShire) "come"=some (some (.ref f48)))
  (l48:K.lookup f48=some ⟨oc48,od48,.func (fnOf "come" "Shire.come" (Zi Zax) (Zh Zax) (Za Zax) .none kV48 dc48 pm48 an48 cd48 ct48),sl48⟩)
  (c48:codeIn K cd48 "Shire.come"=true)
  (k48:keepIn K (.ref f48)=true)
  (i48:isFn K (.ref f48)=true)
  (a49:PySem.W.findIn K (.ref cShire) "go"=some (some (.ref f49)))
  (l49:K.lookup f49=some ⟨oc49,od49,.func (fnOf "go" "Shire.go" (Zi ZaZ) (Zh ZaZ) (Za ZaZ) .none kV49 dc49 pm49 an49 cd49 ct49),sl49⟩)
  (c49:codeIn K cd49 "Shire.go"=true)
  (k49:keepIn K (.ref f49)=true)
  (i49:isFn K (.ref f49)=true)
  (a50:PySem.W.findIn K (.ref cShire) "move"=some (some (.ref f50)))
  (l50:K.lookup f50=some ⟨oc50,od50,.func (fnOf "move" "Shire.move" (Zi ZaC) (Zh ZaC) (Za ZaC) .none kV50 dc50 pm50 an50 cd50 ct50),sl50⟩)
  (c50:codeIn K cd50 "Shire.move"=true)
  (k50:keepIn K (.ref f50)=true)
  (i50:isFn K (.ref f50)=true)
  (a51:PySem.W.findIn K (.ref cShire) "reprice"=some (some (.ref f51)))
  (l51:K.lookup f51=some ⟨oc51,od51,.func (fnOf "reprice" "Shire.reprice" (Zi Zag) (Zh Zag) (Za Zag) .none kV51 dc51 pm51 an51 cd51 ct51),sl51⟩)
  (c51:codeIn K cd51 "Shire.reprice"=true)
  (k51:keepIn K (.ref f51)=true)
  (i51:isFn K (.ref f51)=true)
  (a52:PySem.W.findIn K (.ref cShire) "build"=some (some (.ref f52)))
  (l52:K.lookup f52=some ⟨oc52,od52,.func (fnOf "build" "Shire.build" (Zi Zaq) (Zh Zaq) (Za Zaq) .none kV52 dc52 pm52 an52 cd52 ct52),sl52⟩)
  (c52:codeIn K cd52 "Shire.build"=true)
  (k52:keepIn K (.ref f52)=true)
  (i52:isFn K (.ref f52)=true)
  (a53:PySem.W.findIn K (.ref cShire) "cut"=some (some (.ref f53)))
  (l53:K.lookup f53=some ⟨oc53,od53,.func (fnOf "cut" "Shire.cut" (Zi ZaK) (Zh ZaK) (Za ZaK) .none kV53 dc53 pm53 an53 cd53 ct53),sl53⟩)
  (c53:codeIn K cd53 "Shire.cut"=true)
  (k53:keepIn K (.ref f53)=true)
  (i53:isFn K (.ref f53)=true)
  (a54:PySem.W.findIn K (.ref cShire) "back"=some (some (.ref f54)))
  (l54:K.lookup f54=some ⟨oc54,od54,.func (fnOf "back" "Shire.back" (Zi Zau) (Zh Zau) (Za Zau) .none kV54 dc54 pm54 an54 cd54 ct54),sl54⟩)
  (c54:codeIn K cd54 "Shire.back"=true)
  (k54:keepIn K (.ref f54)=true)
  (i54:isFn K (.ref f54)=true)
  (a55:PySem.W.findIn K (.ref cShire) "tree"=some (some (.ref f55)))
  (l55:K.lookup f55=some ⟨oc55,od55,.func (fnOf "tree" "Shire.tree" (Zi Zay) (Zh Zay) (Za Zay) .none kV55 dc55 pm55 an55 cd55 ct55),sl55⟩)
  (c55:codeIn K cd55 "Shire.tree"=true)
  (k55:keepIn K (.ref f55)=true)
  (i55:isFn K (.ref f55)=true)
  (a56:PySem.W.findIn K (.ref cShire) "homes"=some (some (.ref f56)))
  (l56:K.lookup f56=some ⟨oc56,od56,.func (fnOf "homes" "Shire.homes" (Zi Zap) (Zh Zap) (Za Zap) .none kV56 dc56 pm56 an56 cd56 ct56),sl56⟩)
  (c56:codeIn K cd56 "Shire.homes"=true)
  (k56:keepIn K (.ref f56)=true)
  (i56:isFn K (.ref f56)=true)
  (a_MOST_FIGURES:nsIn K mainGlobals "MOST_FIGURES"=some (some (.int 30 tk_MOST_FIGURES)))
  (a_FIGURES:nsIn K mainGlobals "FIGURES"=some (some (.str "0123456789" tk_FIGURES)))
  (a59:nsIn K mainGlobals "show_ratio"=some (some (.ref f59)))
  (l59:K.lookup f59=some ⟨oc59,od59,.func (fnOf "show_ratio" "show_ratio" (Zi Zbc) (Zh Zbc) (Za Zbc) .none kV59 dc59 pm59 an59 cd59 ct59),sl59⟩)
  (c59:codeIn K cd59 "show_ratio"=true)
  (k59:keepIn K (.ref f59)=true)
  (a60:nsIn K mainGlobals "show_road"=some (some (.ref f60)))
  (l60:K.lookup f60=some ⟨oc60,od60,.func (fnOf "show_road" "show_road" (Zi Zbj) (Zh Zbj) (Za Zbj) .none kV60 dc60 pm60 an60 cd60 ct60),sl60⟩)
  (c60:codeIn K cd60 "show_road"=true)
  (k60:keepIn K (.ref f60)=true)
  (a61:nsIn K mainGlobals "show_tree"=some (some (.ref f61)))
  (l61:K.lookup f61=some ⟨oc61,od61,.func (fnOf "show_tree" "show_tree" (Zi Zbt) (Zh Zbt) (Za Zbt) .none kV61 dc61 pm61 an61 cd61 ct61),sl61⟩)
  (c61:codeIn K cd61 "show_tree"=true)
  (k61:keepIn K (.ref f61)=true)
  (a62:nsIn K mainGlobals "look_text"=some (some (.ref f62)))
  (l62:K.lookup f62=some ⟨oc62,od62,.func (fnOf "look_text" "look_text" (Zi Zbr) (Zh Zbr) (Za Zbr) .none kV62 dc62 pm62 an62 cd62 ct62),sl62⟩)
  (c62:codeIn K cd62 "look_text"=true)
  (k62:keepIn K (.ref f62)=true)
  (a63:nsIn K mainGlobals "read_whole"=some (some (.ref f63)))
  (l63:K.lookup f63=some ⟨oc63,od63,.func (fnOf "read_whole" "read_whole" (Zi Za7) (Zh Za7) (Za Za7) .none kV63 dc63 pm63 an63 cd63 ct63),sl63⟩)
  (c63:codeIn K cd63 "read_whole"=true)
  (k63:keepIn K (.ref f63)=true)
  (a64:nsIn K mainGlobals "read_ratio"=some (some (.ref f64)))
  (l64:K.lookup f64=some ⟨oc64,od64,.func (fnOf "read_ratio" "read_ratio" (Zi Za6) (Zh Za6) (Za Za6) .none kV64 dc64 pm64 an64 cd64 ct64),sl64⟩)
  (c64:codeIn K cd64 "read_ratio"=true)
  (k64:keepIn K (.ref f64)=true)
  (a65:nsIn K mainGlobals "read_road"=some (some (.ref f65)))
  (l65:K.lookup f65=some ⟨oc65,od65,.func (fnOf "read_road" "read_road" (Zi Zbk) (Zh Zbk) (Za Zbk) .none kV65 dc65 pm65 an65 cd65 ct65),sl65⟩)
  (c65:codeIn K cd65 "read_road"=true)
  (k65:keepIn K (.ref f65)=true)
  (a66:nsIn K mainGlobals "read_tree"=some (some (.ref f66)))
  (l66:K.lookup f66=some ⟨oc66,od66,.func (fnOf "read_tree" "read_tree" (Zi Zbm) (Zh Zbm) (Za Zbm) .none kV66 dc66 pm66 an66 cd66 ct66),sl66⟩)
  (c66:codeIn K cd66 "read_tree"=true)
  (k66:keepIn K (.ref f66)=true)
  (a67:nsIn K mainGlobals "or_none"=some (some (.ref f67)))
  (l67:K.lookup f67=some ⟨oc67,od67,.func (fnOf "or_none" "or_none" (Zi Zb8) (Zh Zb8) (Za Zb8) .none kV67 dc67 pm67 an67 cd67 ct67),sl67⟩)
  (c67:codeIn K cd67 "or_none"=true)
  (k67:keepIn K (.ref f67)=true)
  (a68:nsIn K mainGlobals "show_homes"=some (some (.ref f68)))
  (l68:K.lookup f68=some ⟨oc68,od68,.func (fnOf "show_homes" "show_homes" (Zi Zbd) (Zh Zbd) (Za Zbd) .none kV68 dc68 pm68 an68 cd68 ct68),sl68⟩)
  (c68:codeIn K cd68 "show_homes"=true)
  (k68:keepIn K (.ref f68)=true)
  (a_DEEDS:nsIn K mainGlobals "DEEDS"=some (some (.ref cDEEDS)))
  (a_ASKED:nsIn K mainGlobals "ASKED"=some (some (.ref cASKED)))
  (a_LONG_ASKED:nsIn K mainGlobals "LONG_ASKED"=some (some (.ref cLONG)))
  (gd:K.lookup cDEEDS=some ⟨.type "dict",none,.dict #[⟨dh0,.str "come" dt0,.ref D0⟩,⟨dh1,.str "go" dt1,.ref D1⟩,⟨dh2,.str "move" dt2,.ref D2⟩,⟨dh3,.str "price" dt3,.ref D3⟩,⟨dh4,.str "cut" dt4,.ref D4⟩,⟨dh5,.str "build" dt5,.ref D5⟩,⟨dh6,.str "back" dt6,.ref D6⟩] dep,#[]⟩)
  (sd:(cDEEDS == sysModules)=false)
  (ga:K.lookup cASKED=some ⟨.type "dict",none,.dict #[⟨ah0,.str "tree" at0,.ref A0⟩,⟨ah1,.str "homes" at1,.ref A1⟩,⟨ah2,.str "even" at2,.ref A2⟩,⟨ah3,.str "evenest" at3,.ref A3⟩,⟨ah4,.str "third" at4,.ref A4⟩,⟨ah5,.str "stairs" at5,.ref A5⟩] aep,#[]⟩)
  (sa:(cASKED == sysModules)=false)
  (gl:K.lookup cLONG=some ⟨.type "dict",none,.dict #[⟨lh0,.str "cost" lt0,.str "name" lv0⟩,⟨lh1,.str "judge" lt1,.str "share" lv1⟩] lep,#[]⟩)
  (sl:(cLONG == sysModules)=false)
  (hh_dh0:dh0=JG w (Sum.inr "come"))
  (hh_dh1:dh1=JG w (Sum.inr "go"))
  (hh_dh2:dh2=JG w (Sum.inr "move"))
  (hh_dh3:dh3=JG w (Sum.inr "price"))
  (hh_dh4:dh4=JG w (Sum.inr "cut"))
  (hh_dh5:dh5=JG w (Sum.inr "build"))
  (hh_dh6:dh6=JG w (Sum.inr "back"))
  (hh_ah0:ah0=JG w (Sum.inr "tree"))
  (hh_ah1:ah1=JG w (Sum.inr "homes"))
  (hh_ah2:ah2=JG w (Sum.inr "even"))
  (hh_ah3:ah3=JG w (Sum.inr "evenest"))
  (hh_ah4:ah4=JG w (Sum.inr "third"))
  (hh_ah5:ah5=JG w (Sum.inr "stairs"))
  (hh_lh0:lh0=JG w (Sum.inr "cost"))
  (hh_lh1:lh1=JG w (Sum.inr "judge"))
  (tlD0:K.lookup D0=some ⟨.type "tuple",tdD0,.seq #[.str "name" ttD00,.str "number" ttD01] tnD0,tsD0⟩)
  (tlD1:K.lookup D1=some ⟨.type "tuple",tdD1,.seq #[.str "name" ttD10] tnD1,tsD1⟩)
  (tlD2:K.lookup D2=some ⟨.type "tuple",tdD2,.seq #[.str "name" ttD20,.str "number" ttD21] tnD2,tsD2⟩)
  (tlD3:K.lookup D3=some ⟨.type "tuple",tdD3,.seq #[.str "number" ttD30,.str "fraction" ttD31] tnD3,tsD3⟩)
  (tlD4:K.lookup D4=some ⟨.type "tuple",tdD4,.seq #[.str "number" ttD40,.str "fraction" ttD41] tnD4,tsD4⟩)
  (tlD5:K.lookup D5=some ⟨.type "tuple",tdD5,.seq #[.str "number" ttD50,.str "fraction" ttD51] tnD5,tsD5⟩)
  (tlD6:K.lookup D6=some ⟨.type "tuple",tdD6,.seq #[] tnD6,tsD6⟩)
  (tlA0:K.lookup A0=some ⟨.type "tuple",tdA0,.seq #[] tnA0,tsA0⟩)
  (tlA1:K.lookup A1=some ⟨.type "tuple",tdA1,.seq #[] tnA1,tsA1⟩)
  (tlA2:K.lookup A2=some ⟨.type "tuple",tdA2,.seq #[] tnA2,tsA2⟩)
  (tlA3:K.lookup A3=some ⟨.type "tuple",tdA3,.seq #[] tnA3,tsA3⟩)
  (tlA4:K.lookup A4=some ⟨.type "tuple",tdA4,.seq #[] tnA4,tsA4⟩)
  (tlA5:K.lookup A5=some ⟨.type "tuple",tdA5,.seq #[] tnA5,tsA5⟩)
  (a121:nsIn K mainGlobals "kinds_behind"=some (some (.ref f121)))
  (l121:K.lookup f121=some ⟨oc121,od121,.func (fnOf "kinds_behind" "kinds_behind" (Zi ZaP) (Zh ZaP) (Za ZaP) .none kV121 dc121 pm121 an121 cd121 ct121),sl121⟩)
  (c121:codeIn K cd121 "kinds_behind"=true)
  (k121:keepIn K (.ref f121)=true)
  (a122:nsIn K mainGlobals "read_name"=some (some (.ref f122)))
  (l122:K.lookup f122=some ⟨oc122,od122,.func (fnOf "read_name" "read_name" (Zi Zbp) (Zh Zbp) (Za Zbp) .none kV122 dc122 pm122 an122 cd122 ct122),sl122⟩)
  (c122:codeIn K cd122 "read_name"=true)
  (k122:keepIn K (.ref f122)=true)
  (a123:nsIn K mainGlobals "read_word"=some (some (.ref f123)))
  (l123:K.lookup f123=some ⟨oc123,od123,.func (fnOf "read_word" "read_word" (Zi Zbo) (Zh Zbo) (Za Zbo) .none kV123 dc123 pm123 an123 cd123 ct123),sl123⟩)
  (c123:codeIn K cd123 "read_word"=true)
  (k123:keepIn K (.ref f123)=true)
  (a124:nsIn K mainGlobals "read_row"=some (some (.ref f124)))
  (l124:K.lookup f124=some ⟨oc124,od124,.func (fnOf "read_row" "read_row" (Zi ZbK) (Zh ZbK) (Za ZbK) .none kV124 dc124 pm124 an124 cd124 ct124),sl124⟩)
  (c124:codeIn K cd124 "read_row"=true)
  (k124:keepIn K (.ref f124)=true)
  (a125:nsIn K mainGlobals "done"=some (some (.ref f125)))
  (l125:K.lookup f125=some ⟨oc125,od125,.func (fnOf "done" "done" (Zi ZdG) (Zh ZdG) (Za ZdG) .none kV125 dc125 pm125 an125 cd125 ct125),sl125⟩)
  (c125:codeIn K cd125 "done"=true)
  (k125:keepIn K (.ref f125)=true)
  (a126:nsIn K mainGlobals "told"=some (some (.ref f126)))
  (l126:K.lookup f126=some ⟨oc126,od126,.func (fnOf "told" "told" (Zi ZfN) (Zh ZfN) (Za ZfN) .none kV126 dc126 pm126 an126 cd126 ct126),sl126⟩)
  (c126:codeIn K cd126 "told"=true)
  (k126:keepIn K (.ref f126)=true)
  (a_Desk:nsIn K mainGlobals "Desk"=some (some (.ref cDesk)))
  (pg_Desk:plainGet K cDesk Str.empty=true)
  (hd_Desk:hasDictIn K cDesk=true)
  (po_Desk:plainOver K cDesk=true)
  (sa_Desk:PySem.W.findIn K (.ref cDesk) "__setattr__"=some (some (.builtin "object.__setattr__")))
  (Zbz:PySem.W.findIn K (.ref cDesk) "shire"=some none)
  (a128:PySem.W.findIn K (.ref cDesk) "__init__"=some (some (.ref f128)))
  (l128:K.lookup f128=some ⟨oc128,od128,.func (fnOf "__init__" "Desk.__init__" (Zi Zah) (Zh Zah) (Za Zah) .none kV128 dc128 pm128 an128 cd128 ct128),sl128⟩)
  (c128:codeIn K cd128 "Desk.__init__"=true)
  (k128:keepIn K (.ref f128)=true)
  (i128:isFn K (.ref f128)=true)
  (mk128:makesIn K cDesk=true)
  (kc128:keepIn K (.ref cDesk)=true)
  (a129:PySem.W.findIn K (.ref cDesk) "say"=some (some (.ref f129)))
  (l129:K.lookup f129=some ⟨oc129,od129,.func (fnOf "say" "Desk.say" (Zi Za1) (Zh Za1) (Za Za1) .none kV129 dc129 pm129 an129 cd129 ct129),sl129⟩)
  (c129:codeIn K cd129 "Desk.say"=true)
  (k129:keepIn K (.ref f129)=true)
  (i129:isFn K (.ref f129)=true)
  (a130:nsIn K mainGlobals "_law_cell_at"=some (some (.ref f130)))
  (l130:K.lookup f130=some ⟨oc130,od130,.func (fnOf "_law_cell_at" "_law_cell_at" (Zi ZaV) (Zh ZaV) (Za ZaV) .none kV130 dc130 pm130 an130 cd130 ct130),sl130⟩)
  (c130:codeIn K cd130 "_law_cell_at"=true)
  (k130:keepIn K (.ref f130)=true)
  (a131:nsIn K mainGlobals "_law_divisor"=some (some (.ref f131)))
  (l131:K.lookup f131=some ⟨oc131,od131,.func (fnOf "_law_divisor" "_law_divisor" (Zi ZaX) (Zh ZaX) (Za ZaX) .none kV131 dc131 pm131 an131 cd131 ct131),sl131⟩)
  (c131:codeIn K cd131 "_law_divisor"=true)
  (k131:keepIn K (.ref f131)=true)
  (a132:nsIn K mainGlobals "_law_low"=some (some (.ref f132)))
  (l132:K.lookup f132=some ⟨oc132,od132,.func (fnOf "_law_low" "_law_low" (Zi Zce) (Zh Zce) (Za Zce) .none kV132 dc132 pm132 an132 cd132 ct132),sl132⟩)
  (c132:codeIn K cd132 "_law_low"=true)
  (k132:keepIn K (.ref f132)=true)
  (a133:nsIn K mainGlobals "_law_numbers"=some (some (.ref f133)))
  (l133:K.lookup f133=some ⟨oc133,od133,.func (fnOf "_law_numbers" "_law_numbers" (Zi ZaW) (Zh ZaW) (Za ZaW) .none kV133 dc133 pm133 an133 cd133 ct133),sl133⟩)
  (c133:codeIn K cd133 "_law_numbers"=true)
  (k133:keepIn K (.ref f133)=true)
  (a134:nsIn K mainGlobals "_law_name"=some (some (.ref f134)))
  (l134:K.lookup f134=some ⟨oc134,od134,.func (fnOf "_law_name" "_law_name" (Zi ZbG) (Zh ZbG) (Za ZbG) .none kV134 dc134 pm134 an134 cd134 ct134),sl134⟩)
  (c134:codeIn K cd134 "_law_name"=true)
  (k134:keepIn K (.ref f134)=true)
  (a135:nsIn K mainGlobals "_law_price_by"=some (some (.ref f135)))
  (l135:K.lookup f135=some ⟨oc135,od135,.func (fnOf "_law_price_by" "_law_price_by" (Zi ZaR) (Zh ZaR) (Za ZaR) .none kV135 dc135 pm135 an135 cd135 ct135),sl135⟩)
  (c135:codeIn K cd135 "_law_price_by"=true)
  (k135:keepIn K (.ref f135)=true)
  (a136:nsIn K mainGlobals "_law_roads_by"=some (some (.ref f136)))
  (l136:K.lookup f136=some ⟨oc136,od136,.func (fnOf "_law_roads_by" "_law_roads_by" (Zi Zar) (Zh Zar) (Za Zar) .none kV136 dc136 pm136 an136 cd136 ct136),sl136⟩)
  (c136:codeIn K cd136 "_law_roads_by"=true)
  (k136:keepIn K (.ref f136)=true)
  (a137:nsIn K mainGlobals "_law_word"=some (some (.ref f137)))
  (l137:K.lookup f137=some ⟨oc137,od137,.func (fnOf "_law_word" "_law_word" (Zi ZbE) (Zh ZbE) (Za ZbE) .none kV137 dc137 pm137 an137 cd137 ct137),sl137⟩)
  (c137:codeIn K cd137 "_law_word"=true)
  (k137:keepIn K (.ref f137)=true)
  (a138:nsIn K mainGlobals "_law_tree_text"=some (some (.ref f138)))
  (l138:K.lookup f138=some ⟨oc138,od138,.func (fnOf "_law_tree_text" "_law_tree_text" (Zi ZaF) (Zh ZaF) (Za ZaF) .none kV138 dc138 pm138 an138 cd138 ct138),sl138⟩)
  (c138:codeIn K cd138 "_law_tree_text"=true)
  (k138:keepIn K (.ref f138)=true)
  (a139:nsIn K mainGlobals "_law_own_word"=some (some (.ref f139)))
  (l139:K.lookup f139=some ⟨oc139,od139,.func (fnOf "_law_own_word" "_law_own_word" (Zi ZaN) (Zh ZaN) (Za ZaN) .none kV139 dc139 pm139 an139 cd139 ct139),sl139⟩)
  (c139:codeIn K cd139 "_law_own_word"=true)
  (k139:keepIn K (.ref f139)=true)
  (a140:nsIn K mainGlobals "_law_row_by"=some (some (.ref f140)))
  (l140:K.lookup f140=some ⟨oc140,od140,.func (fnOf "_law_row_by" "_law_row_by" (Zi Za9) (Zh Za9) (Za Za9) .none kV140 dc140 pm140 an140 cd140 ct140),sl140⟩)
  (c140:codeIn K cd140 "_law_row_by"=true)
  (k140:keepIn K (.ref f140)=true)
  (a141:nsIn K mainGlobals "_law_done"=some (some (.ref f141)))
  (l141:K.lookup f141=some ⟨oc141,od141,.func (fnOf "_law_done" "_law_done" (Zi ZbL) (Zh ZbL) (Za ZbL) .none kV141 dc141 pm141 an141 cd141 ct141),sl141⟩)
  (c141:codeIn K cd141 "_law_done"=true)
  (k141:keepIn K (.ref f141)=true)
  (a142:nsIn K mainGlobals "_law_row_text"=some (some (.ref f142)))
  (l142:K.lookup f142=some ⟨oc142,od142,.func (fnOf "_law_row_text" "_law_row_text" (Zi ZaO) (Zh ZaO) (Za ZaO) .none kV142 dc142 pm142 an142 cd142 ct142),sl142⟩)
  (c142:codeIn K cd142 "_law_row_text"=true)
  (k142:keepIn K (.ref f142)=true)
  (a143:nsIn K mainGlobals "_law_homes_text"=some (some (.ref f143)))
  (l143:K.lookup f143=some ⟨oc143,od143,.func (fnOf "_law_homes_text" "_law_homes_text" (Zi Zat) (Zh Zat) (Za Zat) .none kV143 dc143 pm143 an143 cd143 ct143),sl143⟩)
  (c143:codeIn K cd143 "_law_homes_text"=true)
  (k143:keepIn K (.ref f143)=true)
  (a144:nsIn K mainGlobals "_law_shows"=some (some (.ref f144)))
  (l144:K.lookup f144=some ⟨oc144,od144,.func (fnOf "_law_shows" "_law_shows" (Zi Zbn) (Zh Zbn) (Za Zbn) .none kV144 dc144 pm144 an144 cd144 ct144),sl144⟩)
  (c144:codeIn K cd144 "_law_shows"=true)
  (k144:keepIn K (.ref f144)=true)
  (a145:nsIn K mainGlobals "_law_back"=some (some (.ref f145)))
  (l145:K.lookup f145=some ⟨oc145,od145,.func (fnOf "_law_back" "_law_back" (Zi ZbJ) (Zh ZbJ) (Za ZbJ) .none kV145 dc145 pm145 an145 cd145 ct145),sl145⟩)
  (c145:codeIn K cd145 "_law_back"=true)
  (k145:keepIn K (.ref f145)=true)
  (a146:nsIn K mainGlobals "law"=some (some (.ref f146)))
  (l146:K.lookup f146=some ⟨oc146,od146,.func (fnOf "law" "law" (Zi Zgz) (Zh Zgz) (Za Zgz) .none kV146 dc146 pm146 an146 cd146 ct146),sl146⟩)
  (c146:codeIn K cd146 "law"=true)
  (k146:keepIn K (.ref f146)=true)
  (Zcx:nsIn K mainGlobals "isinstance"=some none)
  (Zp0:nsIn K mainGlobals "int"=some none)
  (ZkN:nsIn K mainGlobals "bool"=some none)
  (ZpG:nsIn K mainGlobals "abs"=some none)
  (Zin:nsIn K mainGlobals "tuple"=some none)
  (ZqX:nsIn K mainGlobals "len"=some none)
  (Zqb:nsIn K mainGlobals "str"=some none)
  (ZqJ:nsIn K mainGlobals "all"=some none)
  (ZkR:nsIn K mainGlobals "list"=some none)
  (Zi4:nsIn K mainGlobals "range"=some none)
  (Zlj:nsIn K mainGlobals "dict"=some none)
  (Zga:nsIn K mainGlobals "sorted"=some none)
  (ZqZ:nsIn K mainGlobals "zip"=some none)
  (ZpT:nsIn K mainGlobals "min"=some none)
  (ZpK:nsIn K mainGlobals "max"=some none)
  : ∃ fd:FuncData,(∀ (s:Shared) (v:Value),BindsTo s fd ⟨[v],[]⟩ [("_law_script",v)])/\∀ base:Heap,K.In base->base.Ns mainGlobals mg->FnOk l.prog w K mg base Zx 13 fa fd ["_law_script"] (Zk6 K):=by
 have e:=hfa.symm.trans (mg_of X G a146)
 cases e
 have ZgK:=mg_none_of X G ZpK
 have Zkx:=mg_none_of X G ZpT
 have ZpF:=mg_none_of X G ZqZ
 have ZbC:=mg_none_of X G Zga
 have Zcv:=mg_none_of X G Zlj
 have Jh:=mg_none_of X G Zi4
 have JJ:=mg_none_of X G ZkR
 have Zkj:=mg_none_of X G ZqJ
 have Jl:=mg_none_of X G Zqb
 have ZC:=mg_none_of X G ZqX
 have Zcs:=mg_none_of X G Zin
 have Zh3:=mg_none_of X G ZpG
 have Zl2:=mg_none_of X G ZkN
 have Zke:=mg_none_of X G Zp0
 have Zp:=mg_none_of X G Zcx
 have ZcH:=mg_of X G a_ShareError
 have ZcM:=mg_of X G a_NoDeed
 have xk:ExcK K cND:=⟨by rw [x0]; rfl,x1,x2,x3,x4,x5,x6,x7⟩
 have ec:Zrp K cND:=ec0
 have U16:=Zq (st:=ZbR) l16 c16 k16
 have b16:=U16.binds (ps:=["thing"]) λ_ _ _ _ _ _ us hl=>JM (Pr:=λus=>bindArgs _ ⟨us,[]⟩=pure (List.zip _ us)) us hl λ_=>rfl
 have U17:=Zq (st:=Zam) l17 c17 k17
 have b17:=U17.binds (ps:=["one","other"]) λ_ _ _ _ _ _ us hl=>JU (Pr:=λus=>bindArgs _ ⟨us,[]⟩=pure (List.zip _ us)) us hl λ_ _=>rfl
 have U18:=Zq (st:=ZbF) l18 c18 k18
 have b18:=U18.binds (ps:=["thing"]) λ_ _ _ _ _ _ us hl=>JM (Pr:=λus=>bindArgs _ ⟨us,[]⟩=pure (List.zip _ us)) us hl λ_=>rfl
 have U19:=Zf4 (st:=Zbx) l19 c19 k19
 have b19:ZA K (fnOf "ratio" "ratio" (Zi Zbx) (Zh Zbx) (Za Zbx) (.ref T19) kV19 dc19 pm19 an19 cd19 ct19) ["top","bottom"] []:=λs us Y hl=>match us,hl with | [_,_],_=>BindsTo.of_defaults (T:=T19) rfl (Y _ _ t19) rfl rfl rfl
 have b19_1:ZA K (fnOf "ratio" "ratio" (Zi Zbx) (Zh Zbx) (Za Zbx) (.ref T19) kV19 dc19 pm19 an19 cd19 ct19) ["top","bottom"] [.int 1 tk19_0]:=λs us Y hl=>by
  have hl2:us.length=1:=by simpa using hl
  exact match us,hl2 with | [_],_=>BindsTo.of_defaults (T:=T19) rfl (Y _ _ t19) rfl rfl rfl
 have U20:=Zq (st:=Zb9) l20 c20 k20
 have b20:=U20.binds (ps:=["one","other"]) λ_ _ _ _ _ _ us hl=>JU (Pr:=λus=>bindArgs _ ⟨us,[]⟩=pure (List.zip _ us)) us hl λ_ _=>rfl
 have U21:=Zq (st:=Zcd) l21 c21 k21
 have b21:=U21.binds (ps:=["one","other"]) λ_ _ _ _ _ _ us hl=>JU (Pr:=λus=>bindArgs _ ⟨us,[]⟩=pure (List.zip _ us)) us hl λ_ _=>rfl
 have g_MOST_LETTERS:=mg_of X G a_MOST_LETTERS
 have g_LETTERS:=mg_of X G a_LETTERS
 have U24:=Zq (st:=Zcc) l24 c24 k24
 have b24:=U24.binds (ps:=["thing"]) λ_ _ _ _ _ _ us hl=>JM (Pr:=λus=>bindArgs _ ⟨us,[]⟩=pure (List.zip _ us)) us hl λ_=>rfl
 have U25:=Zq (st:=ZbI) l25 c25 k25
 have b25:=U25.binds (ps:=["thing"]) λ_ _ _ _ _ _ us hl=>JM (Pr:=λus=>bindArgs _ ⟨us,[]⟩=pure (List.zip _ us)) us hl λ_=>rfl
 have U26:=Zq (st:=Zcb) l26 c26 k26
 have b26:=U26.binds (ps:=["thing","many"]) λ_ _ _ _ _ _ us hl=>JU (Pr:=λus=>bindArgs _ ⟨us,[]⟩=pure (List.zip _ us)) us hl λ_ _=>rfl
 have g_MOST_ROADS:=mg_of X G a_MOST_ROADS
 have U28:=Zq (st:=Za5) l28 c28 k28
 have b28:=U28.binds (ps:=["thing"]) λ_ _ _ _ _ _ us hl=>JM (Pr:=λus=>bindArgs _ ⟨us,[]⟩=pure (List.zip _ us)) us hl λ_=>rfl
 have U29:=Zq (st:=ZbH) l29 c29 k29
 have b29:=U29.binds (ps:=["roads","k"]) λ_ _ _ _ _ _ us hl=>JU (Pr:=λus=>bindArgs _ ⟨us,[]⟩=pure (List.zip _ us)) us hl λ_ _=>rfl
 have ZrF:=mg_of X G a_Tree
 have ZP:Cls K cTree:=⟨pg_Tree,hd_Tree,po_Tree,sa_Tree⟩
 have U31:=Zq (st:=Zai) l31 c31 k31
 have b31:ZA K (fnOf "__init__" "Tree.__init__" (Zi Zai) (Zh Zai) (Za Zai) .none kV31 dc31 pm31 an31 cd31 ct31) ["self","roads"] []:=ZA.all λus hl=>JU (Pr:=λus=>bindArgs _ ⟨us,[]⟩=pure (List.zip _ us)) us hl λ_ _=>rfl
 have U32:=Zq (st:=Zaw) l32 c32 k32
 have b32:ZA K (fnOf "roads" "Tree.roads" (Zi Zaw) (Zh Zaw) (Za Zaw) .none kV32 dc32 pm32 an32 cd32 ct32) ["self"] []:=ZA.all λus hl=>JM (Pr:=λus=>bindArgs _ ⟨us,[]⟩=pure (List.zip _ us)) us hl λ_=>rfl
 have U33:=Zq (st:=ZaH) l33 c33 k33
 have b33:ZA K (fnOf "many" "Tree.many" (Zi ZaH) (Zh ZaH) (Za ZaH) .none kV33 dc33 pm33 an33 cd33 ct33) ["self"] []:=ZA.all λus hl=>JM (Pr:=λus=>bindArgs _ ⟨us,[]⟩=pure (List.zip _ us)) us hl λ_=>rfl
 have U34:=Zq (st:=Zaa) l34 c34 k34
 have b34:ZA K (fnOf "look_crossing" "Tree.look_crossing" (Zi Zaa) (Zh Zaa) (Za Zaa) .none kV34 dc34 pm34 an34 cd34 ct34) ["self","k"] []:=ZA.all λus hl=>JU (Pr:=λus=>bindArgs _ ⟨us,[]⟩=pure (List.zip _ us)) us hl λ_ _=>rfl
 have U35:=Zq (st:=Zae) l35 c35 k35
 have b35:ZA K (fnOf "look_road" "Tree.look_road" (Zi Zae) (Zh Zae) (Za Zae) .none kV35 dc35 pm35 an35 cd35 ct35) ["self","k"] []:=ZA.all λus hl=>JU (Pr:=λus=>bindArgs _ ⟨us,[]⟩=pure (List.zip _ us)) us hl λ_ _=>rfl
 have U36:=Zq (st:=Zaj) l36 c36 k36
 have b36:ZA K (fnOf "leads_to" "Tree.leads_to" (Zi Zaj) (Zh Zaj) (Za Zaj) .none kV36 dc36 pm36 an36 cd36 ct36) ["self","k"] []:=ZA.all λus hl=>JU (Pr:=λus=>bindArgs _ ⟨us,[]⟩=pure (List.zip _ us)) us hl λ_ _=>rfl
 have U37:=Zq (st:=ZaA) l37 c37 k37
 have b37:ZA K (fnOf "price" "Tree.price" (Zi ZaA) (Zh ZaA) (Za ZaA) .none kV37 dc37 pm37 an37 cd37 ct37) ["self","k"] []:=ZA.all λus hl=>JU (Pr:=λus=>bindArgs _ ⟨us,[]⟩=pure (List.zip _ us)) us hl λ_ _=>rfl
 have g_MOST_VILLAGES:=mg_of X G a_MOST_VILLAGES
 have U39:=Zq (st:=Zbb) l39 c39 k39
 have b39:=U39.binds (ps:=["price"]) λ_ _ _ _ _ _ us hl=>JM (Pr:=λus=>bindArgs _ ⟨us,[]⟩=pure (List.zip _ us)) us hl λ_=>rfl
 have U40:=Zq (st:=Zbi) l40 c40 k40
 have b40:=U40.binds (ps:=["tree"]) λ_ _ _ _ _ _ us hl=>JM (Pr:=λus=>bindArgs _ ⟨us,[]⟩=pure (List.zip _ us)) us hl λ_=>rfl
 have U41:=Zq (st:=Zbl) l41 c41 k41
 have b41:=U41.binds (ps:=["tree","k","road"]) λ_ _ _ _ _ _ us hl=>Zks (Pr:=λus=>bindArgs _ ⟨us,[]⟩=pure (List.zip _ us)) us hl λ_ _ _=>rfl
 have U42:=Zq (st:=ZaG) l42 c42 k42
 have b42:=U42.binds (ps:=["tree","road"]) λ_ _ _ _ _ _ us hl=>JU (Pr:=λus=>bindArgs _ ⟨us,[]⟩=pure (List.zip _ us)) us hl λ_ _=>rfl
 have Zp2:=mg_of X G a_Shire
 have Zg:Cls K cShire:=⟨pg_Shire,hd_Shire,po_Shire,sa_Shire⟩
 have U44:=Zq (st:=Zaf) l44 c44 k44
 have b44:ZA K (fnOf "__init__" "Shire.__init__" (Zi Zaf) (Zh Zaf) (Za Zaf) .none kV44 dc44 pm44 an44 cd44 ct44) ["self","tree"] []:=ZA.all λus hl=>JU (Pr:=λus=>bindArgs _ ⟨us,[]⟩=pure (List.zip _ us)) us hl λ_ _=>rfl
 have U45:=Zq (st:=Za0) l45 c45 k45
 have b45:ZA K (fnOf "do" "Shire.do" (Zi Za0) (Zh Za0) (Za Za0) .none kV45 dc45 pm45 an45 cd45 ct45) ["self","land","places"] []:=ZA.all λus hl=>Zks (Pr:=λus=>bindArgs _ ⟨us,[]⟩=pure (List.zip _ us)) us hl λ_ _ _=>rfl
 have U46:=Zq (st:=Zao) l46 c46 k46
 have b46:ZA K (fnOf "place" "Shire.place" (Zi Zao) (Zh Zao) (Za Zao) .none kV46 dc46 pm46 an46 cd46 ct46) ["self","name","k"] []:=ZA.all λus hl=>Zks (Pr:=λus=>bindArgs _ ⟨us,[]⟩=pure (List.zip _ us)) us hl λ_ _ _=>rfl
 have U47:=Zq (st:=Zab) l47 c47 k47
 have b47:ZA K (fnOf "look_village" "Shire.look_village" (Zi Zab) (Zh Zab) (Za Zab) .none kV47 dc47 pm47 an47 cd47 ct47) ["self","name"] []:=ZA.all λus hl=>JU (Pr:=λus=>bindArgs _ ⟨us,[]⟩=pure (List.zip _ us)) us hl λ_ _=>rfl
 have U48:=Zq (st:=Zax) l48 c48 k48
 have b48:ZA K (fnOf "come" "Shire.come" (Zi Zax) (Zh Zax) (Za Zax) .none kV48 dc48 pm48 an48 cd48 ct48) ["self","name","k"] []:=ZA.all λus hl=>Zks (Pr:=λus=>bindArgs _ ⟨us,[]⟩=pure (List.zip _ us)) us hl λ_ _ _=>rfl
 have U49:=Zq (st:=ZaZ) l49 c49 k49
 have b49:ZA K (fnOf "go" "Shire.go" (Zi ZaZ) (Zh ZaZ) (Za ZaZ) .none kV49 dc49 pm49 an49 cd49 ct49) ["self","name"] []:=ZA.all λus hl=>JU (Pr:=λus=>bindArgs _ ⟨us,[]⟩=pure (List.zip _ us)) us hl λ_ _=>rfl
 have U50:=Zq (st:=ZaC) l50 c50 k50
 have b50:ZA K (fnOf "move" "Shire.move" (Zi ZaC) (Zh ZaC) (Za ZaC) .none kV50 dc50 pm50 an50 cd50 ct50) ["self","name","k"] []:=ZA.all λus hl=>Zks (Pr:=λus=>bindArgs _ ⟨us,[]⟩=pure (List.zip _ us)) us hl λ_ _ _=>rfl
 have U51:=Zq (st:=Zag) l51 c51 k51
 have b51:ZA K (fnOf "reprice" "Shire.reprice" (Zi Zag) (Zh Zag) (Za Zag) .none kV51 dc51 pm51 an51 cd51 ct51) ["self","k","price"] []:=ZA.all λus hl=>Zks (Pr:=λus=>bindArgs _ ⟨us,[]⟩=pure (List.zip _ us)) us hl λ_ _ _=>rfl
 have U52:=Zq (st:=Zaq) l52 c52 k52
 have b52:ZA K (fnOf "build" "Shire.build" (Zi Zaq) (Zh Zaq) (Za Zaq) .none kV52 dc52 pm52 an52 cd52 ct52) ["self","to","price"] []:=ZA.all λus hl=>Zks (Pr:=λus=>bindArgs _ ⟨us,[]⟩=pure (List.zip _ us)) us hl λ_ _ _=>rfl
 have U53:=Zq (st:=ZaK) l53 c53 k53
 have b53:ZA K (fnOf "cut" "Shire.cut" (Zi ZaK) (Zh ZaK) (Za ZaK) .none kV53 dc53 pm53 an53 cd53 ct53) ["self","k","price"] []:=ZA.all λus hl=>Zks (Pr:=λus=>bindArgs _ ⟨us,[]⟩=pure (List.zip _ us)) us hl λ_ _ _=>rfl
 have U54:=Zf4 (st:=Zau) l54 c54 k54
 have b54:ZA K (fnOf "back" "Shire.back" (Zi Zau) (Zh Zau) (Za Zau) .none kV54 dc54 pm54 an54 cd54 ct54) ["self"] []:=ZA.all λus hl=>JM (Pr:=λus=>bindArgs _ ⟨us,[]⟩=pure (List.zip _ us)) us hl λ_=>rfl
 have U55:=Zq (st:=Zay) l55 c55 k55
 have b55:ZA K (fnOf "tree" "Shire.tree" (Zi Zay) (Zh Zay) (Za Zay) .none kV55 dc55 pm55 an55 cd55 ct55) ["self"] []:=ZA.all λus hl=>JM (Pr:=λus=>bindArgs _ ⟨us,[]⟩=pure (List.zip _ us)) us hl λ_=>rfl
 have U56:=Zq (st:=Zap) l56 c56 k56
 have b56:ZA K (fnOf "homes" "Shire.homes" (Zi Zap) (Zh Zap) (Za Zap) .none kV56 dc56 pm56 an56 cd56 ct56) ["self"] []:=ZA.all λus hl=>JM (Pr:=λus=>bindArgs _ ⟨us,[]⟩=pure (List.zip _ us)) us hl λ_=>rfl
 have g_MOST_FIGURES:=mg_of X G a_MOST_FIGURES
 have g_FIGURES:=mg_of X G a_FIGURES
 have U59:=Zq (st:=Zbc) l59 c59 k59
 have b59:=U59.binds (ps:=["one"]) λ_ _ _ _ _ _ us hl=>JM (Pr:=λus=>bindArgs _ ⟨us,[]⟩=pure (List.zip _ us)) us hl λ_=>rfl
 have U60:=Zq (st:=Zbj) l60 c60 k60
 have b60:=U60.binds (ps:=["road"]) λ_ _ _ _ _ _ us hl=>JM (Pr:=λus=>bindArgs _ ⟨us,[]⟩=pure (List.zip _ us)) us hl λ_=>rfl
 have U61:=Zq (st:=Zbt) l61 c61 k61
 have b61:=U61.binds (ps:=["tree"]) λ_ _ _ _ _ _ us hl=>JM (Pr:=λus=>bindArgs _ ⟨us,[]⟩=pure (List.zip _ us)) us hl λ_=>rfl
 have U62:=Zq (st:=Zbr) l62 c62 k62
 have b62:=U62.binds (ps:=["thing"]) λ_ _ _ _ _ _ us hl=>JM (Pr:=λus=>bindArgs _ ⟨us,[]⟩=pure (List.zip _ us)) us hl λ_=>rfl
 have U63:=Zq (st:=Za7) l63 c63 k63
 have b63:=U63.binds (ps:=["text"]) λ_ _ _ _ _ _ us hl=>JM (Pr:=λus=>bindArgs _ ⟨us,[]⟩=pure (List.zip _ us)) us hl λ_=>rfl
 have U64:=Zq (st:=Za6) l64 c64 k64
 have b64:=U64.binds (ps:=["text"]) λ_ _ _ _ _ _ us hl=>JM (Pr:=λus=>bindArgs _ ⟨us,[]⟩=pure (List.zip _ us)) us hl λ_=>rfl
 have U65:=Zq (st:=Zbk) l65 c65 k65
 have b65:=U65.binds (ps:=["row"]) λ_ _ _ _ _ _ us hl=>JM (Pr:=λus=>bindArgs _ ⟨us,[]⟩=pure (List.zip _ us)) us hl λ_=>rfl
 have U66:=Zq (st:=Zbm) l66 c66 k66
 have b66:=U66.binds (ps:=["text"]) λ_ _ _ _ _ _ us hl=>JM (Pr:=λus=>bindArgs _ ⟨us,[]⟩=pure (List.zip _ us)) us hl λ_=>rfl
 have U67:=Zq (st:=Zb8) l67 c67 k67
 have b67:=U67.binds (ps:=["words"]) λ_ _ _ _ _ _ us hl=>JM (Pr:=λus=>bindArgs _ ⟨us,[]⟩=pure (List.zip _ us)) us hl λ_=>rfl
 have U68:=Zq (st:=Zbd) l68 c68 k68
 have b68:=U68.binds (ps:=["homes"]) λ_ _ _ _ _ _ us hl=>JM (Pr:=λus=>bindArgs _ ⟨us,[]⟩=pure (List.zip _ us)) us hl λ_=>rfl
 have ZdT:=mg_of X G a_DEEDS
 have Zia:=mg_of X G a_ASKED
 have ZcK:=mg_of X G a_LONG_ASKED
 have dt:DeskT l.prog w K cDEEDS cASKED cLONG:=Zro gd sd ga sa gl sl hh_dh0 hh_dh1 hh_dh2 hh_dh3 hh_dh4 hh_dh5 hh_dh6 hh_ah0 hh_ah1 hh_ah2 hh_ah3 hh_ah4 hh_ah5 hh_lh0 hh_lh1 (gt2 tlD0) (gt1 tlD1) (gt2 tlD2) (gt2 tlD3) (gt2 tlD4) (gt2 tlD5) (gt0 tlD6) (gt0 tlA0) (gt0 tlA1) (gt0 tlA2) (gt0 tlA3) (gt0 tlA4) (gt0 tlA5)
 have U121:=Zq (st:=ZaP) l121 c121 k121
 have b121:=U121.binds (ps:=["first","many"]) λ_ _ _ _ _ _ us hl=>JU (Pr:=λus=>bindArgs _ ⟨us,[]⟩=pure (List.zip _ us)) us hl λ_ _=>rfl
 have U122:=Zq (st:=Zbp) l122 c122 k122
 have b122:=U122.binds (ps:=["word"]) λ_ _ _ _ _ _ us hl=>JM (Pr:=λus=>bindArgs _ ⟨us,[]⟩=pure (List.zip _ us)) us hl λ_=>rfl
 have U123:=Zq (st:=Zbo) l123 c123 k123
 have b123:=U123.binds (ps:=["kind","word"]) λ_ _ _ _ _ _ us hl=>JU (Pr:=λus=>bindArgs _ ⟨us,[]⟩=pure (List.zip _ us)) us hl λ_ _=>rfl
 have U124:=Zq (st:=ZbK) l124 c124 k124
 have b124:=U124.binds (ps:=["row"]) λ_ _ _ _ _ _ us hl=>JM (Pr:=λus=>bindArgs _ ⟨us,[]⟩=pure (List.zip _ us)) us hl λ_=>rfl
 have U125:=Zf4 (st:=ZdG) l125 c125 k125
 have b125:ZA K (fnOf "done" "done" (Zi ZdG) (Zh ZdG) (Za ZdG) .none kV125 dc125 pm125 an125 cd125 ct125) ["shire","first","words"] []:=ZA.all λus hl=>Zks (Pr:=λus=>bindArgs _ ⟨us,[]⟩=pure (List.zip _ us)) us hl λ_ _ _=>rfl
 have U126:=Zq (st:=ZfN) l126 c126 k126
 have b126:=U126.binds (ps:=["shire","first","words"]) λ_ _ _ _ _ _ us hl=>Zks (Pr:=λus=>bindArgs _ ⟨us,[]⟩=pure (List.zip _ us)) us hl λ_ _ _=>rfl
 have Zsb:=mg_of X G a_Desk
 have ZbD:Cls K cDesk:=⟨pg_Desk,hd_Desk,po_Desk,sa_Desk⟩
 have U128:=Zq (st:=Zah) l128 c128 k128
 have b128:ZA K (fnOf "__init__" "Desk.__init__" (Zi Zah) (Zh Zah) (Za Zah) .none kV128 dc128 pm128 an128 cd128 ct128) ["self","text"] []:=ZA.all λus hl=>JU (Pr:=λus=>bindArgs _ ⟨us,[]⟩=pure (List.zip _ us)) us hl λ_ _=>rfl
 have U129:=Zf4 (st:=Za1) l129 c129 k129
 have b129:ZA K (fnOf "say" "Desk.say" (Zi Za1) (Zh Za1) (Za Za1) .none kV129 dc129 pm129 an129 cd129 ct129) ["self","row"] []:=ZA.all λus hl=>JU (Pr:=λus=>bindArgs _ ⟨us,[]⟩=pure (List.zip _ us)) us hl λ_ _=>rfl
 have U130:=Zq (st:=ZaV) l130 c130 k130
 have b130:=U130.binds (ps:=["_law_script","_law_k"]) λ_ _ _ _ _ _ us hl=>JU (Pr:=λus=>bindArgs _ ⟨us,[]⟩=pure (List.zip _ us)) us hl λ_ _=>rfl
 have U131:=Zq (st:=ZaX) l131 c131 k131
 have b131:=U131.binds (ps:=["_law_one","_law_other"]) λ_ _ _ _ _ _ us hl=>JU (Pr:=λus=>bindArgs _ ⟨us,[]⟩=pure (List.zip _ us)) us hl λ_ _=>rfl
 have U132:=Zq (st:=Zce) l132 c132 k132
 have b132:=U132.binds (ps:=["_law_top","_law_bottom"]) λ_ _ _ _ _ _ us hl=>JU (Pr:=λus=>bindArgs _ ⟨us,[]⟩=pure (List.zip _ us)) us hl λ_ _=>rfl
 have U133:=Zq (st:=ZaW) l133 c133 k133
 have b133:=U133.binds (ps:=["_law_cell","_law_many"]) λ_ _ _ _ _ _ us hl=>JU (Pr:=λus=>bindArgs _ ⟨us,[]⟩=pure (List.zip _ us)) us hl λ_ _=>rfl
 have U134:=Zq (st:=ZbG) l134 c134 k134
 have b134:=U134.binds (ps:=["_law_k","_law_seed"]) λ_ _ _ _ _ _ us hl=>JU (Pr:=λus=>bindArgs _ ⟨us,[]⟩=pure (List.zip _ us)) us hl λ_ _=>rfl
 have U135:=Zq (st:=ZaR) l135 c135 k135
 have b135:=U135.binds (ps:=["_law_v","_law_wide","_law_cell"]) λ_ _ _ _ _ _ us hl=>Zks (Pr:=λus=>bindArgs _ ⟨us,[]⟩=pure (List.zip _ us)) us hl λ_ _ _=>rfl
 have U136:=Zq (st:=Zar) l136 c136 k136
 have b136:=U136.binds (ps:=["_law_cell","_law_most"]) λ_ _ _ _ _ _ us hl=>JU (Pr:=λus=>bindArgs _ ⟨us,[]⟩=pure (List.zip _ us)) us hl λ_ _=>rfl
 have U137:=Zq (st:=ZbE) l137 c137 k137
 have b137:=U137.binds (ps:=["_law_one"]) λ_ _ _ _ _ _ us hl=>JM (Pr:=λus=>bindArgs _ ⟨us,[]⟩=pure (List.zip _ us)) us hl λ_=>rfl
 have U138:=Zq (st:=ZaF) l138 c138 k138
 have b138:=U138.binds (ps:=["_law_roads"]) λ_ _ _ _ _ _ us hl=>JM (Pr:=λus=>bindArgs _ ⟨us,[]⟩=pure (List.zip _ us)) us hl λ_=>rfl
 have U139:=Zq (st:=ZaN) l139 c139 k139
 have b139:=U139.binds (ps:=["_law_k"]) λ_ _ _ _ _ _ us hl=>JM (Pr:=λus=>bindArgs _ ⟨us,[]⟩=pure (List.zip _ us)) us hl λ_=>rfl
 have U140:=Zq (st:=Za9) l140 c140 k140
 have b140:=U140.binds (ps:=["_law_v","_law_roads","_law_homes","_law_k"]) λ_ _ _ _ _ _ us hl=>Zu5 (Pr:=λus=>bindArgs _ ⟨us,[]⟩=pure (List.zip _ us)) us hl λ_ _ _ _=>rfl
 have U141:=Zq (st:=ZbL) l141 c141 k141
 have b141:=U141.binds (ps:=["_law_deed","_law_roads","_law_homes"]) λ_ _ _ _ _ _ us hl=>Zks (Pr:=λus=>bindArgs _ ⟨us,[]⟩=pure (List.zip _ us)) us hl λ_ _ _=>rfl
 have U142:=Zq (st:=ZaO) l142 c142 k142
 have b142:=U142.binds (ps:=["_law_deed"]) λ_ _ _ _ _ _ us hl=>JM (Pr:=λus=>bindArgs _ ⟨us,[]⟩=pure (List.zip _ us)) us hl λ_=>rfl
 have U143:=Zq (st:=Zat) l143 c143 k143
 have b143:=U143.binds (ps:=["_law_homes"]) λ_ _ _ _ _ _ us hl=>JM (Pr:=λus=>bindArgs _ ⟨us,[]⟩=pure (List.zip _ us)) us hl λ_=>rfl
 have U144:=Zq (st:=Zbn) l144 c144 k144
 have b144:=U144.binds (ps:=["_law_desk","_law_roads","_law_homes"]) λ_ _ _ _ _ _ us hl=>Zks (Pr:=λus=>bindArgs _ ⟨us,[]⟩=pure (List.zip _ us)) us hl λ_ _ _=>rfl
 have U145:=Zq (st:=ZbJ) l145 c145 k145
 have b145:=U145.binds (ps:=["_law_desk","_law_past"]) λ_ _ _ _ _ _ us hl=>JU (Pr:=λus=>bindArgs _ ⟨us,[]⟩=pure (List.zip _ us)) us hl λ_ _=>rfl
 have U146:=Zq (st:=Zgz) l146 c146 k146
 refine⟨fnOf "law" "law" (Zi Zgz) (Zh Zgz) (Za Zgz) .none kV146 dc146 pm146 an146 cd146 ct146,λs v=>.of_eq rfl,λbase _ _=>?_⟩
 have Zan:=ZQ X G a16 k16 b16 (My.ZhX (P:=l.prog) (w:=w) (base:=base) U16 Zp Zke Zl2)
 have Zal:=ZQ X G a17 k17 b17 (My.Zs7 (P:=l.prog) (w:=w) (base:=base) U17 Zh3)
 have ZbM:=ZQ X G a18 k18 b18 (My.Zie (P:=l.prog) (w:=w) (base:=base) U18 Zp Zcs ZC Zan Zal)
 have ZqC:=My.ZoW (P:=l.prog) (w:=w) (base:=base) U19 Zan Zal
 have ZiG:Fn l.prog w K mg base Zx _ "ratio" ["top","bottom"] _:=⟨f19,_,ZqC,b19,k19,mg_of X G a19⟩
 have ZeD:=ZQ X G a20 k20 b20 (My.Zq5 (P:=l.prog) (w:=w) (base:=base) U20 ZiG)
 have Zew:=ZQ X G a21 k21 b21 (My.ZpJ (P:=l.prog) (w:=w) (base:=base) U21 )
 have Zbg:=ZQ X G a24 k24 b24 (My.ZkK (P:=l.prog) (w:=w) (base:=base) U24 Zp Jl ZC Zkj g_MOST_LETTERS g_LETTERS)
 have ZbP:=ZQ X G a25 k25 b25 (My.Zh5 (P:=l.prog) (w:=w) (base:=base) U25 ZbM)
 have ZeU:=ZQ X G a26 k26 b26 (My.ZjW (P:=l.prog) (w:=w) (base:=base) U26 Zp Zcs ZC Zan ZbP)
 have ZcI:=ZQ X G a28 k28 b28 (My.Zrh (P:=l.prog) (w:=w) (base:=base) U28 Zp JJ ZC g_MOST_ROADS ZeU)
 have ZdX:=ZQ X G a29 k29 b29 (My.ZpE (P:=l.prog) (w:=w) (base:=base) U29 ZC)
 have Ze6:=My.Zp4 (P:=l.prog) (w:=w) (base:=base) U31 JJ ZC Jh ZP ZaT ZcJ ZcI ZdX
 have Zdu:Mkr l.prog w K mg base Zx _ cTree "Tree" ["self","roads"] _:=⟨f31,_,Ze6,b31,⟨mk31,a31,i31,kc31⟩,ZrF⟩
 have ZhB:=My.ZkH (P:=l.prog) (w:=w) (base:=base) U32 JJ ZP ZaT
 have Zck:Mth l.prog w K mg base Zx _ cTree "roads" ["self"] _:=⟨f32,_,ZhB,b32,⟨a32,i32,k32⟩,ZP⟩
 have Zh1:=My.ZqA (P:=l.prog) (w:=w) (base:=base) U33 ZC ZP ZcJ
 have Zcw:Mth l.prog w K mg base Zx _ cTree "many" ["self"] _:=⟨f33,_,Zh1,b33,⟨a33,i33,k33⟩,ZP⟩
 have ZcS:=My.Znz (P:=l.prog) (w:=w) (base:=base) U34 (CNP:=0) Zan Zcw
 have Zac:Mth l.prog w K mg base Zx _ cTree "look_crossing" ["self","k"] _:=⟨f34,_,ZcS,b34,⟨a34,i34,k34⟩,ZP⟩
 have Zel:=My.Zno (P:=l.prog) (w:=w) (base:=base) U35 Zac
 have ZaJ:Mth l.prog w K mg base Zx _ cTree "look_road" ["self","k"] _:=⟨f35,_,Zel,b35,⟨a35,i35,k35⟩,ZP⟩
 have Ze5:=My.ZmE (P:=l.prog) (w:=w) (base:=base) U36 ZP ZaT ZaJ
 have ZbO:Mth l.prog w K mg base Zx _ cTree "leads_to" ["self","k"] _:=⟨f36,_,Ze5,b36,⟨a36,i36,k36⟩,ZP⟩
 have Zhz:=My.Zmu (P:=l.prog) (w:=w) (base:=base) U37 ZP ZaT ZaJ
 have ZhU:Mth l.prog w K mg base Zx _ cTree "price" ["self","k"] _:=⟨f37,_,Zhz,b37,⟨a37,i37,k37⟩,ZP⟩
 have Zav:=ZQ X G a39 k39 b39 (My.ZgX (P:=l.prog) (w:=w) (base:=base) U39 ZbP)
 have Zbq:=ZQ X G a40 k40 b40 (My.Zif (P:=l.prog) (w:=w) (base:=base) U40 g_MOST_ROADS Zcw)
 have Zbh:=ZQ X G a41 k41 b41 (My.ZhM (P:=l.prog) (w:=w) (base:=base) U41 Zck Zdu)
 have ZaE:=ZQ X G a42 k42 b42 (My.Zh6 (P:=l.prog) (w:=w) (base:=base) U42 Zck Zdu)
 have Zek:=My.Zop (P:=l.prog) (w:=w) (base:=base) U44 (mg:=mg) Zg Zw Zs Zbs
 have ZiN:Mkr l.prog w K mg base Zx _ cShire "Shire" ["self","tree"] _:=⟨f44,_,Zek,b44,⟨mk44,a44,i44,kc44⟩,Zp2⟩
 have Zko:=My.Zue (P:=l.prog) (w:=w) (base:=base) U45 (mg:=mg) (CT:=cTree) Zg Zw Zs Zbs
 have ZiX:Mth l.prog w K mg base Zx _ cShire "do" ["self","land","places"] _:=⟨f45,_,Zko,b45,⟨a45,i45,k45⟩,Zg⟩
 have ZfY:=My.ZoS (P:=l.prog) (w:=w) (base:=base) U46 Zcv Zg Zw Zs ZiX
 have ZdP:Mth l.prog w K mg base Zx _ cShire "place" ["self","name","k"] _:=⟨f46,_,ZfY,b46,⟨a46,i46,k46⟩,Zg⟩
 have ZcT:=My.Zm4 (P:=l.prog) (w:=w) (base:=base) U47 (CT:=cTree) Zg Zs Zbg
 have ZaQ:Mth l.prog w K mg base Zx _ cShire "look_village" ["self","name"] _:=⟨f47,_,ZcT,b47,⟨a47,i47,k47⟩,Zg⟩
 have Zg0:=My.Zqf (P:=l.prog) (w:=w) (base:=base) U48 ZC g_MOST_VILLAGES Zg Zw Zs Zbg Zac ZdP
 have ZmJ:Mth l.prog w K mg base Zx _ cShire "come" ["self","name","k"] _:=⟨f48,_,Zg0,b48,⟨a48,i48,k48⟩,Zg⟩
 have Zkw:=My.ZuB (P:=l.prog) (w:=w) (base:=base) U49 Zcv Zg Zw Zs ZaQ ZiX
 have Zua:Mth l.prog w K mg base Zx _ cShire "go" ["self","name"] _:=⟨f49,_,Zkw,b49,⟨a49,i49,k49⟩,Zg⟩
 have Zg5:=My.Zqz (P:=l.prog) (w:=w) (base:=base) U50 Zg Zw ZaQ Zac ZdP
 have Zlt:Mth l.prog w K mg base Zx _ cShire "move" ["self","name","k"] _:=⟨f50,_,Zg5,b50,⟨a50,i50,k50⟩,Zg⟩
 have ZeH:=My.Zkl (P:=l.prog) (w:=w) (base:=base) U51 Zg Zw Zs ZaJ ZbO Zav Zbh ZiX
 have Ze0:Mth l.prog w K mg base Zx _ cShire "reprice" ["self","k","price"] _:=⟨f51,_,ZeH,b51,⟨a51,i51,k51⟩,Zg⟩
 have ZfV:=My.ZnH (P:=l.prog) (w:=w) (base:=base) U52 Zg Zw Zs Zac Zcw Zav Zbq ZaE ZiX
 have Zh4:Mth l.prog w K mg base Zx _ cShire "build" ["self","to","price"] _:=⟨f52,_,ZfV,b52,⟨a52,i52,k52⟩,Zg⟩
 have Zio:=My.Zsq (P:=l.prog) (w:=w) (base:=base) U53 Zg Zw Zs ZhU ZbO Zcw Zav Zew Zbq ZaE Zbh ZeD ZiX
 have ZqV:Mth l.prog w K mg base Zx _ cShire "cut" ["self","k","price"] _:=⟨f53,_,Zio,b53,⟨a53,i53,k53⟩,Zg⟩
 have Zd3:=My.Znc (P:=l.prog) (w:=w) (base:=base) U54 (CT:=cTree) ZcM ec Zg Zw Zs Zbs
 have ZtZ:Mth l.prog w K mg base Zx _ cShire "back" ["self"] _:=⟨f54,_,Zqo Zd3,b54,⟨a54,i54,k54⟩,Zg⟩
 have Zlg:Mth l.prog w K mg base (CX1 l.prog w) _ cShire "back" ["self"] _:=⟨f54,_,Zd3,b54,⟨a54,i54,k54⟩,Zg⟩
 have Zg8:=My.Zn2 (P:=l.prog) (w:=w) (base:=base) U55 (mg:=mg) (CT:=cTree) Zg Zw
 have Zmo:Mth l.prog w K mg base Zx _ cShire "tree" ["self"] _:=⟨f55,_,Zg8,b55,⟨a55,i55,k55⟩,Zg⟩
 have Zgu:=My.ZlP (P:=l.prog) (w:=w) (base:=base) U56 (CT:=cTree) Zcv Zg Zs
 have ZiR:Mth l.prog w K mg base Zx _ cShire "homes" ["self"] _:=⟨f56,_,Zgu,b56,⟨a56,i56,k56⟩,Zg⟩
 have Zba:=ZQ X G a59 k59 b59 (My.Zne (P:=l.prog) (w:=w) (base:=base) U59 )
 have Zdd:=ZQ X G a60 k60 b60 (My.ZiJ (P:=l.prog) (w:=w) (base:=base) U60 Zba)
 have Zc0:=ZQ X G a61 k61 b61 (My.Zit (P:=l.prog) (w:=w) (base:=base) U61 Zdd Zck)
 have ZaI:=ZQ X G a62 k62 b62 (My.ZiU (P:=l.prog) (w:=w) (base:=base) U62 Zp Jl)
 have ZaB:=ZQ X G a63 k63 b63 (My.Znb (P:=l.prog) (w:=w) (base:=base) U63 ZC Zkj Zke g_MOST_FIGURES g_FIGURES)
 have Za8:=ZQ X G a64 k64 b64 (My.ZnE (P:=l.prog) (w:=w) (base:=base) U64 ZC ZaI ZaB ZbM Zba)
 have Zdc:=ZQ X G a65 k65 b65 (My.Zig (P:=l.prog) (w:=w) (base:=base) U65 ZC ZaB Za8)
 have Zc4:=ZQ X G a66 k66 b66 (My.ZhW (P:=l.prog) (w:=w) (base:=base) U66 ZaI Zdc Zdu)
 have Zez:=ZQ X G a67 k67 b67 (My.ZlF (P:=l.prog) (w:=w) (base:=base) U67 )
 have ZcC:=ZQ X G a68 k68 b68 (My.Zhv (P:=l.prog) (w:=w) (base:=base) U68 ZbC Zez)
 have Zb7:=ZQ X G a121 k121 b121 (My.ZoA (P:=l.prog) (w:=w) (base:=base) U121 ZC JJ ZdT Zia ZcK dt)
 have Zc5:=ZQ X G a122 k122 b122 (My.ZiC (P:=l.prog) (w:=w) (base:=base) U122 Zbg)
 have Zc9:=ZQ X G a123 k123 b123 (My.ZiV (P:=l.prog) (w:=w) (base:=base) U123 Zc5 ZaB Za8)
 have ZdV:=ZQ X G a124 k124 b124 (My.Zj5 (P:=l.prog) (w:=w) (base:=base) U124 ZC ZpF ZaI Zb7 Zc9)
 have Zpu:=My.Zna (P:=l.prog) (w:=w) (base:=base) U125 ZmJ Zua Zlt Ze0 Zh4 ZqV Zlg
 have ZlE:Fn l.prog w K mg base (CX1 l.prog w) _ "done" ["shire","first","words"] _:=⟨f125,_,Zpu,b125,k125,mg_of X G a125⟩
 have Zub:Fn l.prog w K mg base Zx _ "done" ["shire","first","words"] _:=⟨f125,_,Zqo Zpu,b125,k125,mg_of X G a125⟩
 have ZmK:=ZQ X G a126 k126 b126 (My.Znf (P:=l.prog) (w:=w) (base:=base) U126 Zc0 ZcC Zmo ZiR)
 have ZeB:=My.ZmX (P:=l.prog) (w:=w) (base:=base) U128 ZbD Zbz Zc4 ZiN
 have ZjC:Mkr l.prog w K mg base Zx _ cDesk "Desk" ["self","text"] _:=⟨f128,_,ZeB,b128,⟨mk128,a128,i128,kc128⟩,Zsb⟩
 have ZfC:=My.ZrC (P:=l.prog) (w:=w) (base:=base) U129 ZdT dt ZbD Zbz ZdV ZmK ZlE
 have Zpl:Mth l.prog w K mg base Zx _ cDesk "say" ["self","row"] _:=⟨f129,_,Zqo ZfC,b129,⟨a129,i129,k129⟩,ZbD⟩
 have ZhC:Mth l.prog w K mg base (CX1 l.prog w) _ cDesk "say" ["self","row"] _:=⟨f129,_,ZfC,b129,⟨a129,i129,k129⟩,ZbD⟩
 have ZbB:=ZQ X G a130 k130 b130 (My.Zq0 (P:=l.prog) (w:=w) (base:=base) U130 ZC)
 have Zci:=ZQ X G a131 k131 b131 (My.ZkC (P:=l.prog) (w:=w) (base:=base) U131 Zh3)
 have ZaU:=ZQ X G a132 k132 b132 (My.Zrd (P:=l.prog) (w:=w) (base:=base) U132 Zci)
 have ZaY:=ZQ X G a133 k133 b133 (My.Ziw (P:=l.prog) (w:=w) (base:=base) U133 Jh)
 have ZdK:=ZQ X G a134 k134 b134 (My.ZoK (P:=l.prog) (w:=w) (base:=base) U134 Jh)
 have Zb6:=ZQ X G a135 k135 b135 (My.ZkG (P:=l.prog) (w:=w) (base:=base) U135 ZaU)
 have Zb4:=ZQ X G a136 k136 b136 (My.Zmx (P:=l.prog) (w:=w) (base:=base) U136 Jh Zkx ZgK ZaY Zb6)
 have ZbQ:=ZQ X G a137 k137 b137 (My.ZpO (P:=l.prog) (w:=w) (base:=base) U137 Jl)
 have Zas:=ZQ X G a138 k138 b138 (My.ZiE (P:=l.prog) (w:=w) (base:=base) U138 Jl ZbQ)
 have Zb3:=ZQ X G a139 k139 b139 (My.ZsG (P:=l.prog) (w:=w) (base:=base) U139 )
 have ZcF:=ZQ X G a140 k140 b140 (My.ZnS (P:=l.prog) (w:=w) (base:=base) U140 ZbC ZC ZgK ZaU ZdK Zb3)
 have ZdO:=ZQ X G a141 k141 b141 (My.Zqe (P:=l.prog) (w:=w) (base:=base) U141 JJ Zcv ZC ZaU)
 have Zb2:=ZQ X G a142 k142 b142 (My.Zkb (P:=l.prog) (w:=w) (base:=base) U142 Zp Zcs Jl ZbQ)
 have Zbu:=ZQ X G a143 k143 b143 (My.Zhx (P:=l.prog) (w:=w) (base:=base) U143 ZbC Jl)
 have Zc6:=ZQ X G a144 k144 b144 (My.Zn4 (P:=l.prog) (w:=w) (base:=base) U144 Zp Jl Zpl Zas Zbu)
 have ZdW:=ZQ X G a145 k145 b145 (My.Znq (P:=l.prog) (w:=w) (base:=base) U145 Zp ZcH ZcM xk e1 e3 ZhC)
 exact My.ZrS (P:=l.prog) (w:=w) (base:=base) U146 ZC Jh ZgK Zkx Jl ZbB Zb4 ZaY ZcF ZdO Zb2 Zas Zc6 ZdW ZjC Zpl
end My
open PySem PySem.W PyProof.Rows
set_option maxRecDepth 100000 in
set_option maxHeartbeats 0 in
theorem PySem.Challenge.cw_roadshare_k84_a_desk_told_holds : PySem.Challenge.rw_roadshare_k84_a_desk_told.Holds := by
 w_on; refine My.hd ?_
 k_fill
 refine My.Zl1 (l:=PySem.Challenge.rw_roadshare_k84_a_desk_told) (n:=63) (k:=13) (x:="_law_script") (CX:=L2.Zx) (sp:=My.Zk6) rfl (by decide) rfl ⟨rfl,by decide,by decide⟩ (λw h Y=>km_in_of Y) ?F ?S ?C
 case S=>exact λK H a ns hl hfit hO hS=>⟨a,ns,rfl,hS,hfit,λ_=>rfl⟩
 case C=>exact λ_ _ _ _ z=>z
 case F =>
  intro w mg fa h KX G hmg
  refine' My.Zso KX G hmg ?a_ShareError ?a_NoDeed ?ec0 ?x0 ?x1 ?x2 ?x3 ?x4 ?x5 ?x6 ?x7 ?e1 ?e3 ?a16 ?l16 ?c16 ?k16 ?a17 ?l17 ?c17 ?k17 ?a18 ?l18 ?c18 ?k18 ?a19 ?l19 ?c19 ?k19 ?t19 ?a20 ?l20 ?c20 ?k20 ?a21 ?l21 ?c21 ?k21 ?a_MOST_LETTERS ?a_LETTERS ?a24 ?l24 ?c24 ?k24 ?a25 ?l25 ?c25 ?k25 ?a26 ?l26 ?c26 ?k26 ?a_MOST_ROADS ?a28 ?l28 ?c28 ?k28 ?a29 ?l29 ?c29 ?k29 ?a_Tree ?pg_Tree ?hd_Tree ?po_Tree ?sa_Tree ?ZaT ?ZcJ ?a31 ?l31 ?c31 ?k31 ?i31 ?mk31 ?kc31 ?a32 ?l32 ?c32 ?k32 ?i32 ?a33 ?l33 ?c33 ?k33 ?i33 ?a34 ?l34 ?c34 ?k34 ?i34 ?a35 ?l35 ?c35 ?k35 ?i35 ?a36 ?l36 ?c36 ?k36 ?i36 ?a37 ?l37 ?c37 ?k37 ?i37 ?a_MOST_VILLAGES ?a39 ?l39 ?c39 ?k39 ?a40 ?l40 ?c40 ?k40 ?a41 ?l41 ?c41 ?k41 ?a42 ?l42 ?c42 ?k42 ?a_Shire ?pg_Shire ?hd_Shire ?po_Shire ?sa_Shire ?Zw ?Zs ?Zbs ?a44 ?l44 ?c44 ?k44 ?i44 ?mk44 ?kc44 ?a45 ?l45 ?c45 ?k45 ?i45 ?a46 ?l46 ?c46 ?k46 ?i46 ?a47 ?l47 ?c47 ?k47 ?i47 ?a48 ?l48 ?c48 ?k48 ?i48 ?a49 ?l49 ?c49 ?k49 ?i49 ?a50 ?l50 ?c50 ?k50 ?i50 ?a51 ?l51 ?c51 ?k51 ?i51 ?a52 ?l52 ?c52 ?k52 ?i52 ?a53 ?l53 ?c53 ?k53 ?i53 ?a54 ?l54 ?c54 ?k54 ?i54 ?a55 ?l55 ?c55 ?k55 ?i55 ?a56 ?l56 ?c56 ?k56 ?i56 ?a_MOST_FIGURES ?a_FIGURES ?a59 ?l59 ?c59 ?k59 ?a60 ?l60 ?c60 ?k60 ?a61 ?l61 ?c61 ?k61 ?a62 ?l62 ?c62 ?k62 ?a63 ?l63 ?c63 ?k63 ?a64 ?l64 ?c64 ?k64 ?a65 ?l65 ?c65 ?k65 ?a66 ?l66 ?c66 ?k66 ?a67 ?l67 ?c67 ?k67 ?a68 ?l68 ?c68 ?k68 ?a_DEEDS ?a_ASKED ?a_LONG_ASKED ?gd ?sd ?ga ?sa ?gl ?sl ?hh_dh0 ?hh_dh1 ?hh_dh2 ?hh_dh3 ?hh_dh4 ?hh_dh5 ?hh_dh6 ?hh_ah0 ?hh_ah1 ?hh_ah2 ?hh_ah3 ?hh_ah4 ?hh_ah5 ?hh_lh0 ?hh_lh1 ?tlD0 ?tlD1 ?tlD2 ?tlD3 ?tlD4 ?tlD5 ?tlD6 ?tlA0 ?tlA1 ?tlA2 ?tlA3 ?tlA4 ?tlA5 ?a121 ?l121 ?c121 ?k121 ?a122 ?l122 ?c122 ?k122 ?a123 ?l123 ?c123 ?k123 ?a124 ?l124 ?c124 ?k124 ?a125 ?l125 ?c125 ?k125 ?a126 ?l126 ?c126 ?k126 ?a_Desk ?pg_Desk ?hd_Desk ?po_Desk ?sa_Desk ?Zbz ?a128 ?l128 ?c128 ?k128 ?i128 ?mk128 ?kc128 ?a129 ?l129 ?c129 ?k129 ?i129 ?a130 ?l130 ?c130 ?k130 ?a131 ?l131 ?c131 ?k131 ?a132 ?l132 ?c132 ?k132 ?a133 ?l133 ?c133 ?k133 ?a134 ?l134 ?c134 ?k134 ?a135 ?l135 ?c135 ?k135 ?a136 ?l136 ?c136 ?k136 ?a137 ?l137 ?c137 ?k137 ?a138 ?l138 ?c138 ?k138 ?a139 ?l139 ?c139 ?k139 ?a140 ?l140 ?c140 ?k140 ?a141 ?l141 ?c141 ?k141 ?a142 ?l142 ?c142 ?k142 ?a143 ?l143 ?c143 ?k143 ?a144 ?l144 ?c144 ?k144 ?a145 ?l145 ?c145 ?k145 ?a146 ?l146 ?c146 ?k146 ?Zcx ?Zp0 ?ZkN ?ZpG ?Zin ?ZqX ?Zqb ?ZqJ ?ZkR ?Zi4 ?Zlj ?Zga ?ZqZ ?ZpT ?ZpK
  (case a_ShareError=>k_is)
  (case a_NoDeed=>k_is)
  (case ec0=>k_exc)
  (case x0=>k_is)
  (case x1=>k_is)
  (case x2=>k_is)
  (case x3=>k_is)
  (case x4=>k_is)
  (case x5=>k_is)
  (case x6=>k_is)
  (case x7=>k_is)
  (case e1=>kts_exm)
  (case e3=>kit_is)
  (case a16=>k_is)
  (case l16=>k_is)
  (case c16=>k_is)
  (case k16=>k_is)
  (case a17=>k_is)
  (case l17=>k_is)
  (case c17=>k_is)
  (case k17=>k_is)
  (case a18=>k_is)
  (case l18=>k_is)
  (case c18=>k_is)
  (case k18=>k_is)
  (case a19=>k_is)
  (case l19=>k_is)
  (case c19=>k_is)
  (case k19=>k_is)
  (case t19=>k_is)
  (case a20=>k_is)
  (case l20=>k_is)
  (case c20=>k_is)
  (case k20=>k_is)
  (case a21=>k_is)
  (case l21=>k_is)
  (case c21=>k_is)
  (case k21=>k_is)
  (case a_MOST_LETTERS=>k_is)
  (case a_LETTERS=>k_is)
  (case a24=>k_is)
  (case l24=>k_is)
  (case c24=>k_is)
  (case k24=>k_is)
  (case a25=>k_is)
  (case l25=>k_is)
  (case c25=>k_is)
  (case k25=>k_is)
  (case a26=>k_is)
  (case l26=>k_is)
  (case c26=>k_is)
  (case k26=>k_is)
  (case a_MOST_ROADS=>k_is)
  (case a28=>k_is)
  (case l28=>k_is)
  (case c28=>k_is)
  (case k28=>k_is)
  (case a29=>k_is)
  (case l29=>k_is)
  (case c29=>k_is)
  (case k29=>k_is)
  (case a_Tree=>k_is)
  (case pg_Tree=>k_is)
  (case hd_Tree=>k_is)
  (case po_Tree=>k_is)
  (case sa_Tree=>k_is)
  (case ZaT=>k_is)
  (case ZcJ=>k_is)
  (case a31=>k_is)
  (case l31=>k_is)
  (case c31=>k_is)
  (case k31=>k_is)
  (case i31=>k_is)
  (case mk31=>k_is)
  (case kc31=>k_is)
  (case a32=>k_is)
  (case l32=>k_is)
  (case c32=>k_is)
  (case k32=>k_is)
  (case i32=>k_is)
  (case a33=>k_is)
  (case l33=>k_is)
  (case c33=>k_is)
  (case k33=>k_is)
  (case i33=>k_is)
  (case a34=>k_is)
  (case l34=>k_is)
  (case c34=>k_is)
  (case k34=>k_is)
  (case i34=>k_is)
  (case a35=>k_is)
  (case l35=>k_is)
  (case c35=>k_is)
  (case k35=>k_is)
  (case i35=>k_is)
  (case a36=>k_is)
  (case l36=>k_is)
  (case c36=>k_is)
  (case k36=>k_is)
  (case i36=>k_is)
  (case a37=>k_is)
  (case l37=>k_is)
  (case c37=>k_is)
  (case k37=>k_is)
  (case i37=>k_is)
  (case a_MOST_VILLAGES=>k_is)
  (case a39=>k_is)
  (case l39=>k_is)
  (case c39=>k_is)
  (case k39=>k_is)
  (case a40=>k_is)
  (case l40=>k_is)
  (case c40=>k_is)
  (case k40=>k_is)
  (case a41=>k_is)
  (case l41=>k_is)
  (case c41=>k_is)
  (case k41=>k_is)
  (case a42=>k_is)
  (case l42=>k_is)
  (case c42=>k_is)
  (case k42=>k_is)
  (case a_Shire=>k_is)
  (case pg_Shire=>k_is)
  (case hd_Shire=>k_is)
  (case po_Shire=>k_is)
  (case sa_Shire=>k_is)
  (case Zw=>k_is)
  (case Zs=>k_is)
  (case Zbs=>k_is)
  (case a44=>k_is)
  (case l44=>k_is)
  (case c44=>k_is)
  (case k44=>k_is)
  (case i44=>k_is)
  (case mk44=>k_is)
  (case kc44=>k_is)
  (case a45=>k_is)
  (case l45=>k_is)
  (case c45=>k_is)
  (case k45=>k_is)
  (case i45=>k_is)
  (case a46=>k_is)
  (case l46=>k_is)
  (case c46=>k_is)
  (case k46=>k_is)
  (case i46=>k_is)
  (case a47=>k_is)
  (case l47=>k_is)
  (case c47=>k_is)
  (case k47=>k_is)
  (case i47=>k_is)
  (case a48=>k_is)
  (case l48=>k_is)
  (case c48=>k_is)
  (case k48=>k_is)
  (case i48=>k_is)
  (case a49=>k_is)
  (case l49=>k_is)
  (case c49=>k_is)
  (case k49=>k_is)
  (case i49=>k_is)
  (case a50=>k_is)
  (case l50=>k_is)
  (case c50=>k_is)
  (case k50=>k_is)
  (case i50=>k_is)
  (case a51=>k_is)
  (case l51=>k_is)
  (case c51=>k_is)
  (case k51=>k_is)
  (case i51=>k_is)
  (case a52=>k_is)
  (case l52=>k_is)
  (case c52=>k_is)
  (case k52=>k_is)
  (case i52=>k_is)
  (case a53=>k_is)
  (case l53=>k_is)
  (case c53=>k_is)
  (case k53=>k_is)
  (case i53=>k_is)
  (case a54=>k_is)
  (case l54=>k_is)
  (case c54=>k_is)
  (case k54=>k_is)
  (case i54=>k_is)
  (case a55=>k_is)
  (case l55=>k_is)
  (case c55=>k_is)
  (case k55=>k_is)
  (case i55=>k_is)
  (case a56=>k_is)
  (case l56=>k_is)
  (case c56=>k_is)
  (case k56=>k_is)
  (case i56=>k_is)
  (case a_MOST_FIGURES=>k_is)
  (case a_FIGURES=>k_is)
  (case a59=>k_is)
  (case l59=>k_is)
  (case c59=>k_is)
  (case k59=>k_is)
  (case a60=>k_is)
  (case l60=>k_is)
  (case c60=>k_is)
  (case k60=>k_is)
  (case a61=>k_is)
  (case l61=>k_is)
  (case c61=>k_is)
  (case k61=>k_is)
  (case a62=>k_is)
  (case l62=>k_is)
  (case c62=>k_is)
  (case k62=>k_is)
  (case a63=>k_is)
  (case l63=>k_is)
  (case c63=>k_is)
  (case k63=>k_is)
  (case a64=>k_is)
  (case l64=>k_is)
  (case c64=>k_is)
  (case k64=>k_is)
  (case a65=>k_is)
  (case l65=>k_is)
  (case c65=>k_is)
  (case k65=>k_is)
  (case a66=>k_is)
  (case l66=>k_is)
  (case c66=>k_is)
  (case k66=>k_is)
  (case a67=>k_is)
  (case l67=>k_is)
  (case c67=>k_is)
  (case k67=>k_is)
  (case a68=>k_is)
  (case l68=>k_is)
  (case c68=>k_is)
  (case k68=>k_is)
  (case a_DEEDS=>k_is)
  (case a_ASKED=>k_is)
  (case a_LONG_ASKED=>k_is)
  (case gd=>k_is)
  (case sd=>rfl)
  (case ga=>k_is)
  (case sa=>rfl)
  (case gl=>k_is)
  (case sl=>rfl)
  (case hh_dh0=>rfl)
  (case hh_dh1=>rfl)
  (case hh_dh2=>rfl)
  (case hh_dh3=>rfl)
  (case hh_dh4=>rfl)
  (case hh_dh5=>rfl)
  (case hh_dh6=>rfl)
  (case hh_ah0=>rfl)
  (case hh_ah1=>rfl)
  (case hh_ah2=>rfl)
  (case hh_ah3=>rfl)
  (case hh_ah4=>rfl)
  (case hh_ah5=>rfl)
  (case hh_lh0=>rfl)
  (case hh_lh1=>rfl)
  (case tlD0=>k_is)
  (case tlD1=>k_is)
  (case tlD2=>k_is)
  (case tlD3=>k_is)
  (case tlD4=>k_is)
  (case tlD5=>k_is)
  (case tlD6=>k_is)
  (case tlA0=>k_is)
  (case tlA1=>k_is)
  (case tlA2=>k_is)
  (case tlA3=>k_is)
  (case tlA4=>k_is)
  (case tlA5=>k_is)
  (case a121=>k_is)
  (case l121=>k_is)
  (case c121=>k_is)
  (case k121=>k_is)
  (case a122=>k_is)
  (case l122=>k_is)
  (case c122=>k_is)
  (case k122=>k_is)
  (case a123=>k_is)
  (case l123=>k_is)
  (case c123=>k_is)
  (case k123=>k_is)
  (case a124=>k_is)
  (case l124=>k_is)
  (case c124=>k_is)
  (case k124=>k_is)
  (case a125=>k_is)
  (case l125=>k_is)
  (case c125=>k_is)
  (case k125=>k_is)
  (case a126=>k_is)
  (case l126=>k_is)
  (case c126=>k_is)
  (case k126=>k_is)
  (case a_Desk=>k_is)
  (case pg_Desk=>k_is)
  (case hd_Desk=>k_is)
  (case po_Desk=>k_is)
  (case sa_Desk=>k_is)
  (case Zbz=>k_is)
  (case a128=>k_is)
  (case l128=>k_is)
  (case c128=>k_is)
  (case k128=>k_is)
  (case i128=>k_is)
  (case mk128=>k_is)
  (case kc128=>k_is)
  (case a129=>k_is)
  (case l129=>k_is)
  (case c129=>k_is)
  (case k129=>k_is)
  (case i129=>k_is)
  (case a130=>k_is)
  (case l130=>k_is)
  (case c130=>k_is)
  (case k130=>k_is)
  (case a131=>k_is)
  (case l131=>k_is)
  (case c131=>k_is)
  (case k131=>k_is)
  (case a132=>k_is)
  (case l132=>k_is)
  (case c132=>k_is)
  (case k132=>k_is)
  (case a133=>k_is)
  (case l133=>k_is)
  (case c133=>k_is)
  (case k133=>k_is)
  (case a134=>k_is)
  (case l134=>k_is)
  (case c134=>k_is)
  (case k134=>k_is)
  (case a135=>k_is)
  (case l135=>k_is)
  (case c135=>k_is)
  (case k135=>k_is)
  (case a136=>k_is)
  (case l136=>k_is)
  (case c136=>k_is)
  (case k136=>k_is)
  (case a137=>k_is)
  (case l137=>k_is)
  (case c137=>k_is)
  (case k137=>k_is)
  (case a138=>k_is)
  (case l138=>k_is)
  (case c138=>k_is)
  (case k138=>k_is)
  (case a139=>k_is)
  (case l139=>k_is)
  (case c139=>k_is)
  (case k139=>k_is)
  (case a140=>k_is)
  (case l140=>k_is)
  (case c140=>k_is)
  (case k140=>k_is)
  (case a141=>k_is)
  (case l141=>k_is)
  (case c141=>k_is)
  (case k141=>k_is)
  (case a142=>k_is)
  (case l142=>k_is)
  (case c142=>k_is)
  (case k142=>k_is)
  (case a143=>k_is)
  (case l143=>k_is)
  (case c143=>k_is)
  (case k143=>k_is)
  (case a144=>k_is)
  (case l144=>k_is)
  (case c144=>k_is)
  (case k144=>k_is)
  (case a145=>k_is)
  (case l145=>k_is)
  (case c145=>k_is)
  (case k145=>k_is)
  (case a146=>k_is)
  (case l146=>k_is)
  (case c146=>k_is)
  (case k146=>k_is)
  (case Zcx=>k_is)
  (case Zp0=>k_is)
  (case ZkN=>k_is)
  (case ZpG=>k_is)
  (case Zin=>k_is)
  (case ZqX=>k_is)
  (case Zqb=>k_is)
  (case ZqJ=>k_is)
  (case ZkR=>k_is)
  (case Zi4=>k_is)
  (case Zlj=>k_is)
  (case Zga=>k_is)
  (case ZqZ=>k_is)
  (case ZpT=>k_is)
  (case ZpK=>k_is)
#print axioms PySem.Challenge.cw_roadshare_k84_a_desk_told_holds
