import PyProof.Rows.All
import Wide.All
import OpenK.AllK
import Wide.FinOn
import PySem.Challenge.RW_everydraw_k82_sayings_written_down
set_option compiler.extract_closed false
set_option genSizeOf false
namespace PySem.W.Fast
def tw10035604120595624793:=0
def tw10047929136279688088:=0
def tw10125845134476712783:=0
def tw10188785042662440174:=0
def tw10216559193593462337:=0
def tw10227841186503354197:=0
def tw102711039856079573:=0
def tw10299171533378497955:=0
def tw10312591777790456491:=0
def tw10500818182389357627:=0
def tw10543779050766956095:=0
def tw10736068829991623558:=0
def tw10743467361517302373:=0
def tw10758760588984135386:=0
def tw10810212911721620249:=0
def tw10898749984785221722:=0
def tw10929383090274182230:=0
def tw11077588564849007235:=0
def tw1108921935765085374:=0
def tw1110447824236340036:=0
def tw11160460084464771670:=0
def tw11237689949138205778:=0
def tw11299461227359899337:=0
def tw11386357295060621242:=0
def tw11446862672353393257:=0
def tw11464678193395941966:=0
def tw11479402651138851625:=0
def tw11584438138686283554:=0
def tw11670262678587724129:=0
def tw1168061367165612405:=0
def tw11692179565536802796:=0
def tw11703544561026634635:=0
def tw1170984838840758864:=0
def tw11718675637075595361:=0
def tw11730552741247189333:=0
def tw11761773387057778954:=0
def tw11784447679926456948:=0
def tw11793206841533307148:=0
def tw11868032620862680494:=0
def tw11909263394434037257:=0
def tw11925996069558610581:=0
def tw11956264765512949067:=0
def tw12009113982923617335:=0
def tw12088097715991094991:=0
def tw12124637094852325196:=0
def tw12127968679963282695:=0
def tw1219776613681762055:=0
def tw12243331054272866822:=0
def tw12249446781545232099:=0
def tw12266015636203311968:=0
def tw12313985250150845530:=0
def tw12323987671816669883:=0
def tw12327406203970847160:=0
def tw12334906595953462249:=0
def tw123703476844084900:=0
def tw12372976513061204292:=0
def tw12467553070257326737:=0
def tw12510958749219560794:=0
def tw12537684146507885384:=0
def tw12546309628361899479:=0
def tw12605099803893570296:=0
def tw12622737866697550729:=0
def tw12628915877858328892:=0
def tw12656715241316389719:=0
def tw12682789107128762882:=0
def tw12789655807699483510:=0
def tw1280461357889828388:=0
def tw12808404100040458834:=0
def tw12842337911658380266:=0
def tw12845605711961247823:=0
def tw12895733300769854830:=0
def tw12898780663549748255:=0
def tw12900248356091779632:=0
def tw12905528748458717768:=0
def tw12996326729853167193:=0
def tw13033458613029157055:=0
def tw13097684149962850866:=0
def tw13123497799067527781:=0
def tw13136891483846181656:=0
def tw1318669442204790548:=0
def tw13378657651544069325:=0
def tw13436753979753169942:=0
def tw13462563540097358289:=0
def tw13577670841441232459:=0
def tw13599145546514094364:=0
def tw13722455405924133176:=0
def tw13727298527275405452:=0
def tw13739771188905043306:=0
def tw13769712487507269309:=0
def tw13847096194008460514:=0
def tw1386425536643561473:=0
def tw13865083173651903719:=0
def tw13875344667405903961:=0
def tw13879176931269392754:=0
def tw13880319117196835774:=0
def tw13888870128638287381:=0
def tw13925597507140196477:=0
def tw13936656511662416746:=0
def tw13943567541347188060:=0
def tw13974097598172798486:=0
def tw13983797657420185473:=0
def tw13993796996422559855:=0
def tw14028057956625803136:=0
def tw14088078727596805430:=0
def tw14099862602950277088:=0
def tw14137260355071263798:=0
def tw14162136464080760067:=0
def tw14338900602957177576:=0
def tw14423026171382544874:=0
def tw14463100736013257734:=0
def tw14495184846465044113:=0
def tw14497911384165000594:=0
def tw14544669775338919924:=0
def tw14545421228884304455:=0
def tw14560845086057273626:=0
def tw14626816052726931880:=0
def tw14641390140656716989:=0
def tw14899594076824116912:=0
def tw14905404066185338831:=0
def tw15014376429685292331:=0
def tw15065316209868026690:=0
def tw15068782061965416673:=0
def tw15077994879379139075:=0
def tw15144444480402290568:=0
def tw15152632121236952717:=0
def tw15197419453026333578:=0
def tw15255021719867583956:=0
def tw15258325669917503611:=0
def tw15277943395415030314:=0
def tw15281578966905932295:=0
def tw1531384762209321817:=0
def tw15390567520757361408:=0
def tw15436575939474009256:=0
def tw1551827313538864455:=0
def tw15526662685633449511:=0
def tw1562768183406036851:=0
def tw15679529054055696072:=0
def tw15720455979577422486:=0
def tw15725001475992716323:=0
def tw15791118151028328848:=0
def tw15819850106182145538:=0
def tw15823370501453773391:=0
def tw15847407953486139612:=0
def tw15864679567759255891:=0
def tw15897578227002214486:=0
def tw15917674848552432880:=0
def tw15922343171006956859:=0
def tw1595668365282276468:=0
def tw15970027364889571265:=0
def tw16014450929238939349:=0
def tw16179045579277512623:=0
def tw16188162226019734435:=0
def tw16188733582494263074:=0
def tw16214722916954932769:=0
def tw16279969136611139613:=0
def tw16316534483437396449:=0
def tw16341452787189125642:=0
def tw16348494441404433099:=0
def tw1635857749326166163:=0
def tw16363111839177614965:=0
def tw16410711763466865371:=0
def tw16470611507473995844:=0
def tw16486910093315541451:=0
def tw16531401446675783241:=0
def tw16556523180371373865:=0
def tw16593654689834430706:=0
def tw16597318215727499783:=0
def tw16668225440074572078:=0
def tw16748823856585762174:=0
def tw16750593950942297481:=0
def tw16773775787130896262:=0
def tw16818235791168366151:=0
def tw16899321022269041319:=0
def tw16912664776648309817:=0
def tw1698445876084505427:=0
def tw17004785892562889883:=0
def tw17051517302174973363:=0
def tw17074351310340029101:=0
def tw17088997108821381472:=0
def tw17090655614827348927:=0
def tw17121995136669513786:=0
def tw17164104132394472436:=0
def tw17164446024540172867:=0
def tw17181973286032968276:=0
def tw17242154155043574368:=0
def tw17258931660229795731:=0
def tw17263120480866858464:=0
def tw17266140380929244779:=0
def tw17270286119154691755:=0
def tw17343663520969648283:=0
def tw17382802870305162153:=0
def tw17423981953780841796:=0
def tw17438282903488245992:=0
def tw17452572572756182235:=0
def tw17505878615782809231:=0
def tw17554414532062870857:=0
def tw17623564124391253290:=0
def tw17654710138404973085:=0
def tw17731806730294834167:=0
def tw17736319093631456458:=0
def tw17752196208393072792:=0
def tw17770779191978625205:=0
def tw17831483856972972604:=0
def tw17888349637877281719:=0
def tw17921678844724669547:=0
def tw17981540806278532223:=0
def tw17983337411721029521:=0
def tw18055698584835748248:=0
def tw18077743505158182918:=0
def tw18400167316288778136:=0
def tw18413086898156464180:=0
def tw18413292910280922542:=0
def tw1843993720223757414:=0
def tw1938136010422002402:=0
def tw1950229841237025699:=0
def tw1987970082078976067:=0
def tw210030849068395383:=0
def tw2105674831579130013:=0
def tw2107092369231059846:=0
def tw2146394133836255501:=0
def tw2159236245324962168:=0
def tw2213066527866964421:=0
def tw222169589796194015:=0
def tw2245664236681311306:=0
def tw2341156212689519071:=0
def tw2427815795653091888:=0
def tw2475093948024347598:=0
def tw249775367212181013:=0
def tw2619394457584025761:=0
def tw2705146803863561823:=0
def tw2716772170922760659:=0
def tw2749930201314962076:=0
def tw2761350565430213893:=0
def tw2805733587695444271:=0
def tw2808846624034459263:=0
def tw2900654841022188393:=0
def tw2965514469647719786:=0
def tw2974064795505313219:=0
def tw3029201781443984718:=0
def tw3053495857914401135:=0
def tw3176116141904426062:=0
def tw3179940596495726484:=0
def tw3196961740959035018:=0
def tw3236201180350165250:=0
def tw326882450675446958:=0
def tw3279595054444873508:=0
def tw3301860448660178359:=0
def tw3306436302781942809:=0
def tw3312047311524260105:=0
def tw3313572404555228289:=0
def tw3515084139559054756:=0
def tw3524316029477167007:=0
def tw3529103501246152815:=0
def tw3578506099743127972:=0
def tw3612107398885891279:=0
def tw3677257202034875113:=0
def tw3715068188398085112:=0
def tw372136795964872201:=0
def tw3781881663000790502:=0
def tw3810752203758457808:=0
def tw384127089069956413:=0
def tw3853660604381032823:=0
def tw3859822730676294964:=0
def tw3862134156716558486:=0
def tw3986548881374506577:=0
def tw4034185117249232545:=0
def tw4060288072770111960:=0
def tw4078564078712019219:=0
def tw4120905998598557346:=0
def tw4128030624122357764:=0
def tw4134704459278892624:=0
def tw416460996283147630:=0
def tw419182024746198466:=0
def tw4207526270366877711:=0
def tw423203270371730361:=0
def tw4245487911355839309:=0
def tw4258723935860306252:=0
def tw4278350081882514487:=0
def tw4313551442695942942:=0
def tw4335006883010769431:=0
def tw4351416357920825228:=0
def tw43544974312453867:=0
def tw4358857996663868100:=0
def tw4380386310611718479:=0
def tw4387522688083563440:=0
def tw4422067299859267220:=0
def tw4461246131058904899:=0
def tw4471964781868772795:=0
def tw4705066018066057557:=0
def tw4717075662661608897:=0
def tw4718130099901390181:=0
def tw4731378318846555782:=0
def tw4793372093190881336:=0
def tw4803708062472291471:=0
def tw4856122556478640774:=0
def tw4868084712592402063:=0
def tw4913121798571105254:=0
def tw4947913953824358159:=0
def tw4995063382066617663:=0
def tw5003791858955530121:=0
def tw501387775003159637:=0
def tw5014632307265247989:=0
def tw5055251079567033966:=0
def tw5130910128089433567:=0
def tw5139522577583645645:=0
def tw5143376359391284497:=0
def tw5146628506968394012:=0
def tw5196332698233969228:=0
def tw5213991098913074618:=0
def tw5294628771918395800:=0
def tw5386400248659324944:=0
def tw5405741566000934570:=0
def tw5439585709428178492:=0
def tw5509511767543710624:=0
def tw5512024353657669175:=0
def tw554951941208318922:=0
def tw5564293093625972106:=0
def tw5564510017420346878:=0
def tw5567748324350213898:=0
def tw5606483217903647914:=0
def tw5772881852592540045:=0
def tw5806506141954073228:=0
def tw5833204268981648818:=0
def tw5877430729570134481:=0
def tw6068260279684635796:=0
def tw6070646816679114676:=0
def tw6142824293070607400:=0
def tw6150820845386360238:=0
def tw6240446173362496916:=0
def tw6277088311623559588:=0
def tw6291512127163608577:=0
def tw6350297013773338300:=0
def tw6366355185109172907:=0
def tw6371622338844935024:=0
def tw6381139392758361188:=0
def tw6391433010704507002:=0
def tw6517090894157829328:=0
def tw6582092615581855076:=0
def tw6587451156244950543:=0
def tw6619683596271975694:=0
def tw6627130555616399209:=0
def tw6645806051114033246:=0
def tw668056490719293863:=0
def tw6716873300464875218:=0
def tw6738697980494556125:=0
def tw6889376536326190799:=0
def tw6891401469366664144:=0
def tw6912485069696923423:=0
def tw6943359662213111526:=0
def tw6978966427368361958:=0
def tw6989179021794095952:=0
def tw702852763713163497:=0
def tw7029932226219763116:=0
def tw7082571885145605391:=0
def tw7123410481093865713:=0
def tw7152617176163650137:=0
def tw7173716769420345668:=0
def tw7224667948446911215:=0
def tw7245752336729632121:=0
def tw7284823706007922312:=0
def tw7301711057479240464:=0
def tw7325273705638298964:=0
def tw7333788331781605146:=0
def tw7345012619642418382:=0
def tw7350700154424897801:=0
def tw742853572666520663:=0
def tw7473306630792737156:=0
def tw7550206942830155857:=0
def tw7606329729873854133:=0
def tw7612511610251130197:=0
def tw771540811489907833:=0
def tw7718948324281393236:=0
def tw7723179590954788554:=0
def tw7730437612651224518:=0
def tw7753256601418221141:=0
def tw7771354345852397024:=0
def tw7825041280339679741:=0
def tw7882951714547177569:=0
def tw7931083297129834824:=0
def tw796861058305631060:=0
def tw798333608360575859:=0
def tw8010570950192301334:=0
def tw807229134922364601:=0
def tw8231434056770452630:=0
def tw823590295363562791:=0
def tw8245682009848104491:=0
def tw8273448207218225802:=0
def tw8275695150348365761:=0
def tw8290881701863611769:=0
def tw8318844538801746300:=0
def tw8365871157563040377:=0
def tw8384287825072658318:=0
def tw8402095781511823220:=0
def tw8453418796291408597:=0
def tw8517463791786921777:=0
def tw8536892521728223097:=0
def tw8559942831482404292:=0
def tw859511912640407940:=0
def tw8619326307328963215:=0
def tw8619949840574285545:=0
def tw8657752601174017877:=0
def tw8668321563159158135:=0
def tw8678937645465166804:=0
def tw8685041916900235105:=0
def tw8710496477560040232:=0
def tw8727854538088231454:=0
def tw8791517391732941609:=0
def tw8824555101761872663:=0
def tw8902464739501565260:=0
def tw891420903508328276:=0
def tw8931583837068235351:=0
def tw8935767737266912361:=0
def tw9029406157778358373:=0
def tw9044013348846604684:=0
def tw9060073248011643375:=0
def tw9077946444827600152:=0
def tw9092155317867667048:=0
def tw9216917171609427467:=0
def tw9267255147646103280:=0
def tw9325238389632767346:=0
def tw9335042456995174624:=0
def tw9339891221279820469:=0
def tw9388031062522689536:=0
def tw9475323349958033677:=0
def tw9478494746235462473:=0
def tw9546799448505679284:=0
def tw9565935278076703618:=0
def tw9714275009680774985:=0
def tw9829142236134742761:=0
def tw9874675197109866240:=0
def tw9909369238246876312:=0
def tw9971693809606126513:=0
end PySem.W.Fast
namespace EV
theorem z2 {α β} {P : α → β → Prop} {G : Prop} (h : ∃ a b, P a b) (k : ∀ a b, P a b → G) : G := h.elim fun a h => h.elim (k a)
theorem z3 {α β γ} {P : α → β → γ → Prop} {G : Prop} (h : ∃ a b c, P a b c) (k : ∀ a b c, P a b c → G) : G := h.elim fun a h => z2 h (k a)
theorem z4 {α β γ δ} {P : α → β → γ → δ → Prop} {G : Prop} (h : ∃ a b c d, P a b c d) (k : ∀ a b c d, P a b c d → G) : G := h.elim fun a h => z3 h (k a)
theorem z5 {α β γ δ ε} {P : α → β → γ → δ → ε → Prop} {G : Prop} (h : ∃ a b c d e, P a b c d e) (k : ∀ a b c d e, P a b c d e → G) : G := h.elim fun a h => z4 h (k a)
theorem w2 {a b G : Prop} (h : a ∧ b) (k : a → b → G) : G := k h.1 h.2
theorem w3 {a b c G : Prop} (h : a ∧ b ∧ c) (k : a → b → c → G) : G := w2 h.2 (k h.1)
theorem w4 {a b c d G : Prop} (h : a ∧ b ∧ c ∧ d) (k : a → b → c → d → G) : G := w3 h.2 (k h.1)
theorem w5 {a b c d e G : Prop} (h : a ∧ b ∧ c ∧ d ∧ e) (k : a → b → c → d → e → G) : G := w4 h.2 (k h.1)
theorem w6 {a b c d e f G : Prop} (h : a ∧ b ∧ c ∧ d ∧ e ∧ f) (k : a → b → c → d → e → f → G) : G := w5 h.2 (k h.1)
theorem w7 {a b c d e f g G : Prop} (h : a ∧ b ∧ c ∧ d ∧ e ∧ f ∧ g) (k : a → b → c → d → e → f → g → G) : G := w6 h.2 (k h.1)
theorem w8 {a b c d e f g i G : Prop} (h : a ∧ b ∧ c ∧ d ∧ e ∧ f ∧ g ∧ i) (k : a → b → c → d → e → f → g → i → G) : G := w7 h.2 (k h.1)
end EV

set_option Elab.async false
set_option linter.all false
set_option maxRecDepth 100000
/-! THE HAND LAYER, for ints, bools, texts, own classes, LISTS and tuples (index, slices, in, append, pop ..), calls, loops. Paste it whole ahead of your own text; what your proof does not reach may be deleted. -/
namespace L2
open PySem PySem.Spec PyProof.Rows

/-- a key: an int or a str -/
abbrev Key := Sum Int Str
def keyIs : Key → Value → Bool
  | .inl k, v => Value.isInt k v
  | .inr x, v => Value.isStrOf x v
def keyH (w : World) : Key → Int
  | .inl k => hashInt k
  | .inr x => hashStr w x
theorem keyIs_shape : ∀ {k : Key} {v : Value}, keyIs k v = true → (∃ i t, k = Sum.inl i ∧ v = Value.int i t) ∨ (∃ x t, k = Sum.inr x ∧ v = Value.str x t)
  | .inl i, v, h => by
    obtain ⟨t, e⟩ := Value.isInt_shape (k := i) (v := v) h
    exact .inl ⟨i, t, rfl, e⟩
  | .inr x, v, h => by
    obtain ⟨t, e⟩ := Value.isStrOf_shape (x := x) (v := v) h
    exact .inr ⟨x, t, rfl, e⟩
theorem keyIs_int (i : Int) (t : Tok) : keyIs (.inl i) (.int i t) = true := by simp [keyIs, Value.isInt]
theorem keyIs_str (x : Str) (t : Tok) : keyIs (.inr x) (.str x t) = true := by simp [keyIs, Value.isStrOf]
theorem key_ll (a b : Int) : decide ((Sum.inl a : Key) = Sum.inl b) = (a == b) := by
  by_cases e : a = b
  · subst e; simp
  · have h : ¬ (Sum.inl a : Key) = Sum.inl b := fun q => e (Sum.inl.inj q)
    rw [decide_eq_false h]
    exact (beq_eq_false_iff_ne.mpr e).symm
theorem key_rr (a b : Str) : decide ((Sum.inr a : Key) = Sum.inr b) = decide (a = b) := by
  by_cases e : a = b
  · subst e; simp
  · have h : ¬ (Sum.inr a : Key) = Sum.inr b := fun q => e (Sum.inr.inj q)
    rw [decide_eq_false h, decide_eq_false e]
theorem key_lr (a : Int) (b : Str) : decide ((Sum.inl a : Key) = Sum.inr b) = false := decide_eq_false (fun q => nomatch q)
theorem key_rl (a : Str) (b : Int) : decide ((Sum.inr a : Key) = Sum.inl b) = false := decide_eq_false (fun q => nomatch q)

def mixKind (prog : Program) (w : World) : PySem.KeyKind prog w Key where
  is := keyIs
  hash := keyH w
  inj := fun v a b ha hb => by
    rcases keyIs_shape ha with ⟨i, t, rfl, rfl⟩ | ⟨x, t, rfl, rfl⟩
    · rcases keyIs_shape hb with ⟨j, u, rfl, e⟩ | ⟨y, u, rfl, e⟩
      · injection e with e1 _; rw [e1]
      · exact nomatch e
    · rcases keyIs_shape hb with ⟨j, u, rfl, e⟩ | ⟨y, u, rfl, e⟩
      · exact nomatch e
      · injection e with e1 _; rw [e1]
  byValue := fun k v h => by
    rcases keyIs_shape h with ⟨i, t, rfl, rfl⟩ | ⟨x, t, rfl, rfl⟩ <;> rfl
  pyHash := fun hv h => by
    rcases keyIs_shape hv with ⟨i, t, rfl, rfl⟩ | ⟨x, t, rfl, rfl⟩
    · exact wpAny_pyHash_int h
    · exact wpAny_pyHash_str h
  eqBool := fun hu hv h => by
    rcases keyIs_shape hu with ⟨i, t, rfl, rfl⟩ | ⟨x, t, rfl, rfl⟩
    · rcases keyIs_shape hv with ⟨j, u, rfl, rfl⟩ | ⟨y, u, rfl, rfl⟩
      · rw [key_ll] at h; exact wpAny_eqBool_int h
      · rw [key_lr] at h; exact SeqAt.EqAt.int_str i t y u _ _ _ _ h
    · rcases keyIs_shape hv with ⟨j, u, rfl, rfl⟩ | ⟨y, u, rfl, rfl⟩
      · rw [key_rl] at h; exact SeqAt.EqAt.str_int x t j u _ _ _ _ h
      · rw [key_rr] at h; exact wpAny_eqBool_str h
  «strs» := fun k x t v h => by
    rcases keyIs_shape h with ⟨i, u, rfl, e⟩ | ⟨y, u, rfl, e⟩
    · exact nomatch e
    · injection e with e1 _
      subst e1
      cases v <;> rfl

theorem mixKind_int (prog : Program) (w : World) (i : Int) (t : Tok) : (mixKind prog w).is (.inl i) (.int i t) = true := keyIs_int i t
theorem mixKind_str (prog : Program) (w : World) (x : Str) (t : Tok) : (mixKind prog w).is (.inr x) (.str x t) = true := keyIs_str x t

/-- a value, without the heap -/
inductive V where
  | non | bl (b : Bool) | int (i : Int) | str (x : Str) | byt (b : Array UInt8) | flt (b : UInt64) | ref (a : Addr) | ty (n : String)
  deriving DecidableEq

def RelV : V → Value → Prop
  | .non, u => u = Value.none
  | .bl b, u => u = Value.bool b
  | .int i, u => ∃ t, u = Value.int i t
  | .str x, u => ∃ t, u = Value.str x t
  | .byt b, u => ∃ t, u = Value.bytes b t
  | .flt b, u => ∃ t, u = Value.float b t
  | .ref a, u => u = Value.ref a
  | .ty n, u => u = Value.type n

abbrev Vals : List V → List Value → Prop := Paired RelV
theorem Vals.length {xs : List V} {us : List Value} (r : Vals xs us) : xs.length = us.length := Paired.length r
theorem Vals.get : ∀ {xs : List V} {us : List Value} {i : Nat} {x : V}, Vals xs us → xs[i]? = some x → ∃ u, us[i]? = some u ∧ RelV x u
  | _, _, _, _, .nil, e => by simp at e
  | _, _, 0, _, .cons r _, e => by simp at e; subst e; exact ⟨_, rfl, r⟩
  | _, _, i + 1, x, .cons _ t, e => by
    obtain ⟨u, h1, h2⟩ := Vals.get (i := i) (x := x) t (by simpa using e)
    exact ⟨u, by simpa using h1, h2⟩
theorem Vals.set {x : V} {u : Value} (r : RelV x u) : ∀ {xs : List V} {us : List Value} (i : Nat), Vals xs us → Vals (xs.set i x) (us.set i u)
  | _, _, _, .nil => .nil
  | _, _, 0, .cons _ t => .cons r t
  | _, _, i + 1, .cons q t => .cons q (Vals.set r i t)
theorem Vals.append : ∀ {xs ys : List V} {us ws : List Value}, Vals xs us → Vals ys ws → Vals (xs ++ ys) (us ++ ws)
  | _, _, _, _, .nil, s => s
  | _, _, _, _, .cons r t, s => .cons r (Vals.append t s)
theorem Vals.take : ∀ {xs : List V} {us : List Value} (n : Nat), Vals xs us → Vals (xs.take n) (us.take n)
  | _, _, 0, _ => .nil
  | _, _, _ + 1, .nil => .nil
  | _, _, n + 1, .cons r t => .cons r (Vals.take n t)
theorem Vals.drop : ∀ {xs : List V} {us : List Value} (n : Nat), Vals xs us → Vals (xs.drop n) (us.drop n)
  | _, _, 0, r => r
  | _, _, _ + 1, .nil => .nil
  | _, _, n + 1, .cons _ t => Vals.drop n t

def RelO : Option V → Option Value → Prop
  | some v, some u => RelV v u
  | none, none => True
  | _, _ => False
def KV {κ : Type} : List (κ × V) → List (κ × Value) → Prop := Paired fun (p : κ × V) (q : κ × Value) => p.1 = q.1 ∧ RelV p.2 q.2

/-- a key of a dict (00_mix): an int or a text -/
def kV : Key → V
  | .inl i => .int i
  | .inr x => .str x

/-- what stands at a tracked address -/
inductive HO where
  /-- a list -/
  | lst (xs : List V)
  /-- a tuple (never changes) -/
  | tup (xs : List V)
  /-- a dict whose keys are ints and texts; one whose keys are tuples of ints and texts (the empty one is both) -/
  | dK (kvs : List (Key × V)) | dT (kvs : List (List Key × Addr × V))
  /-- a set of ints: its members, its size -/
  | set (S : Int → Bool) (n : Nat)
  /-- an instance of the class at C, its dict at dx, its attributes -/
  | ins (C dx : Addr) (fs : List (Str × V))
  /-- the dict of the instance at x -/
  | own (x : Addr)
  /-- the dict of an exception -/
  | xd (fs : List (Str × V))
  /-- a bound method, f of x -/
  | met (f x : Addr)
  /-- a range object lo, lo + 1, .. below hi -/
  | rng (lo hi : Int)
  /-- a thing that is known to the object (the script; a dict while a loop walks it): read, never written while it is so -/
  | frz (o : Obj) (u : HO)
  /-- a code object's table -/
  | tbl (ps : Array Value)
  /-- any other thing, by what is true of its one object (a def of one's own: SetO a S n := HO.ext fun h => ..) -/
  | ext (φ : Heap → Prop)

abbrev Hp := Addr → Option HO
def upd (H : Hp) (a : Addr) (o : HO) : Hp := fun b => if b = a then some o else H b
theorem upd_same {H : Hp} {a : Addr} {o : HO} : upd H a o a = some o := by unfold upd; rw [if_pos rfl]
theorem upd_ne {H : Hp} {a b : Addr} {o : HO} (h : b ≠ a) : upd H a o b = H b := by unfold upd; rw [if_neg h]
theorem upd_upd {H : Hp} {a : Addr} {o u : HO} : upd (upd H a o) a u = upd H a u := by
  funext b; unfold upd; split <;> rfl
theorem ne_of_none {H : Hp} {a b : Addr} {o : HO} (h : H a = some o) (h' : H b = none) : a ≠ b := by
  intro e; subst e; rw [h] at h'; cases h'

section
variable (P : Program) (w : World)
def ObjOk (H : Hp) (h : Heap) (a : Addr) : HO → Prop
  | .lst xs => xs.length ≤ sizeLine ∧ ∃ (its : List Value) (n : Nat), Vals xs its ∧ h.get? a = some { cls := .type "list", data := .seq its.toArray n }
  | .tup xs => xs.length ≤ sizeLine ∧ ∃ its : List Value, Vals xs its ∧ IsTup h a its.toArray
  | .dK kvs => kvs.length ≤ sizeLine ∧ (a == sysModules) = false ∧ ∃ vs, KV kvs vs ∧ h.DictOf (mixKind P w) a vs
  | .dT kvs => kvs.length ≤ sizeLine ∧ (a == sysModules) = false ∧ ∃ xs : List (List Key × Addr × Value),
      Paired (fun (p : List Key × Addr × V) (q : List Key × Addr × Value) => p.1 = q.1 ∧ p.2.1 = q.2.1 ∧ RelV p.2.2 q.2.2) kvs xs ∧
      ∃ o es ep, h.get? a = some o ∧ o.ExactDict ∧ o.data = .dict es ep ∧ es.toList = xs.map (entryOfKey (tupleKind (mixKind P w))) ∧ (xs.map (·.1)).Nodup
  | .set S n => h.SetOf (intKind P w) a S n
  | .ins C dx fs => H dx = some (.own a) ∧ fs.length ≤ 1000 ∧ dx ≠ a ∧ h.get? a = some (PySem.W.instObj C dx) ∧
      ∃ mA, h.Ns1 dx mA ∧ (∀ f, RelO (fs.lookup f) (mA f)) ∧ PySem.Within mA (fs.map (·.1))
  | .own _ => ∃ o, h.get? a = some o
  | .xd fs => ∃ mA, h.Ns1 a mA ∧ ∀ f, RelO (fs.lookup f) (mA f)
  | .rng lo hi => ∃ t u v, h.get? a = some { cls := .type "range", data := .fields #[.int lo t, .int hi u, .int 1 v] }
  | .frz o u => h.get? a = some o ∧ ObjOk H h a u
  | .tbl ps => h.get? a = some { cls := .none, data := .fields ps }
  | .met f x => h.get? a = some (PySem.W.methodObj (.ref f) (.ref x))
  | .ext φ => φ h ∧ (∃ o, h.get? a = some o) ∧ ∀ h1 h2 : Heap, φ h1 → (∀ o, h1.get? a = some o → h2.get? a = some o) → φ h2
/-- the abstract heap is held -/
def HOk (H : Hp) (h : Heap) : Prop := ∀ a o, H a = some o → ObjOk P w H h a o
end

section
variable {P : Program} {w : World} {H H' : Hp} {h h' : Heap} {a : Addr} {o : HO}
theorem ObjOk.lt (x : ObjOk P w H h a o) : a < h.objs.size := by
  cases o with
  | lst xs => obtain ⟨_, _, _, _, e⟩ := x; exact Heap.lt_size e
  | tup xs => obtain ⟨_, _, _, p⟩ := x; exact p.lt
  | dK kvs => obtain ⟨_, _, _, _, o, _, _, e, _⟩ := x; exact Heap.lt_size e
  | dT kvs => obtain ⟨_, _, _, _, o, _, _, e, _⟩ := x; exact Heap.lt_size e
  | set S n => obtain ⟨o, _, _, _, e, _⟩ := x; exact Heap.lt_size e
  | ins C dx fs => obtain ⟨_, _, _, e, _⟩ := x; exact Heap.lt_size e
  | own y => obtain ⟨_, e⟩ := x; exact Heap.lt_size e
  | xd fs => obtain ⟨_, ⟨_, _, _, e, _⟩, _⟩ := x; exact Heap.lt_size e
  | rng lo hi => obtain ⟨_, _, _, e⟩ := x; exact Heap.lt_size e
  | frz ob u => obtain ⟨e, _⟩ := x; exact Heap.lt_size e
  | tbl ps => exact Heap.lt_size (show h.get? a = some _ from x)
  | met f y => exact Heap.lt_size (show h.get? a = some _ from x)
  | ext φ => obtain ⟨_, ⟨_, e⟩, _⟩ := x; exact Heap.lt_size e
theorem Paired.mapP {α β : Type} {F G : α → β → Prop} : ∀ {l₁ : List α} {l₂ : List β}, Paired F l₁ l₂ → (∀ a b, F a b → G a b) → Paired G l₁ l₂
  | _, _, .nil, _ => .nil
  | _, _, .cons r t, f => .cons (f _ _ r) (Paired.mapP t f)
/-- what an object's description leans on: its own object, its own dict, the tuples -/
theorem ObjOk.stay (x : ObjOk P w H h a o) (k : ∀ b u, (b = a ∨ H b = some (.own a)) → h.get? b = some u → h'.get? b = some u)
    (ho : ∀ b, H b = some (.own a) → H' b = some (.own a)) (ht : ∀ b xs, H b = some (.tup xs) → H' b = some (.tup xs)) : ObjOk P w H' h' a o := by
  induction o with
  | lst xs => obtain ⟨z, its, n, r, e⟩ := x; exact ⟨z, its, n, r, k _ _ (.inl rfl) e⟩
  | tup xs => obtain ⟨z, its, r, ob, e, c⟩ := x; exact ⟨z, its, r, ob, k _ _ (.inl rfl) e, c⟩
  | dK kvs => obtain ⟨z, y, vs, r, ob, es, ep, e, c⟩ := x; exact ⟨z, y, vs, r, ob, es, ep, k _ _ (.inl rfl) e, c⟩
  | dT kvs =>
    obtain ⟨z, y, xs, r, ob, es, ep, e, c⟩ := x
    exact ⟨z, y, xs, r, ob, es, ep, k _ _ (.inl rfl) e, c⟩
  | set S n => obtain ⟨ob, es, ep, t, e, c⟩ := x; exact ⟨ob, es, ep, t, k _ _ (.inl rfl) e, c⟩
  | ins C dx fs =>
    obtain ⟨d, z, ne, e, mA, ⟨od, es, ep, e2, c⟩, r⟩ := x
    exact ⟨ho _ d, z, ne, k _ _ (.inl rfl) e, mA, ⟨od, es, ep, k _ _ (.inr d) e2, c⟩, r⟩
  | own y => obtain ⟨ob, e⟩ := x; exact ⟨ob, k _ _ (.inl rfl) e⟩
  | xd fs => obtain ⟨mA, ⟨od, es, ep, e, c⟩, r⟩ := x; exact ⟨mA, ⟨od, es, ep, k _ _ (.inl rfl) e, c⟩, r⟩
  | rng lo hi => obtain ⟨t, u, v, e⟩ := x; exact ⟨t, u, v, k _ _ (.inl rfl) e⟩
  | frz ob u ih => obtain ⟨e, q⟩ := x; exact ⟨k _ _ (.inl rfl) e, ih q⟩
  | tbl ps =>
    have e : h.get? a = some { cls := .none, data := .fields ps } := x
    show h'.get? a = some { cls := .none, data := .fields ps }
    exact k a _ (.inl rfl) e
  | met f y =>
    have e : h.get? a = some (PySem.W.methodObj (.ref f) (.ref y)) := x
    show h'.get? a = some (PySem.W.methodObj (.ref f) (.ref y))
    exact k a _ (.inl rfl) e
  | ext φ => obtain ⟨p, ⟨o, e⟩, st⟩ := x; exact ⟨st _ _ p fun o q => k _ _ (.inl rfl) q, ⟨o, k _ _ (.inl rfl) e⟩, st⟩
theorem HOk.lt (x : HOk P w H h) (e : H a = some o) : a < h.objs.size := (x a o e).lt
theorem HOk.fresh (x : HOk P w H h) (e : h.objs.size ≤ a) : H a = none := by
  cases q : H a with
  | none => rfl
  | some u => exact absurd (Nat.lt_of_lt_of_le (x.lt q) e) (Nat.lt_irrefl _)
/-- every object of the heap is kept -/
theorem HOk.kept (x : HOk P w H h) (k : ∀ b u, h.get? b = some u → h'.get? b = some u) : HOk P w H h' := fun a o e =>
  (x a o e).stay (fun b u _ q => k b u q) (fun _ q => q) fun _ _ q => q
/-- a new object is laid and tracked -/
theorem HOk.laid (x : HOk P w H h) (k : ∀ b u, h.get? b = some u → h'.get? b = some u) (hp : h.objs.size ≤ a) (new : ObjOk P w (upd H a o) h' a o) : HOk P w (upd H a o) h' := fun b u e => by
  have hn := x.fresh hp
  by_cases hb : b = a
  · subst hb; rw [upd_same] at e; cases e; exact new
  · rw [upd_ne hb] at e
    exact (x b u e).stay (fun c v _ q => k c v q) (fun c q => by rw [upd_ne (ne_of_none q hn)]; exact q) fun c xs q => by rw [upd_ne (ne_of_none q hn)]; exact q
end

/-- what may be read as u: it is u, or a known u -/
def Rd (H : Hp) (a : Addr) (u : HO) : Prop := H a = some u ∨ ∃ o, H a = some (.frz o u)
theorem Rd.ok {P : Program} {w : World} {H : Hp} {h : Heap} {a : Addr} {u : HO} (r : Rd H a u) (x : HOk P w H h) : ObjOk P w H h a u := by
  rcases r with r | ⟨o, r⟩
  · exact x a u r
  · obtain ⟨_, q⟩ := x a _ r
    exact q
/-- what may be written -/
def Mut : Option HO → Prop
  | some (.lst _) => True
  | some (.dK _) => True
  | some (.dT _) => True
  | some (.set _ _) => True
  | some (.ins _ _ _) => True
  | some (.ext _) => True
  | _ => False
section
variable {P : Program} {w : World} {H : Hp} {h h' : Heap} {x e : Addr} {o' : HO}
theorem HOk.write (ok : HOk P w H h) (mu : Mut (H x)) (he : e = x ∨ H e = some (.own x)) (k : ∀ b u, b ≠ e → h.get? b = some u → h'.get? b = some u) (heo : ∃ u, h'.get? e = some u)
    (new : ObjOk P w (upd H x o') h' x o') : HOk P w (upd H x o') h' := fun b u q => by
  have nown : ∀ c y, H c = some (.own y) → c ≠ x := fun c y r z => by subst z; rw [r] at mu; exact mu
  have ntup : ∀ c xs, H c = some (.tup xs) → c ≠ x := fun c xs r z => by subst z; rw [r] at mu; exact mu
  by_cases hb : b = x
  · subst hb; rw [upd_same] at q; cases q; exact new
  · rw [upd_ne hb] at q
    by_cases hbe : b = e
    · have q' : H b = some (.own x) := by
        rcases he with z | z
        · exact absurd (hbe.trans z) hb
        · rw [hbe]; exact z
      rw [q] at q'; cases q'
      obtain ⟨v, hv⟩ := heo
      exact ⟨v, by rw [hbe]; exact hv⟩
    · refine (ok b u q).stay (fun c v hc r => k c v ?_ r) (fun c r => by rw [upd_ne (nown c b r)]; exact r) fun c xs r => by rw [upd_ne (ntup c xs r)]; exact r
      rcases hc with rfl | hc
      · exact hbe
      · rintro rfl
        rcases he with z | z
        · exact nown c b hc z
        · rw [hc] at z; cases z; exact hb rfl
end

/-! ### kept unless tracked; of the frames at fs (the callers') the slots may change (an exception that passes writes there); of the records at ex (iterators) nothing is said -/
structure Un (fs ex : List Addr) (H H' : Hp) (h h' : Heap) : Prop where
  keep : ∀ b o, h.get? b = some o → H b = none → b ∉ fs → b ∉ ex → h'.get? b = some o
  slot : ∀ b o, h.get? b = some o → H b = none → b ∈ fs → b ∉ ex → ∃ sl, h'.get? b = some { o with slots := sl }
  free : ∀ b o, h.get? b = some o → H b = none → b ∉ ex → H' b = none
  there : ∀ b o, h.get? b = some o → b ∉ ex → ∃ o', h'.get? b = some o'
  tups : ∀ b xs, H b = some (.tup xs) → H' b = some (.tup xs)
  frzs : ∀ b o u, H b = some (.frz o u) → H' b = some (.frz o u)
  tbls : ∀ b ps, H b = some (.tbl ps) → ∃ more, H' b = some (.tbl (ps ++ more))
section
variable {fs fs' ex ex' : List Addr} {H H1 H2 : Hp} {h h1 h2 h' : Heap} {a x e : Addr} {o : HO}
theorem Un.any (u : Un fs ex H H1 h h1) {b : Addr} {ob : Obj} (q : h.get? b = some ob) (n : H b = none) (hx : b ∉ ex) : ∃ sl, h1.get? b = some { ob with slots := sl } := by
  by_cases hb : b ∈ fs
  · exact u.slot b ob q n hb hx
  · exact ⟨ob.slots, u.keep b ob q n hb hx⟩
theorem Un.kept (k : ∀ b u, h.get? b = some u → h'.get? b = some u) : Un fs ex H H h h' :=
  ⟨fun b ob q _ _ _ => k b ob q, fun b ob q _ _ _ => ⟨ob.slots, k b ob q⟩, fun _ _ _ n _ => n, fun b ob q _ => ⟨ob, k b ob q⟩, fun _ _ q => q, fun _ _ _ q => q, fun _ ps q => ⟨#[], by rw [q]; simp⟩⟩
theorem Un.refl : Un fs ex H H h h := Un.kept fun _ _ q => q
theorem Un.laid (k : ∀ b u, h.get? b = some u → h'.get? b = some u) (hp : h.objs.size ≤ a) (hn : H a = none) : Un fs ex H (upd H a o) h h' where
  keep := fun b u q _ _ _ => k b u q
  slot := fun b u q _ _ _ => ⟨u.slots, k b u q⟩
  free := fun b u q n _ => by rw [upd_ne (Nat.ne_of_lt (Nat.lt_of_lt_of_le (Heap.lt_size q) hp))]; exact n
  there := fun b u q _ => ⟨u, k b u q⟩
  tups := fun b xs q => by rw [upd_ne (ne_of_none q hn)]; exact q
  frzs := fun b u xs q => by rw [upd_ne (ne_of_none q hn)]; exact q
  tbls := fun b ps q => ⟨#[], by rw [upd_ne (ne_of_none q hn), q]; simp⟩
theorem Un.write (mu : Mut (H x)) (he : e = x ∨ H e = some (.own x)) (k : ∀ b u, b ≠ e → h.get? b = some u → h'.get? b = some u) (heo : ∃ u, h'.get? e = some u) : Un fs ex H (upd H x o) h h' := by
  have hx : ∀ b, H b = none → b ≠ x := fun b n z => by subst z; rw [n] at mu; exact mu
  have hb : ∀ b, H b = none → b ≠ e := fun b n z => by
    subst z
    rcases he with r | r
    · exact hx b n r
    · rw [n] at r; cases r
  have hm : ∀ b u, H b = some u → ¬ Mut (some u) → b ≠ x := fun b u q nm z => by subst z; rw [q] at mu; exact nm mu
  refine ⟨fun b u q n _ _ => k b u (hb b n) q, fun b u q n _ _ => ⟨u.slots, k b u (hb b n) q⟩, fun b u q n _ => by rw [upd_ne (hx b n)]; exact n, fun b u q _ => ?_,
    fun b xs q => by rw [upd_ne (hm b _ q fun z => z)]; exact q, fun b u xs q => by rw [upd_ne (hm b _ q fun z => z)]; exact q, fun b ps q => ⟨#[], by rw [upd_ne (hm b _ q fun z => z), q]; simp⟩⟩
  by_cases hbe : b = e
  · subst hbe; exact heo
  · exact ⟨u, k b u hbe q⟩
end

/-! ### the heap without what is tracked -/
def trk (h : Heap) (H : Hp) : List Addr := (List.range h.objs.size).filter fun a => (H a).isSome
def hidT (h : Heap) (H : Hp) : Heap := PySem.W.hideAll h (trk h H)
theorem hidT_size (h : Heap) (H : Hp) : (hidT h H).objs.size = h.objs.size := PySem.W.hideAll_size _ _
theorem hidT_get {h : Heap} {H : Hp} {b : Addr} {o : Obj} (e : h.get? b = some o) (n : H b = none) : (hidT h H).get? b = some o :=
  PySem.W.hideAll_get _ e fun hm => by
    have q : (H b).isSome = true := (List.mem_filter.mp hm).2
    rw [n] at q; simp at q
theorem of_hidT {h : Heap} {H : Hp} {b : Addr} {o : Obj} (e : (hidT h H).get? b = some o) : h.get? b = some o ∧ H b = none := by
  have e' : h.get? b = some o := PySem.W.of_hideAll (trk h H) e
  refine ⟨e', ?_⟩
  cases q : H b with
  | none => rfl
  | some x =>
    have hm : b ∈ trk h H := List.mem_filter.mpr ⟨List.mem_range.mpr (Heap.lt_size e'), by simp [q]⟩
    have z : (hidT h H).get? b = none := PySem.W.hideAll_none (trk h H) hm
    rw [z] at e; cases e

/-! ### OpenK's ledger, filled with every new object but one -/

/-- the module's facts, over the base: the heap at the law's entry without what is tracked there -/
structure Mod (K : PySem.W.Frag) (mg : Str → Option Value) (base : Heap) : Prop where
  kin : K.In base
  glob : base.Ns mainGlobals mg
  blt : ∃ mb, base.Ns builtinsNs mb ∧ ∀ x : Str, x ≠ "__name__" → mb x = bootBuiltins x
  nolimit : base.NoLimit

/-- the context: a def's body (or a comprehension's block) running. base: fixed through the whole law; s₀, H₀: the entry; outer: the frames whose slots others may change (a def's callers); stack: all frames that run;
   ex: iterators that were made ahead of the entry and are walked here (a comprehension's); fn: the names whose cells were made at the entry (a def: all; a comprehension's block: its own); calm: not within an except suite; pn: pins that every state bears; xe: what is wanted of an exception that leaves the code -/
structure Cx where
  prog : Program
  w : World
  K : PySem.W.Frag
  mg : Str → Option Value
  base : Heap
  A : Around
  N : List Str
  s₀ : Shared
  H₀ : Hp
  env : Env
  outer : List Env
  stack : List Env
  ex : List Addr
  fn : Str → Bool
  calm : Bool
  pn : List (Addr × Obj)
  xe : Value → Shared → Prop
/-- the callers' frames -/
def frs (l : List Env) : List Addr := l.filterMap (·.frame)
abbrev Cx.fs (X : Cx) : List Addr := frs X.outer

def Vis (sc : Scope) (x : Str) : Prop := sc.names.lookup x = some .local ∨ sc.names.lookup x = some .cell ∨ sc.names.lookup x = some .free
def Loc (sc : Scope) (x : Str) : Prop := sc.names.lookup x = some .local ∨ sc.names.lookup x = some .cell
def Look (env : Env) (h : Heap) (m : Str → Option Value) (x : Str) (u : Value) : Prop :=
  (env.kindOf x = some .local ∧ m x = some u) ∨ ((env.kindOf x = some .cell ∨ env.kindOf x = some .free) ∧ ∃ c, env.cells.lookup x = some c ∧ h.IsCell c (some u))

structure Cx.Ok (X : Cx) : Prop where
  mod : Mod X.K X.mg X.base
  kind : X.env.scope.kind = .function
  glob : X.env.globals = mainGlobals
  blt : X.env.builtins = builtinsNs
  above : X.s₀.heap.objs.size ≤ X.env.locals
  inj : ∀ x y c, X.env.cells.lookup x = some c → X.env.cells.lookup y = some c → x = y
  has : ∀ x, (X.env.kindOf x = some .cell ∨ X.env.kindOf x = some .free) → ∃ c, X.env.cells.lookup x = some c
  cab : ∀ x c, X.fn x = true → X.env.cells.lookup x = some c → X.s₀.heap.objs.size ≤ c
  hd : X.calm = true → X.A.handled = none
  frames : X.A.frames = some X.stack
  stk : X.stack = X.outer ∨ (X.stack = X.env :: X.outer ∧ X.env.frame = some X.env.locals)
  exf : ∀ b ∈ X.ex, b ≠ X.env.locals ∧ ∀ x c, X.env.cells.lookup x = some c → c ≠ b
  bs : ∀ b o, X.base.get? b = some o → X.s₀.heap.get? b = some o ∧ X.H₀ b = none
  bsz : X.base.objs.size ≤ X.s₀.heap.objs.size
  noex : ∀ b o, X.base.get? b = some o → b ∉ X.ex
  exfs : ∀ b ∈ X.ex, b ∉ X.fs
  funs : X.s₀.heap.FunFrames X.base X.outer
  frf : ∀ b ∈ X.fs, X.H₀ b = none

structure Inv (X : Cx) (pins : List (Addr × Obj)) (σ : List (Option V)) (H : Hp) (s : Shared) : Prop where
  ok : X.Ok
  os : s.os = X.s₀.os
  bare : AllBare s.gens
  base : Un X.fs X.ex X.H₀ H X.s₀.heap s.heap
  loc : ∃ m, s.heap.Ns X.env.locals m ∧ ∀ (i : Nat) (x : Str) (v : V), X.N[i]? = some x → σ[i]? = some (some v) → Vis X.env.scope x → ∃ u, RelV v u ∧ Look X.env s.heap m x u
  cell : ∀ x c, X.env.cells.lookup x = some c → ∃ v, s.heap.IsCell c v
  free : H X.env.locals = none
  freeC : ∀ x c, X.env.cells.lookup x = some c → H c = none
  pin : ∀ p ∈ X.pn ++ pins, s.heap.get? p.1 = some p.2 ∧ H p.1 = none ∧ p.1 ≠ X.env.locals ∧ p.1 ∉ X.fs ∧ ∀ v, p.2.data ≠ .cell v
  hok : HOk X.prog X.w H s.heap
  len : σ.length = X.N.length

section
variable {X : Cx} {pins : List (Addr × Obj)} {σ : List (Option V)} {H H' : Hp} {s : Shared} {h' : Heap}
theorem Cx.Ok.nofr (ok : X.Ok) {b : Addr} {o : Obj} (e : X.base.get? b = some o) : b ∉ X.fs := fun hb => by
  have := (ok.funs.mem hb).1
  rw [e] at this; cases this
theorem Inv.bs (I : Inv X pins σ H s) : ∀ b o, X.base.get? b = some o → s.heap.get? b = some o ∧ H b = none := fun b o e =>
  ⟨I.base.keep b o (I.ok.bs b o e).1 (I.ok.bs b o e).2 (I.ok.nofr e) (I.ok.noex b o e), I.base.free b o (I.ok.bs b o e).1 (I.ok.bs b o e).2 (I.ok.noex b o e)⟩
theorem Inv.bk (I : Inv X pins σ H s) : ∀ b o, X.base.get? b = some o → s.heap.get? b = some o := fun b o e => (I.bs b o e).1
theorem Inv.mod (I : Inv X pins σ H s) : Mod X.K X.mg X.base := I.ok.mod
theorem Inv.kIn (I : Inv X pins σ H s) : X.K.In s.heap := I.ok.mod.kin.keeps I.bk
theorem Inv.lt (I : Inv X pins σ H s) : X.env.locals < s.heap.objs.size := let ⟨_, hn, _⟩ := I.loc; hn.lt
theorem Inv.sz (I : Inv X pins σ H s) : X.s₀.heap.objs.size ≤ s.heap.objs.size := Nat.le_trans I.ok.above (Nat.le_of_lt I.lt)
theorem Inv.nofs (I : Inv X pins σ H s) {a : Addr} (h : s.heap.objs.size ≤ a) : a ∉ X.fs := fun hb => by
  obtain ⟨_, o, ho, _⟩ := I.ok.funs.mem hb
  exact absurd (Nat.lt_of_lt_of_le (Heap.lt_size ho) (Nat.le_trans I.sz h)) (Nat.lt_irrefl _)
theorem Inv.cne (I : Inv X pins σ H s) : ∀ x c, X.env.cells.lookup x = some c → c ≠ X.env.locals := fun x c e z => by
  obtain ⟨v, o, ho, hd⟩ := I.cell x c e
  obtain ⟨m, ⟨o', es, ep, ho', hd', _⟩, _⟩ := I.loc
  rw [z, ho'] at ho; cases ho; rw [hd'] at hd; cases hd
theorem Inv.funs (I : Inv X pins σ H s) : s.heap.FunFrames X.base X.outer := by
  have all : ∀ (l : List Env), (∀ b ∈ frs l, b ∈ X.fs) → X.s₀.heap.FunFrames X.base l → s.heap.FunFrames X.base l := by
    intro l
    induction l with
    | nil => intro _ _; trivial
    | cons env r ih =>
      intro hs hl
      obtain ⟨hk, ⟨L, o, hf, hn, ho, hd⟩, hr⟩ := hl
      have hL : L ∈ X.fs := hs L (by unfold frs; rw [List.filterMap_cons, hf]; exact List.mem_cons_self)
      obtain ⟨sl, e⟩ := I.base.slot L o ho (I.ok.frf L hL) hL fun z => I.ok.exfs L z hL
      exact ⟨hk, ⟨L, _, hf, hn, e, hd⟩, ih (fun b hb => hs b (by unfold frs; rw [List.filterMap_cons, hf]; exact List.mem_cons_of_mem _ hb)) hr⟩
  exact all X.outer (fun _ hb => hb) I.ok.funs

/-- the frames that run, for a call -/
theorem Inv.stack (I : Inv X pins σ H s) : s.heap.FunFrames X.base X.stack := by
  rcases I.ok.stk with e | ⟨e, hf⟩
  · rw [e]; exact I.funs
  · rw [e]
    obtain ⟨m, hn, _⟩ := I.loc
    refine .cons (by rw [I.ok.kind]; decide) hf hn ?_ I.funs
    exact Heap.get?_none_of_le (Nat.le_trans I.ok.bsz I.ok.above)
theorem Inv.stkSub (I : Inv X pins σ H s) : ∀ b ∈ frs X.stack, b ∈ X.env.locals :: X.fs := fun b hb => by
  rcases I.ok.stk with e | ⟨e, hf⟩
  · rw [e] at hb; exact List.mem_cons_of_mem _ hb
  · rw [e] at hb
    unfold frs at hb
    rw [List.filterMap_cons, hf] at hb
    exact hb
theorem Inv.stkFree (I : Inv X pins σ H s) : ∀ b ∈ frs X.stack, H b = none := fun b hb => by
  rcases List.mem_cons.mp (I.stkSub b hb) with e | hb
  · rw [e]; exact I.free
  · obtain ⟨_, o, ho, _⟩ := I.ok.funs.mem hb
    exact I.base.free b o ho (I.ok.frf b hb) fun z => I.ok.exfs b z hb

/-- THE STEP: the untracked objects but the frame and the records at ch are kept (the callers' frames up to slots), the frame's map is kept, the new abstract heap is held -/
theorem Inv.step {g' : Array GenState} {t' : Nat} {d' : Drawn} {ch : List Addr} (I : Inv X pins σ H s)
    (hch : ∀ b ∈ ch, (b ∈ X.ex ∨ X.s₀.heap.objs.size ≤ b) ∧ b ≠ X.env.locals ∧ (∀ x c, X.env.cells.lookup x = some c → c ≠ b) ∧ ∀ p ∈ X.pn ++ pins, p.1 ≠ b)
    (keep : ∀ b o, b ≠ X.env.locals → b ∉ X.fs → b ∉ ch → s.heap.get? b = some o → H b = none → h'.get? b = some o)
    (slot : ∀ b o, b ≠ X.env.locals → b ∈ X.fs → b ∉ ch → s.heap.get? b = some o → H b = none → ∃ sl, h'.get? b = some { o with slots := sl }) (free : ∀ b o, b ∉ ch → s.heap.get? b = some o → H b = none → H' b = none)
    (there : ∀ b o, b ∉ ch → s.heap.get? b = some o → ∃ o', h'.get? b = some o')
    (tups : ∀ b xs, H b = some (.tup xs) → H' b = some (.tup xs)) (frzs : ∀ b o u, H b = some (.frz o u) → H' b = some (.frz o u)) (tbls : ∀ b ps, H b = some (.tbl ps) → ∃ more, H' b = some (.tbl (ps ++ more)))
    (ns : ∀ m, s.heap.Ns X.env.locals m → h'.Ns X.env.locals m) (hok : HOk X.prog X.w H' h') (hg : AllBare g') :
    Inv X pins σ H' { s with heap := h', gens := g', drawn := d', toks := t' } := by
  have neL : ∀ b o, X.s₀.heap.get? b = some o → b ≠ X.env.locals := fun b o e => Nat.ne_of_lt (Nat.lt_of_lt_of_le (Heap.lt_size e) I.ok.above)
  have neC : ∀ b o, X.s₀.heap.get? b = some o → b ∉ X.ex → b ∉ ch := fun b o e hx hb => by
    rcases (hch b hb).1 with z | z
    · exact hx z
    · exact absurd (Nat.lt_of_lt_of_le (Heap.lt_size e) z) (Nat.lt_irrefl _)
  have cellK : ∀ x c, X.env.cells.lookup x = some c → ∀ v, s.heap.IsCell c v → h'.IsCell c v := fun x c e v ⟨o, ho, hd⟩ => by
    have nch : c ∉ ch := fun z => (hch c z).2.2.1 x c e rfl
    by_cases hc : c ∈ X.fs
    · obtain ⟨sl, q⟩ := slot c o (I.cne x c e) hc nch ho (I.freeC x c e)
      exact ⟨_, q, hd⟩
    · exact ⟨o, keep c o (I.cne x c e) hc nch ho (I.freeC x c e), hd⟩
  refine ⟨I.ok, I.os, hg, ⟨fun b o e n hb hx => ?_, fun b o e n hb hx => ?_, fun b o e n hx => ?_, fun b o e hx => ?_, fun b xs e => tups b xs (I.base.tups b xs e), fun b o xs e => frzs b o xs (I.base.frzs b o xs e), fun b ps e => ?_⟩, ?_, fun x c e => ?_, ?_, fun x c e => ?_, fun p hp => ?_, hok, I.len⟩
  · exact keep b o (neL b o e) hb (neC b o e hx) (I.base.keep b o e n hb hx) (I.base.free b o e n hx)
  · obtain ⟨sl, e1⟩ := I.base.slot b o e n hb hx
    obtain ⟨sl', e2⟩ := slot b _ (neL b o e) hb (neC b o e hx) e1 (I.base.free b o e n hx)
    exact ⟨sl', e2⟩
  · obtain ⟨o', e1⟩ := I.base.there b o e hx
    exact free b o' (neC b o e hx) e1 (I.base.free b o e n hx)
  · obtain ⟨o', e1⟩ := I.base.there b o e hx
    exact there b o' (neC b o e hx) e1
  · obtain ⟨m1, e1⟩ := I.base.tbls b ps e
    obtain ⟨m2, e2⟩ := tbls b _ e1
    exact ⟨m1 ++ m2, by rw [e2, Array.append_assoc]⟩
  · obtain ⟨m, hn, hl⟩ := I.loc
    refine ⟨m, ns m hn, fun i x v e1 e2 e3 => ?_⟩
    obtain ⟨u, r, l⟩ := hl i x v e1 e2 e3
    refine ⟨u, r, ?_⟩
    rcases l with l | ⟨k, c, e, z⟩
    · exact .inl l
    · exact .inr ⟨k, c, e, cellK x c e _ z⟩
  · obtain ⟨v, z⟩ := I.cell x c e
    exact ⟨v, cellK x c e v z⟩
  · obtain ⟨m, ⟨o, _, _, ho, _⟩, _⟩ := I.loc
    exact free _ o (fun z => (hch _ z).2.1 rfl) ho I.free
  · obtain ⟨v, o, ho, hd⟩ := I.cell x c e
    exact free c o (fun z => (hch c z).2.2.1 x c e rfl) ho (I.freeC x c e)
  · obtain ⟨e, n, ne, nf, d⟩ := I.pin p hp
    have nch : p.1 ∉ ch := fun z => (hch p.1 z).2.2.2 p hp rfl
    exact ⟨keep p.1 p.2 ne nf nch e n, free p.1 p.2 nch e n, ne, nf, d⟩
/-- .. where the frame's own object is kept too -/
theorem Inv.un {t' : Nat} (I : Inv X pins σ H s) (u : Un X.fs [] H H' s.heap h') (hok : HOk X.prog X.w H' h') : Inv X pins σ H' { s with heap := h', toks := t' } := by
  obtain ⟨m, ⟨o, es, ep, ho, r⟩, _⟩ := id I.loc
  obtain ⟨sl, hL⟩ := u.any ho I.free (by simp)
  exact I.step (g' := s.gens) (d' := s.drawn) (ch := []) (fun _ z => nomatch z) (fun b o _ hb _ e n => u.keep b o e n hb (by simp)) (fun b o _ hb _ e n => u.slot b o e n hb (by simp)) (fun b o _ e n => u.free b o e n (by simp)) (fun b o _ e => u.there b o e (by simp)) u.tups u.frzs u.tbls (fun m' hm => by
    obtain ⟨o', es', ep', ho', r'⟩ := hm
    rw [ho] at ho'; cases ho'
    exact ⟨_, es', ep', hL, r'⟩) hok I.bare
/-- behind a call (or a comprehension's block): the slots of this frame may have changed too, the records at ch may have turned -/
theorem Inv.call {g' : Array GenState} {t' : Nat} {d' : Drawn} {ch : List Addr} (I : Inv X pins σ H s) (u : Un (frs X.stack) ch H H' s.heap h') (hok : HOk X.prog X.w H' h') (hg : AllBare g')
    (hch : ∀ b ∈ ch, (b ∈ X.ex ∨ X.s₀.heap.objs.size ≤ b) ∧ b ≠ X.env.locals ∧ (∀ x c, X.env.cells.lookup x = some c → c ≠ b) ∧ ∀ p ∈ X.pn ++ pins, p.1 ≠ b) :
    Inv X pins σ H' { s with heap := h', gens := g', drawn := d', toks := t' } := by
  obtain ⟨m, ⟨o, es, ep, ho, r⟩, _⟩ := id I.loc
  obtain ⟨sl, hL⟩ := u.any ho I.free fun z => (hch _ z).2.1 rfl
  exact I.step (ch := ch) hch (fun b o hL hb hc e n => u.keep b o e n (fun z => (List.mem_cons.mp (I.stkSub b z)).elim hL hb) hc) (fun b o _ _ hc e n => u.any e n hc) (fun b o hc e n => u.free b o e n hc) (fun b o hc e => u.there b o e hc) u.tups u.frzs u.tbls (fun m' hm => by
    obtain ⟨o', es', ep', ho', r'⟩ := hm
    rw [ho] at ho'; cases ho'
    exact ⟨_, es', ep', hL, r'⟩) hok hg
/-- an untracked record of ours (an iterator) has turned -/
theorem Inv.turned {t' : Nat} {it : Addr} (I : Inv X pins σ H s) (k : ∀ b o, b ≠ it → s.heap.get? b = some o → h'.get? b = some o) (hn : H it = none) (hL : it ≠ X.env.locals)
    (h1 : it ∈ X.ex ∨ X.s₀.heap.objs.size ≤ it) (h2 : ∀ x c, X.env.cells.lookup x = some c → c ≠ it) (h3 : ∀ p ∈ X.pn ++ pins, p.1 ≠ it) : Inv X pins σ H { s with heap := h', toks := t' } := by
  have nit : ∀ b u, H b = some u → b ≠ it := fun b u e z => by rw [z, hn] at e; cases e
  refine I.step (g' := s.gens) (d' := s.drawn) (ch := [it]) (fun b hb => ?_) (fun b o _ _ hc e _ => k b o (fun z => hc (by simp [z])) e) (fun b o _ _ hc e _ => ⟨o.slots, k b o (fun z => hc (by simp [z])) e⟩) (fun _ _ _ _ n => n)
    (fun b o hc e => ⟨o, k b o (fun z => hc (by simp [z])) e⟩) (fun _ _ e => e) (fun _ _ _ e => e) (fun b ps e => ⟨#[], by rw [e]; simp⟩) (fun m hm => ?_) (fun b u e => ?_) I.bare
  · have e : b = it := by simpa using hb
    subst e
    exact ⟨h1, hL, h2, h3⟩
  · obtain ⟨o, es, ep, ho, r⟩ := hm
    exact ⟨o, es, ep, k _ o (Ne.symm hL) ho, r⟩
  · refine (I.hok b u e).stay (fun c v hc q => k c v ?_ q) (fun _ q => q) fun _ _ q => q
    rcases hc with z | z
    · rw [z]; exact nit b u e
    · exact nit c _ z
theorem Inv.tok (I : Inv X pins σ H s) (t : Nat) : Inv X pins σ H { s with toks := t } := I.un (h' := s.heap) (t' := t) Un.refl I.hok
/-- all objects kept -/
theorem Inv.kept {t' : Nat} (I : Inv X pins σ H s) (k : ∀ b u, s.heap.get? b = some u → h'.get? b = some u) : Inv X pins σ H { s with heap := h', toks := t' } := I.un (Un.kept k) (I.hok.kept k)
/-- a new object laid and tracked -/
theorem Inv.laid {a : Addr} {o : HO} {t' : Nat} (I : Inv X pins σ H s) (k : ∀ b u, s.heap.get? b = some u → h'.get? b = some u) (hp : s.heap.objs.size ≤ a) (new : ObjOk X.prog X.w (upd H a o) h' a o) :
    Inv X pins σ (upd H a o) { s with heap := h', toks := t' } := I.un (Un.laid k hp (I.hok.fresh hp)) (I.hok.laid k hp new)
/-- an object written -/
theorem Inv.write {x e : Addr} {o : HO} {t' : Nat} (I : Inv X pins σ H s) (mu : Mut (H x)) (he : e = x ∨ H e = some (.own x)) (k : ∀ b u, b ≠ e → s.heap.get? b = some u → h'.get? b = some u) (heo : ∃ u, h'.get? e = some u)
    (new : ObjOk X.prog X.w (upd H x o) h' x o) : Inv X pins σ (upd H x o) { s with heap := h', toks := t' } := I.un (Un.write mu he k heo) (I.hok.write mu he k heo new)
theorem Inv.pins_of {pins' : List (Addr × Obj)} (I : Inv X pins σ H s) (h : ∀ p ∈ pins', s.heap.get? p.1 = some p.2 ∧ H p.1 = none ∧ p.1 ≠ X.env.locals ∧ p.1 ∉ X.fs ∧ ∀ v, p.2.data ≠ .cell v) : Inv X pins' σ H s :=
  ⟨I.ok, I.os, I.bare, I.base, I.loc, I.cell, I.free, I.freeC, fun p hp => (List.mem_append.mp hp).elim (fun z => I.pin p (List.mem_append_left _ z)) (h p), I.hok, I.len⟩

theorem nodup_ix {N : List Str} (hN : N.Nodup) {i j : Nat} {x : Str} (a : N[i]? = some x) (b : N[j]? = some x) : i = j := by
  obtain ⟨h1, e1⟩ := List.getElem?_eq_some_iff.mp a
  obtain ⟨h2, e2⟩ := List.getElem?_eq_some_iff.mp b
  exact (List.getElem_inj hN).mp (e1.trans e2.symm)

/-- a name is stored; what changed -/
theorem store_ok2 {M : Model} {A : Around} {E : Value → Shared → Prop} {i : Nat} {x : Str} {v : V} {u : Value} {Q : Unit → Shared → Prop} (I : Inv X pins σ H s) (hN : X.N.Nodup) (hi : X.N[i]? = some x) (hx : Loc X.env.scope x) (r : RelV v u)
    (h : ∀ s', Inv X pins (σ.set i (some v)) H s' → (∃ a, Heap.SameBut a s.heap s'.heap ∧ (a = X.env.locals ∨ X.env.cells.lookup x = some a)) → Q () s') (hf : X.fn x = true ∨ X.env.scope.names.lookup x = some .local := by first | exact .inl rfl | exact .inr rfl | assumption) : wpAny M A (storeName X.env x u) Q E s := by
  obtain ⟨m, hn, hl⟩ := id I.loc
  have hcls : (X.env.scope.kind == .class || (X.env.scope.kind == .module && X.env.locals != X.env.globals)) = false := by rw [I.ok.kind]; rfl
  have hiσ : i < σ.length := by rw [I.len]; exact (List.getElem?_eq_some_iff.mp hi).1
  have cne := I.cne
  have tracked : ∀ {a : Addr} {h' : Heap}, (∃ o, s.heap.get? a = some o ∧ H a = none) → Heap.SameBut a s.heap h' → HOk X.prog X.w H h' := fun {a h'} ha hs b ob e => by
    obtain ⟨_, _, hfree⟩ := ha
    refine (I.hok b ob e).stay (fun c w' hc q => (hs.2 c ?_).trans q) (fun _ q => q) fun _ _ q => q
    rintro rfl
    rcases hc with rfl | hc
    · rw [hfree] at e; cases e
    · rw [hfree] at hc; cases hc
  rcases hx with hk | hk
  · refine wpAny_storeName_local hk hn (fun h' hn' hs => ?_) hcls
    obtain ⟨oL, _, _, hoL, _⟩ := id hn
    refine h _ ⟨I.ok, I.os, I.bare, ⟨fun b o e n hb hx => ?_, fun b o e n hb hx => ?_, I.base.free, fun b o e hx => ?_, I.base.tups, I.base.frzs, I.base.tbls⟩, ⟨_, hn', fun j y v' e1 e2 e3 => ?_⟩, fun y c e => ?_, I.free, I.freeC, fun p hp => ?_, tracked ⟨oL, hoL, I.free⟩ hs, by simpa using I.len⟩ ⟨_, hs, .inl rfl⟩
    · exact (hs.2 b (Nat.ne_of_lt (Nat.lt_of_lt_of_le (Heap.lt_size e) I.ok.above))).trans (I.base.keep b o e n hb hx)
    · obtain ⟨sl, e1⟩ := I.base.slot b o e n hb hx
      exact ⟨sl, (hs.2 b (Nat.ne_of_lt (Nat.lt_of_lt_of_le (Heap.lt_size e) I.ok.above))).trans e1⟩
    · obtain ⟨o', e1⟩ := I.base.there b o e hx
      exact ⟨o', (hs.2 b (Nat.ne_of_lt (Nat.lt_of_lt_of_le (Heap.lt_size e) I.ok.above))).trans e1⟩
    · by_cases hj : j = i
      · subst hj
        rw [hi] at e1; cases e1
        rw [List.getElem?_set_self hiσ] at e2
        cases e2
        exact ⟨u, r, .inl ⟨hk, by simp⟩⟩
      · rw [List.getElem?_set_ne (Ne.symm hj)] at e2
        obtain ⟨u', r', q⟩ := hl j y v' e1 e2 e3
        refine ⟨u', r', ?_⟩
        rcases q with ⟨k, e⟩ | ⟨k, c, e, z⟩
        · refine .inl ⟨k, ?_⟩
          have : y ≠ x := fun e => hj (nodup_ix hN e1 (e ▸ hi))
          simp [this, e]
        · exact .inr ⟨k, c, e, z.sameBut hs (cne y c e)⟩
    · obtain ⟨w', z⟩ := I.cell y c e
      exact ⟨w', z.sameBut hs (cne y c e)⟩
    · obtain ⟨e, n, ne, nf, d⟩ := I.pin p hp
      exact ⟨(hs.2 p.1 ne).trans e, n, ne, nf, d⟩
  · have hfn : X.fn x = true := by
      rcases hf with z | z
      · exact z
      · rw [z] at hk; cases hk
    obtain ⟨c, hc⟩ := I.ok.has x (.inl hk)
    obtain ⟨w', z⟩ := I.cell x c hc
    refine wpAny_storeName_cell I.ok.kind hk hc z (fun h' hc' hs => ?_)
    obtain ⟨oc, hoc, hocd⟩ := id z
    refine h { s with heap := h' } ⟨I.ok, I.os, I.bare, ⟨fun b o e n hb hx => ?_, fun b o e n hb hx => ?_, I.base.free, fun b o e hx => ?_, I.base.tups, I.base.frzs, I.base.tbls⟩, ⟨m, hn.sameBut hs (Ne.symm (cne x c hc)), fun j y v' e1 e2 e3 => ?_⟩, fun y c' e => ?_, I.free, I.freeC, fun p hp => ?_, tracked ⟨oc, hoc, I.freeC x c hc⟩ hs, by simpa using I.len⟩ ⟨c, hs, .inr hc⟩
    · exact (hs.2 b (Nat.ne_of_lt (Nat.lt_of_lt_of_le (Heap.lt_size e) (I.ok.cab x c hfn hc)))).trans (I.base.keep b o e n hb hx)
    · obtain ⟨sl, e1⟩ := I.base.slot b o e n hb hx
      exact ⟨sl, (hs.2 b (Nat.ne_of_lt (Nat.lt_of_lt_of_le (Heap.lt_size e) (I.ok.cab x c hfn hc)))).trans e1⟩
    · obtain ⟨o', e1⟩ := I.base.there b o e hx
      exact ⟨o', (hs.2 b (Nat.ne_of_lt (Nat.lt_of_lt_of_le (Heap.lt_size e) (I.ok.cab x c hfn hc)))).trans e1⟩
    · by_cases hj : j = i
      · subst hj
        rw [hi] at e1; cases e1
        rw [List.getElem?_set_self hiσ] at e2
        cases e2
        exact ⟨u, r, .inr ⟨.inl hk, c, hc, hc'⟩⟩
      · rw [List.getElem?_set_ne (Ne.symm hj)] at e2
        obtain ⟨u', r', q⟩ := hl j y v' e1 e2 e3
        refine ⟨u', r', ?_⟩
        rcases q with q | ⟨k, c', e, z'⟩
        · exact .inl q
        · refine .inr ⟨k, c', e, z'.sameBut hs ?_⟩
          rintro rfl
          exact hj (nodup_ix hN e1 (I.ok.inj _ _ _ e hc ▸ hi))
    · by_cases hcc : c' = c
      · subst hcc; exact ⟨_, hc'⟩
      · obtain ⟨w2, z2⟩ := I.cell y c' e
        exact ⟨w2, z2.sameBut hs hcc⟩
    · obtain ⟨e, n, ne, nf, d⟩ := I.pin p hp
      refine ⟨(hs.2 p.1 ?_).trans e, n, ne, nf, d⟩
      intro q
      rw [q, hoc] at e
      have q' : oc = p.2 := Option.some.inj e
      exact d w' (by rw [← q']; exact hocd)
theorem store_ok {M : Model} {A : Around} {E : Value → Shared → Prop} {i : Nat} {x : Str} {v : V} {u : Value} {Q : Unit → Shared → Prop} (I : Inv X pins σ H s) (hN : X.N.Nodup) (hi : X.N[i]? = some x) (hx : Loc X.env.scope x) (r : RelV v u)
    (h : ∀ s', Inv X pins (σ.set i (some v)) H s' → Q () s') (hf : X.fn x = true ∨ X.env.scope.names.lookup x = some .local := by first | exact .inl rfl | exact .inr rfl | assumption) : wpAny M A (storeName X.env x u) Q E s :=
  store_ok2 I hN hi hx r (fun s' I' _ => h s' I') hf
/-- behind a call or a block, the state as it is -/
theorem Inv.call' {s' : Shared} {ch : List Addr} (I : Inv X pins σ H s) (ho : s'.os = s.os) (u : Un (frs X.stack) ch H H' s.heap s'.heap) (hok : HOk X.prog X.w H' s'.heap) (hg : AllBare s'.gens)
    (hch : ∀ b ∈ ch, (b ∈ X.ex ∨ X.s₀.heap.objs.size ≤ b) ∧ b ≠ X.env.locals ∧ (∀ x c, X.env.cells.lookup x = some c → c ≠ b) ∧ ∀ p ∈ X.pn ++ pins, p.1 ≠ b) : Inv X pins σ H' s' := by
  obtain ⟨h', g', d', t', o'⟩ := s'
  have e : o' = s.os := ho
  subst e
  exact I.call (g' := g') (t' := t') (d' := d') u hok hg hch
end

/-! ### the judgements -/
/-- an exception: its class, its own dict's address (where it has one), the abstract heap behind it -/
abbrev XK := Value → Option Addr → Hp → Prop
abbrev St := List (Option V)
abbrev VK := V → Hp → Prop
/-- an expression's reading; a test's; an argument list's -/
abbrev TE := St → Hp → VK → Prop
abbrev TT := St → Hp → (Bool → Hp → Prop) → Prop
abbrev TA := St → Hp → (List V → Hp → Prop) → Prop
/-- what is wanted behind a statement -/
structure Ends where
  nx : St → Hp → Prop
  rt : VK
  bk : St → Hp → Prop := fun _ _ => False
  ct : St → Hp → Prop := fun _ _ => False
abbrev TS := Ends → St → Hp → Prop

def EP (X : Cx) (pins : List (Addr × Obj)) (σ : St) (Q : VK) (u : Value) (s' : Shared) : Prop := ∃ v H', Inv X pins σ H' s' ∧ RelV v u ∧ Q v H'
def TP (X : Cx) (pins : List (Addr × Obj)) (σ : St) (Q : Bool → Hp → Prop) (b : Bool) (s' : Shared) : Prop := ∃ H', Inv X pins σ H' s' ∧ Q b H'
def AP (X : Cx) (pins : List (Addr × Obj)) (σ : St) (Q : List V → Hp → Prop) (us : List Value) (s' : Shared) : Prop := ∃ vs H', Inv X pins σ H' s' ∧ Vals vs us ∧ Q vs H'
def SP (X : Cx) (pins : List (Addr × Obj)) (D : Ends) (f : Flow) (s' : Shared) : Prop :=
  match f with
  | .next => ∃ σ' H', Inv X pins σ' H' s' ∧ D.nx σ' H'
  | .brk => ∃ σ' H', Inv X pins σ' H' s' ∧ D.bk σ' H'
  | .cont => ∃ σ' H', Inv X pins σ' H' s' ∧ D.ct σ' H'
  | .ret u => ∃ v σ' H', Inv X pins σ' H' s' ∧ RelV v u ∧ D.rt v H'

def PE (X : Cx) (e : Expr) (t : TE) : Prop :=
  ∀ (pins : List (Addr × Obj)) (s : Shared) (σ : St) (H : Hp) (Q : VK), Inv X pins σ H s → t σ H Q → wpAny (model X.prog X.w) X.A (eval e X.env) (EP X pins σ Q) X.xe s
def PT (X : Cx) (e : Expr) (t : TT) : Prop :=
  ∀ (pins : List (Addr × Obj)) (s : Shared) (σ : St) (H : Hp) (Q : Bool → Hp → Prop), Inv X pins σ H s → t σ H Q → wpAny (model X.prog X.w) X.A (isTrue e X.env (eval e X.env)) (TP X pins σ Q) X.xe s
/-- a test whatever its 'whole' is (and, or) -/
def PW (X : Cx) (e : Expr) (t : TT) : Prop :=
  ∀ (whole : Sem Value) (pins : List (Addr × Obj)) (s : Shared) (σ : St) (H : Hp) (Q : Bool → Hp → Prop), Inv X pins σ H s → t σ H Q → wpAny (model X.prog X.w) X.A (isTrue e X.env whole) (TP X pins σ Q) X.xe s
/-- an argument list (no star), from the left -/
def PA (X : Cx) (es : List Expr) (t : TA) : Prop :=
  ∀ (pos : Pos) (pins : List (Addr × Obj)) (s : Shared) (σ : St) (H : Hp) (Q : List V → Hp → Prop), Inv X pins σ H s → t σ H Q → wpAny (model X.prog X.w) X.A (spliced (backTo pos (starEach es X.env))) (AP X pins σ Q) X.xe s
def PS (X : Cx) (st : Stmt) (t : TS) : Prop :=
  ∀ (pins : List (Addr × Obj)) (s : Shared) (σ : St) (H : Hp) (D : Ends), Inv X pins σ H s → t D σ H → wpAny (model X.prog X.w) X.A (exec st X.env) (SP X pins D) X.xe s
def PSs (X : Cx) (st : List Stmt) (t : TS) : Prop :=
  ∀ (pins : List (Addr × Obj)) (s : Shared) (σ : St) (H : Hp) (D : Ends), Inv X pins σ H s → t D σ H → wpAny (model X.prog X.w) X.A (execs st X.env) (SP X pins D) X.xe s
/-- weaken the end -/
theorem thn {α : Type} {t : Sem α} {Q Q' : α → Shared → Prop} {M : Model} {A : Around} {E : Value → Shared → Prop} {s : Shared} (h : wpAny M A t Q E s) (hQ : ∀ a s, Q a s → Q' a s) : wpAny M A t Q' E s := wpAny_mono h hQ fun _ _ x => x
section
variable {X : Cx}
def tVar (i : Nat) : TE := fun σ H Q => ∃ v, σ[i]? = some (some v) ∧ Q v H
def tC (v : V) : TE := fun _ H Q => Q v H
theorem pe_var {i : Nat} {x : Str} {pos : Pos} (hN : X.N[i]? = some x) (hv : Vis X.env.scope x) (hd : (x == ("__debug__" : Str)) = false := by decide) (hcd : (x == ("__classdict__" : Str)) = false := by decide) : PE X (.Name x pos) (tVar i) := by
  intro pins s σ H Q I h
  obtain ⟨v, e, h⟩ := h
  obtain ⟨m, hn, hl⟩ := I.loc
  obtain ⟨u, r, l⟩ := hl i x v hN e hv
  have fin : EP X pins σ Q u s := ⟨v, H, I, r, h⟩
  rcases l with ⟨hk, hm⟩ | ⟨hk, c, hc, hcell⟩
  · exact wpAny_Name (wpAny_loadName_local I.ok.kind hk hn hm fin) hd
  · rcases hk with hk | hk
    · exact wpAny_Name (wpAny_loadName_cell I.ok.kind hk hc hcell fin) hd
    · exact wpAny_Name (wpAny_loadName_free I.ok.kind hk hc hcell fin hcd) hd
theorem pe_int {i j pos} : PE X (.Constant (.int i) j pos) (tC (.int i)) := fun _ _ _ H _ I h => wpAny_Constant_int ⟨.int i, H, I.tok _, ⟨_, rfl⟩, h⟩
theorem pe_bl {b j pos} : PE X (.Constant (.bool b) j pos) (tC (.bl b)) := fun _ _ _ H _ I h => Constant_bool ⟨.bl b, H, I, rfl, h⟩
theorem pe_non {j pos} : PE X (.Constant .none j pos) (tC .non) := fun _ _ _ H _ I h => Constant_none ⟨.non, H, I, rfl, h⟩
theorem pe_str {x j pos} : PE X (.Constant (.str x) j pos) (tC (.str x)) := fun _ _ _ H _ I h => Calls.Constant_str ⟨.str x, H, I.tok _, ⟨_, rfl⟩, h⟩

/-- a global name of the def -/
def Gl (X : Cx) (x : Str) : Prop := X.env.kindOf x = some .globalImplicit
theorem ld_glob {E : Value → Shared → Prop} {pins : List (Addr × Obj)} {s : Shared} {σ : St} {H : Hp} {x : Str} {u : Value} {pos : Pos} {Q : Value → Shared → Prop} (I : Inv X pins σ H s) (hg : Gl X x) (hm : X.mg x = some u) (h : Q u s)
    (hd : (x == ("__debug__" : Str)) = false := by decide) : wpAny (model X.prog X.w) X.A (eval (.Name x pos) X.env) Q E s :=
  Calls.Name_function_global I.ok.kind hg (Calls.loadGlobal_global (by rw [I.ok.glob]; exact I.mod.glob.keeps I.bk) hm h) hd
theorem ld_blt {E : Value → Shared → Prop} {pins : List (Addr × Obj)} {s : Shared} {σ : St} {H : Hp} {x : Str} {u : Value} {pos : Pos} {Q : Value → Shared → Prop} (I : Inv X pins σ H s) (hg : Gl X x) (hm : X.mg x = none) (hv : bootBuiltins x = some u) (h : Q u s)
    (hn : x ≠ "__name__" := by decide) (hd : (x == ("__debug__" : Str)) = false := by decide) : wpAny (model X.prog X.w) X.A (eval (.Name x pos) X.env) Q E s := by
  obtain ⟨mb, h1, h2⟩ := I.mod.blt
  exact Calls.Name_function_global I.ok.kind hg (Calls.loadGlobal_builtin (by rw [I.ok.glob]; exact I.mod.glob.keeps I.bk) hm (by rw [I.ok.blt]; exact h1.keeps I.bk) ((h2 x hn).trans hv) h) hd
/-- a module's constant, a class, a function, as a value -/
theorem pe_glob {x : Str} {v : V} {u : Value} {pos : Pos} (hg : Gl X x) (hm : X.mg x = some u) (r : RelV v u) (hd : (x == ("__debug__" : Str)) = false := by decide) : PE X (.Name x pos) (tC v) :=
  fun _ _ _ H _ I h => ld_glob I hg hm ⟨v, H, I, r, h⟩ hd

/-! ### arithmetic -/
variable {a b : Expr} {ta tb : TE} {pos : Pos}

/-! ### comparisons -/
def PC (X : Cx) (op : CmpOp) (a b : Expr) (t : TE) : Prop :=
  ∀ (pins : List (Addr × Obj)) (s : Shared) (σ : St) (H : Hp) (Q : VK), Inv X pins σ H s → t σ H Q →
    wpAny (model X.prog X.w) X.A (eval a X.env) (fun v s₁ => wpAny (model X.prog X.w) X.A (eval b X.env) (fun u s₂ => wpAny (model X.prog X.w) X.A (compareOp op v u) (EP X pins σ Q) X.xe s₂) X.xe s₁) X.xe s
theorem nobehind (b : Expr) {op : CmpOp} (h : op ≠ .In) (h2 : op ≠ .NotIn) : behindInMarks op b = false := by
  have e1 : (op == CmpOp.In) = false := by cases op <;> first | rfl | exact absurd rfl h
  have e2 : (op == CmpOp.NotIn) = false := by cases op <;> first | rfl | exact absurd rfl h2
  cases b <;> simp [behindInMarks, e1, e2]
/-- is None -/
def tIsN (ta : TE) : TE := fun σ H Q => ta σ H fun x H1 => Q (.bl (decide (x = .non))) H1
def tNotN (ta : TE) : TE := fun σ H Q => ta σ H fun x H1 => Q (.bl (!decide (x = .non))) H1
theorem RelV.none_iff {x : V} {v : Value} (r : RelV x v) : (v == Value.none) = decide (x = .non) := by
  cases x with
  | non => cases r; rfl
  | bl _ => cases r; rfl
  | int _ => obtain ⟨t, rfl⟩ := r; rfl
  | str _ => obtain ⟨t, rfl⟩ := r; rfl
  | byt _ => obtain ⟨t, rfl⟩ := r; rfl
  | flt _ => obtain ⟨t, rfl⟩ := r; rfl
  | ref _ => cases r; rfl
  | ty _ => cases r; rfl
theorem pc_isN {j pos'} (ha : PE X a ta) : PC X .Is a (.Constant .none j pos') (tIsN ta) := by
  intro pins s σ H Q I h
  refine thn (ha pins s σ H _ I h) fun v s1 ⟨x, H1, I1, r1, q1⟩ => ?_
  exact Constant_none (is_none_gen ⟨.bl _, H1, I1, by rw [r1.none_iff]; rfl, q1⟩)
theorem pc_notN {j pos'} (ha : PE X a ta) : PC X .IsNot a (.Constant .none j pos') (tNotN ta) := by
  intro pins s σ H Q I h
  refine thn (ha pins s σ H _ I h) fun v s1 ⟨x, H1, I1, r1, q1⟩ => ?_
  exact Constant_none (isnot_none_gen ⟨.bl _, H1, I1, by rw [r1.none_iff]; rfl, q1⟩)
/-- a comparison as a value, as a test -/
def tB (t : TE) : TT := fun σ H Q => t σ H fun x H1 => ∃ c, x = .bl c ∧ Q c H1
theorem pt_cmp {op : CmpOp} {t : TE} (h : PC X op a b t) (h1 : behindInMarks op b = false := by first | exact nobehind _ (by decide) (by decide) | rfl) : PT X (.Compare a [op] [b] pos) (tB t) := by
  intro pins s σ H Q I hw
  refine wpAny_isTrue_Compare1 (thn (h pins s σ H _ I hw) fun v s1 h1 => thn h1 fun u s2 h2 => thn h2 fun c s3 ⟨x, H1, I1, r1, q1⟩ => ?_) h1
  obtain ⟨d, rfl, q⟩ := q1
  cases r1
  exact wpAny_truthy_bool ⟨H1, I1, q⟩
/-- an expression whose value is a bool, as a test -/
theorem pt_val {e : Expr} {t : TE} (h : PE X e t) (he : ∀ whole, isTrue e X.env whole = (do let v ← whole; standAt e.pos; holding [v] (truthy v)) := by intro _; rfl) : PT X e (tB t) := by
  intro pins s σ H Q I hw
  refine isTrue_plain (thn (h pins s σ H _ I hw) fun v s1 ⟨x, H1, I1, r1, q1⟩ => ?_) (he _)
  obtain ⟨d, rfl, q⟩ := q1
  cases r1
  exact wpAny_truthy_bool ⟨H1, I1, q⟩

/-! ### and, or, not -/
variable {tA tB' : TT} {rest : List Expr}
def tAnd (t u : TT) : TT := fun σ H Q => t σ H fun c H1 => if c = true then u σ H1 Q else Q false H1
def tOr (t u : TT) : TT := fun σ H Q => t σ H fun c H1 => if c = true then Q true H1 else u σ H1 Q
def tNot (t : TT) : TT := fun σ H Q => t σ H fun c H1 => Q (!c) H1
theorem pw_and1 (ha : PT X a tA) : PW X (.BoolOp .And [a] pos) tA := by
  intro wh pins s σ H Q I h
  refine isTrue_and (thn (ha pins s σ H Q I h) fun c s1 e => ?_)
  cases c with
  | true => exact isTrue_and_nil e
  | false => exact e
theorem pw_or1 (ha : PT X a tA) : PW X (.BoolOp .Or [a] pos) tA := by
  intro wh pins s σ H Q I h
  refine isTrue_or (thn (ha pins s σ H Q I h) fun c s1 e => ?_)
  cases c with
  | false => exact isTrue_or_nil e
  | true => exact e
theorem pw_and (ha : PT X a tA) (hb : PW X (.BoolOp .And (b :: rest) pos) tB') : PW X (.BoolOp .And (a :: b :: rest) pos) (tAnd tA tB') := by
  intro wh pins s σ H Q I h
  refine isTrue_and (thn (ha pins s σ H _ I h) fun c s1 ⟨H1, I1, q1⟩ => ?_)
  cases c with
  | true => exact hb wh pins s1 σ H1 Q I1 q1
  | false => exact ⟨H1, I1, q1⟩
theorem pw_or (ha : PT X a tA) (hb : PW X (.BoolOp .Or (b :: rest) pos) tB') : PW X (.BoolOp .Or (a :: b :: rest) pos) (tOr tA tB') := by
  intro wh pins s σ H Q I h
  refine isTrue_or (thn (ha pins s σ H _ I h) fun c s1 ⟨H1, I1, q1⟩ => ?_)
  cases c with
  | true => exact ⟨H1, I1, q1⟩
  | false => exact hb wh pins s1 σ H1 Q I1 q1
theorem pt_not (ha : PT X a tA) : PT X (.UnaryOp .Not a pos) (tNot tA) := by
  intro pins s σ H Q I h
  exact isTrue_not (ha pins s σ H (fun c H1 => Q (!c) H1) I h)
/-- .. as values (bools) -/
def tAndV (ta tb : TE) : TE := fun σ H Q => ta σ H fun x H1 => ∃ c, x = .bl c ∧ if c = true then tb σ H1 Q else Q (.bl false) H1
def tNotV (ta : TE) : TE := fun σ H Q => ta σ H fun x H1 => ∃ c, x = .bl c ∧ Q (.bl (!c)) H1
theorem pe_one {op} {t : TE} (h : PE X a t) : PE X (.BoolOp op [a] pos) t := fun pins s σ H Q I hw => BoolOp_one (h pins s σ H Q I hw)
theorem pe_and (ha : PE X a ta) (hb : PE X (.BoolOp .And (b :: rest) pos) tb) : PE X (.BoolOp .And (a :: b :: rest) pos) (tAndV ta tb) := by
  intro pins s σ H Q I h
  refine BoolOp_and (thn (ha pins s σ H _ I h) fun v s1 ⟨x, H1, I1, r1, q1⟩ => ?_)
  obtain ⟨c, rfl, q1⟩ := q1
  cases r1
  refine wpAny_truthy_bool ?_
  cases c with
  | true => exact hb pins s1 σ H1 Q I1 q1
  | false => exact ⟨.bl false, H1, I1, rfl, q1⟩
theorem pe_not (ha : PE X a ta) : PE X (.UnaryOp .Not a pos) (tNotV ta) := by
  intro pins s σ H Q I h
  refine UnaryOp_ (thn (ha pins s σ H _ I h) fun v s1 ⟨x, H1, I1, r1, q1⟩ => ?_)
  obtain ⟨c, rfl, q1⟩ := q1
  cases r1
  exact not_of (wpAny_truthy_bool ⟨.bl (!c), H1, I1, rfl, q1⟩)
end

/-! ### a list, a tuple that is read: tracked, frozen, or an object of the module -/
def SqL (K : PySem.W.Frag) (H : Hp) (a : Addr) (xs : List V) : Prop :=
  Rd H a (.lst xs) ∨
    ∃ (o : Obj) (its : Array Value) (n : Nat), K.lookup a = some o ∧ o.cls = .type "list" ∧ o.dict = none ∧ o.data = .seq its n ∧ its.size ≤ sizeLine ∧ Vals xs its.toList
def SqT (K : PySem.W.Frag) (H : Hp) (a : Addr) (xs : List V) : Prop :=
  Rd H a (.tup xs) ∨
    ∃ (o : Obj) (its : Array Value) (n : Nat), K.lookup a = some o ∧ o.cls = .type "tuple" ∧ o.data = .seq its n ∧ its.size ≤ sizeLine ∧ Vals xs its.toList
def absV : Value → Option V
  | .none => some .non
  | .bool b => some (.bl b)
  | .int i _ => some (.int i)
  | .str x _ => some (.str x)
  | .bytes b _ => some (.byt b)
  | .float b _ => some (.flt b)
  | .ref a => some (.ref a)
  | .type n => some (.ty n)
  | _ => none
theorem RelV.abs {x : V} {u : Value} (r : RelV x u) : absV u = some x := by
  cases x with
  | non => cases r; rfl
  | bl _ => cases r; rfl
  | int _ => obtain ⟨t, rfl⟩ := r; rfl
  | str _ => obtain ⟨t, rfl⟩ := r; rfl
  | byt _ => obtain ⟨t, rfl⟩ := r; rfl
  | flt _ => obtain ⟨t, rfl⟩ := r; rfl
  | ref _ => cases r; rfl
  | ty _ => cases r; rfl
theorem RelV.inj {x y : V} {u : Value} (r : RelV x u) (q : RelV y u) : x = y := Option.some.inj (r.abs.symm.trans q.abs)
theorem Vals.inj : ∀ {xs ys : List V} {us : List Value}, Vals xs us → Vals ys us → xs = ys
  | _, _, _, .nil, .nil => rfl
  | _, _, _, .cons r t, .cons r' t' => by rw [r.inj r', Vals.inj t t']
section
variable {X : Cx} {pins : List (Addr × Obj)} {σ : St} {H : Hp} {s : Shared} {a : Addr} {xs ys : List V}
theorem Inv.list (I : Inv X pins σ H s) (h : SqL X.K H a xs) : ∃ its : List Value, Vals xs its ∧ PlainL s.heap a its.toArray ∧ xs.length ≤ sizeLine := by
  rcases h with h | ⟨o, its, n, hk, hc, hd, hs, hz, r⟩
  · obtain ⟨z, its, n, r, e⟩ := h.ok I.hok
    exact ⟨its, r, ⟨_, n, e, rfl, rfl, rfl⟩, z⟩
  · refine ⟨its.toList, r, ⟨o, n, I.kIn a o hk, hc, hd, by simpa using hs⟩, ?_⟩
    have e := r.length
    simp only [Array.length_toList] at e
    lia
theorem Inv.tuple (I : Inv X pins σ H s) (h : SqT X.K H a xs) : ∃ its : List Value, Vals xs its ∧ IsTup s.heap a its.toArray ∧ xs.length ≤ sizeLine := by
  rcases h with h | ⟨o, its, n, hk, hc, hs, hz, r⟩
  · obtain ⟨z, its, r, p⟩ := h.ok I.hok
    exact ⟨its, r, p, z⟩
  · refine ⟨its.toList, r, ⟨o, I.kIn a o hk, hc, n, by simpa using hs⟩, ?_⟩
    have e := r.length
    simp only [Array.length_toList] at e
    lia
theorem Inv.list_inj (I : Inv X pins σ H s) (h : SqL X.K H a xs) (h' : SqL X.K H a ys) : xs = ys := by
  obtain ⟨its, r, ⟨o, n, e, _, _, d⟩, _⟩ := I.list h
  obtain ⟨its', r', ⟨o', n', e', _, _, d'⟩, _⟩ := I.list h'
  rw [e] at e'; cases e'
  rw [d] at d'
  injection d' with d1 _
  have : its = its' := by simpa using congrArg Array.toList d1
  subst this
  exact r.inj r'
theorem Inv.tuple_inj (I : Inv X pins σ H s) (h : SqT X.K H a xs) (h' : SqT X.K H a ys) : xs = ys := by
  obtain ⟨its, r, ⟨o, e, _, n, d⟩, _⟩ := I.tuple h
  obtain ⟨its', r', ⟨o', e', _, n', d'⟩, _⟩ := I.tuple h'
  rw [e] at e'; cases e'
  rw [d] at d'
  injection d' with d1 _
  have : its = its' := by simpa using congrArg Array.toList d1
  subst this
  exact r.inj r'
end

/-! ### another wish about exceptions -/
abbrev Cx.wish (X : Cx) (E : Value → Shared → Prop) : Cx := { X with xe := E }
/-- no exception leaves -/
abbrev Cx.nox (X : Cx) : Cx := X.wish fun _ _ => False
theorem Cx.Ok.wish {X : Cx} (ok : X.Ok) (E : Value → Shared → Prop) : (X.wish E).Ok :=
  ⟨ok.mod, ok.kind, ok.glob, ok.blt, ok.above, ok.inj, ok.has, ok.cab, ok.hd, ok.frames, ok.stk, ok.exf, ok.bs, ok.bsz, ok.noex, ok.exfs, ok.funs, ok.frf⟩
theorem Cx.Ok.unwish {X : Cx} {E : Value → Shared → Prop} (ok : (X.wish E).Ok) : X.Ok :=
  ⟨ok.mod, ok.kind, ok.glob, ok.blt, ok.above, ok.inj, ok.has, ok.cab, ok.hd, ok.frames, ok.stk, ok.exf, ok.bs, ok.bsz, ok.noex, ok.exfs, ok.funs, ok.frf⟩
section
variable {X : Cx} {pins : List (Addr × Obj)} {σ : St} {H : Hp} {s : Shared} {E : Value → Shared → Prop}
theorem Inv.wish (I : Inv X pins σ H s) (E : Value → Shared → Prop) : Inv (X.wish E) pins σ H s := ⟨I.ok.wish E, I.os, I.bare, I.base, I.loc, I.cell, I.free, I.freeC, I.pin, I.hok, I.len⟩
theorem Inv.unwish (I : Inv (X.wish E) pins σ H s) : Inv X pins σ H s := ⟨I.ok.unwish, I.os, I.bare, I.base, I.loc, I.cell, I.free, I.freeC, I.pin, I.hok, I.len⟩
theorem SP.unwish {D : Ends} {f : Flow} {s' : Shared} (h : SP (X.wish E) pins D f s') : SP X pins D f s' := by
  cases f with
  | next => obtain ⟨σ', H', I, q⟩ := h; exact ⟨σ', H', I.unwish, q⟩
  | brk => obtain ⟨σ', H', I, q⟩ := h; exact ⟨σ', H', I.unwish, q⟩
  | cont => obtain ⟨σ', H', I, q⟩ := h; exact ⟨σ', H', I.unwish, q⟩
  | ret u => obtain ⟨v, σ', H', I, r, q⟩ := h; exact ⟨v, σ', H', I.unwish, r, q⟩
theorem PSs.nox {st : List Stmt} {t : TS} (h : PSs X.nox st t) : PSs X st t := fun pins s σ H D I hw =>
  wpAny_mono (h pins s σ H D (I.wish _) hw) (fun _ _ q => q.unwish) fun _ _ z => False.elim z
end

/-! ### blocks and small statements -/
section
variable {X : Cx} {st : Stmt} {rest : List Stmt} {t u : TS} {e : Expr} {te : TE} {pos : Pos}
def tNext : TS := fun D σ H => D.nx σ H
def tSeq (t u : TS) : TS := fun D σ H => t { D with nx := u D } σ H
theorem pss_nil : PSs X [] tNext := fun _ _ σ H _ I h => wpAny_execs_nil ⟨σ, H, I, h⟩
theorem pss_cons (h1 : PS X st t) (h2 : PSs X rest u) : PSs X (st :: rest) (tSeq t u) := by
  intro pins s σ H D I h
  refine wpAny_execs_cons (thn (h1 pins s σ H { D with nx := u D } I h) fun f s1 q => ?_)
  cases f with
  | next =>
    obtain ⟨σ', H', I', q⟩ := q
    exact h2 pins s1 σ' H' D I' q
  | ret v => exact q
  | brk => exact q
  | cont => exact q
/-- in a def's body nothing is shown -/
theorem Inv.quiet {pins : List (Addr × Obj)} {σ : St} {H : Hp} {s : Shared} (I : Inv X pins σ H s) : interactive X.env = false := by simp [interactive, I.ok.kind]
/-- an expression whose value is dropped -/
def tDrop (te : TE) : TS := fun D σ H => te σ H fun _ H1 => D.nx σ H1
theorem ps_expr (he : PE X e te) (hs : swapsWith e none pos.line X.env = pure false := by rfl) : PS X (.Expr e pos) (tDrop te) := by
  intro pins s σ H D I h
  exact wpAny_Expr_any (thn (he pins s σ H _ I h) fun v s1 ⟨x, H1, I1, r1, q1⟩ => ⟨σ, H1, I1, q1⟩) I.quiet hs
def tRet (te : TE) : TS := fun D σ H => te σ H D.rt
theorem ps_ret (he : PE X e te) : PS X (.Return (some e) pos) (tRet te) := by
  intro pins s σ H D I h
  exact wpAny_Return_some (thn (he pins s σ H _ I h) fun v s1 ⟨x, H1, I1, r1, q1⟩ => ⟨x, σ, H1, I1, r1, q1⟩)
def tIfS (c : TT) (t u : TS) : TS := fun D σ H => c σ H fun b H1 => if b = true then t D σ H1 else u D σ H1
theorem ps_if {c : Expr} {a b : List Stmt} {tc : TT} (hc : PT X c tc) (ha : PSs X a t) (hb : PSs X b u) : PS X (.If c a b pos) (tIfS tc t u) := by
  intro pins s σ H D I h
  refine wpAny_If (thn (hc pins s σ H _ I h) fun d s1 ⟨H1, I1, q1⟩ => ?_)
  cases d with
  | true => exact ha pins s1 σ H1 D I1 q1
  | false => exact hb pins s1 σ H1 D I1 q1
end

/-! ### targets -/
abbrev TG := V → St → Hp → (St → Hp → Prop) → Prop
abbrev TGs := List V → St → Hp → (St → Hp → Prop) → Prop
def PG (X : Cx) (target : Expr) (t : TG) : Prop :=
  ∀ (pins : List (Addr × Obj)) (s : Shared) (σ : St) (H : Hp) (v : V) (u : Value) (Q : St → Hp → Prop), Inv X pins σ H s → RelV v u → t v σ H Q →
    wpAny (model X.prog X.w) X.A (assign target X.env u) (fun _ s' => ∃ σ' H', Inv X pins σ' H' s' ∧ Q σ' H') X.xe s
/-- several targets, one after another -/
def PGs (X : Cx) (ts : List Expr) (t : TGs) : Prop :=
  ∀ (pins : List (Addr × Obj)) (s : Shared) (σ : St) (H : Hp) (vs : List V) (us : List Value) (Q : St → Hp → Prop), Inv X pins σ H s → Vals vs us → t vs σ H Q →
    wpAny (model X.prog X.w) X.A (assignInOrder ((assignEach ts X.env).map (·.2)) us) (fun _ s' => ∃ σ' H', Inv X pins σ' H' s' ∧ Q σ' H') X.xe s
/-- o[i] = v, by values -/
abbrev TSet := V → V → V → Hp → (Hp → Prop) → Prop
def PSet (X : Cx) (t : TSet) : Prop :=
  ∀ (pins : List (Addr × Obj)) (s : Shared) (σ : St) (H : Hp) (o i v : V) (ov iv u : Value) (Q : Hp → Prop), Inv X pins σ H s → RelV o ov → RelV i iv → RelV v u → t o i v H Q →
    wpAny (model X.prog X.w) X.A (setItem ov iv u) (fun _ s' => ∃ H', Inv X pins σ H' s' ∧ Q H') X.xe s
section
variable {X : Cx} {pos : Pos}
def gName (i : Nat) : TG := fun v σ H Q => Q (σ.set i (some v)) H
theorem pg_name {i : Nat} {x : Str} (hN : X.N.Nodup) (hi : X.N[i]? = some x) (hx : Loc X.env.scope x) (hf : X.fn x = true ∨ X.env.scope.names.lookup x = some .local := by first | exact .inl rfl | exact .inr rfl | assumption) : PG X (.Name x pos) (gName i) := by
  intro pins s σ H v u Q I r h
  exact wpAny_assign_Name (store_ok I hN hi hx r (fun s' I' => ⟨_, H, I', h⟩) hf)
def gNil : TGs := fun vs σ H Q => vs = [] ∧ Q σ H
def gCons (t : TG) (u : TGs) : TGs := fun vs σ H Q => ∃ v r, vs = v :: r ∧ t v σ H fun σ' H' => u r σ' H' Q
theorem pgs_nil : PGs X [] gNil := by
  intro pins s σ H vs us Q I r h
  obtain ⟨e, h⟩ := h
  subst e
  cases r
  exact assignInOrder_nil ⟨σ, H, I, h⟩
theorem pgs_cons {e : Expr} {es : List Expr} {t : TG} {u : TGs} (h1 : PG X e t) (h2 : PGs X es u)
    (hs : (assignEach (e :: es) X.env).map (·.2) = assign e X.env :: (assignEach es X.env).map (·.2) := by rfl) : PGs X (e :: es) (gCons t u) := by
  intro pins s σ H vs us Q I r h
  obtain ⟨v, vr, e1, h⟩ := h
  subst e1
  cases r with
  | cons r rr =>
    rw [hs]
    refine assignInOrder_cons (thn (h1 pins s σ H _ _ _ I r h) fun _ s1 ⟨σ1, H1, I1, q1⟩ => ?_)
    exact h2 pins s1 σ1 H1 _ _ Q I1 rr q1
/-- (a, b, ..) = a tuple of that length -/
def gTup (K : PySem.W.Frag) (n : Nat) (t : TGs) : TG := fun v σ H Q => ∃ a xs, v = .ref a ∧ SqT K H a xs ∧ xs.length = n ∧ t xs σ H Q
theorem pg_tup {es : List Expr} {k : Nat} {t : TGs} {n : Nat} (hc : X.calm = true) (h : PGs X es t)
    (hn : (assignEach es X.env).length = n := by rfl) (hst : (assignEach es X.env).findIdx? (·.1) = none := by rfl) : PG X (.Tuple es k pos) (gTup X.K n t) := by
  intro pins s σ H v u Q I r hw
  obtain ⟨a, xs, e1, hq, hl, hw⟩ := hw
  subst e1
  cases r
  obtain ⟨its, rv, ht, hz⟩ := I.tuple hq
  refine assign_Tuple_tuple (I.ok.hd hc) ht (by simp [hn, ← hl, rv.length]) hst fun h' hx => ?_
  have I1 : Inv X pins σ H { s with heap := h' } := I.kept (t' := s.toks) fun b o e => hx b o (Nat.ne_of_lt (Heap.lt_size e)) e
  exact h pins _ σ H xs _ Q I1 (by simpa using rv) hw
/-- o[i] = .. -/
def gSub (to ti : TE) (t : TSet) : TG := fun v σ H Q => to σ H fun o H1 => ti σ H1 fun i H2 => t o i v H2 fun H3 => Q σ H3
theorem pg_sub {o i : Expr} {to ti : TE} {t : TSet} (ho : PE X o to) (hi : PE X i ti) (hs : PSet X t)
    (ha : ∀ v, assign (.Subscript o i pos) X.env v = (do
      let ov ← holding [v] (eval o X.env)
      let iv ← holding [v, ov] (eval i X.env)
      standAt pos
      holding [v, ov, iv] (setItem ov iv v)
      release [v, ov, iv] []) := by intro _; rfl) : PG X (.Subscript o i pos) (gSub to ti t) := by
  intro pins s σ H v u Q I r h
  rw [ha]
  refine wpAny_bind (wpAny_holding (thn (ho pins s σ H _ I h) fun ov s1 ⟨x, H1, I1, r1, q1⟩ => ?_))
  refine wpAny_bind (wpAny_holding (thn (hi pins s1 σ H1 _ I1 q1) fun iv s2 ⟨y, H2, I2, r2, q2⟩ => ?_))
  refine wpAny_bind (wpAny_standAt (wpAny_bind (wpAny_holding (thn (hs pins s2 σ H2 x y v ov iv u _ I2 r1 r2 r q2) fun _ s3 ⟨H3, I3, q3⟩ => ?_))))
  exact wpAny_release ⟨σ, H3, I3, q3⟩
/-- target = value -/
def tAsg (te : TE) (g : TG) : TS := fun D σ H => te σ H fun x H1 => g x σ H1 D.nx
theorem ps_asg {tg e : Expr} {te : TE} {g : TG} (he : PE X e te) (hg : PG X tg g) (hs : swapsWithSole [tg] e pos.line X.env = pure false := by rfl) (hw : swappedStores [tg] e X.env = pure none := by rfl)
    (h1 : (assignEach [tg] X.env).map (·.2) = [assign tg X.env] := by rfl) : PS X (.Assign [tg] e pos) (tAsg te g) := by
  intro pins s σ H D I h
  refine wpAny_Assign_stores (thn (he pins s σ H _ I h) fun v s1 ⟨x, H1, I1, r1, q1⟩ => ?_) hs hw
  rw [h1]
  exact thn (hg pins s1 σ H1 x v _ I1 r1 q1) fun _ s2 q => q
/-- name = value -/
theorem ps_set {i : Nat} {x : Str} {e : Expr} {te : TE} {pos' : Pos} (hN : X.N.Nodup) (hi : X.N[i]? = some x) (hx : Loc X.env.scope x) (he : PE X e te) (hs : swapsWith e (some (.Name x pos')) pos.line X.env = pure false := by rfl) (hf : X.fn x = true ∨ X.env.scope.names.lookup x = some .local := by first | exact .inl rfl | exact .inr rfl | assumption) :
    PS X (.Assign [.Name x pos'] e pos) (tAsg te (gName i)) := by
  intro pins s σ H D I h
  refine wpAny_Assign_Name (thn (he pins s σ H _ I h) fun v s1 ⟨y, H1, I1, r1, q1⟩ => ?_) hs
  exact store_ok I1 hN hi hx r1 (fun s2 I2 => ⟨_, H1, I2, q1⟩) hf
end

/-! ### what a loop or a comprehension walks -/
/-- at turn i: it yields x (the heap may grow), or it stops -/
structure It where
  go : Nat → Hp → Prop
  yld : Nat → Hp → V → Hp → Prop
  stop : Nat → Hp → Prop
/-- the iterator's own objects may turn: they are not the frame's, not pinned, younger than the entry (or a comprehension's own) -/
def FpOk (X : Cx) (pins : List (Addr × Obj)) (H : Hp) (b : Addr) : Prop :=
  H b = none ∧ b ≠ X.env.locals ∧ b ∉ X.fs ∧ (b ∈ X.ex ∨ X.s₀.heap.objs.size ≤ b) ∧ (∀ x c, X.env.cells.lookup x = some c → c ≠ b) ∧ ∀ p ∈ X.pn ++ pins, p.1 ≠ b
theorem Inv.fpOk {X : Cx} {pins : List (Addr × Obj)} {σ : St} {H H' : Hp} {s : Shared} {b : Addr} (I : Inv X pins σ H s) (hb : s.heap.objs.size ≤ b) (hn : H' b = none) : FpOk X pins H' b := by
  refine ⟨hn, Nat.ne_of_gt (Nat.lt_of_lt_of_le I.lt hb), I.nofs hb, .inr (Nat.le_trans I.sz hb), fun x c e z => ?_, fun p hp z => ?_⟩
  · obtain ⟨v, q⟩ := I.cell x c e
    exact absurd (Nat.lt_of_lt_of_le q.lt (by rw [z]; exact hb)) (Nat.lt_irrefl _)
  · exact absurd (Nat.lt_of_lt_of_le (Heap.lt_size (I.pin p hp).1) (by rw [z]; exact hb)) (Nat.lt_irrefl _)
structure Turn (P : Program) (w : World) (K : PySem.W.Frag) (tg : Expr) (J : It) (fp : List Addr) (it : Addr) (tn : Nat → Heap → Prop) : Prop where
  mem : it ∈ fp
  obj : ∀ i h, tn i h → ∀ b ∈ fp, ∃ o, h.get? b = some o ∧ ∀ v, o.data ≠ .cell v
  keep : ∀ i h h', tn i h → (∀ b ∈ fp, ∀ o, h.get? b = some o → h'.get? b = some o) → tn i h'
  item : ∀ (X : Cx), X.prog = P → X.w = w → X.K = K → X.calm = true → ∀ (i : Nat) (pins : List (Addr × Obj)) (s : Shared) (σ : St) (H : Hp) (E : Value → Shared → Prop), Inv X pins σ H s → (∀ b ∈ fp, FpOk X pins H b) → tn i s.heap → J.go i H →
    wpAny (model P w) X.A (pyNext (.ref it)) (fun r s1 => ∃ u, r = some u ∧
      wpAny (model P w) X.A (letOwnedTupleGo tg (.ref it) u) (fun _ s2 => ∃ x H', Inv X pins σ H' s2 ∧ RelV x u ∧ J.yld i H x H' ∧ tn (i + 1) s2.heap ∧ ∀ b ∈ fp, H' b = none) E s1) E s
  done : ∀ (X : Cx), X.prog = P → X.w = w → X.K = K → X.calm = true → ∀ (i : Nat) (pins : List (Addr × Obj)) (s : Shared) (σ : St) (H : Hp) (E : Value → Shared → Prop), Inv X pins σ H s → (∀ b ∈ fp, FpOk X pins H b) → tn i s.heap → J.stop i H →
    wpAny (model P w) X.A (pyNext (.ref it)) (fun r s1 => r = none ∧ Inv X pins σ H s1) E s
  self : ∀ (A : Around) (i : Nat) (s : Shared) (Q : Value → Shared → Prop) (E : Value → Shared → Prop), tn i s.heap → Q (.ref it) s → wpAny (model P w) A (pyIter (.ref it)) Q E s
abbrev TI := St → Hp → (It → Hp → Prop) → Prop
/-- an iterator has come -/
def PIE (X : Cx) (pins : List (Addr × Obj)) (σ : St) (tg : Expr) (R : It → Hp → Prop) (itv : Value) (s2 : Shared) : Prop :=
  ∃ (it : Addr) (fp : List Addr) (tn : Nat → Heap → Prop) (J : It) (H' : Hp), itv = .ref it ∧ Inv X pins σ H' s2 ∧ Turn X.prog X.w X.K tg J fp it tn ∧ tn 0 s2.heap ∧ (∀ b ∈ fp, FpOk X pins H' b) ∧ R J H'
def PI (X : Cx) (tg iter : Expr) (wi : TI) : Prop :=
  ∀ (pins : List (Addr × Obj)) (s : Shared) (σ : St) (H : Hp) (R : It → Hp → Prop), Inv X pins σ H s → wi σ H R →
    wpAny (model X.prog X.w) X.A (eval iter X.env) (fun v s1 => wpAny (model X.prog X.w) X.A (pyIter v) (PIE X pins σ tg R) X.xe s1) X.xe s

/-- the step ahead of the store is nothing for an iterator that keeps no tuple -/
theorem go_of {M : Model} {A : Around} {E : Value → Shared → Prop} {s : Shared} {tg : Expr} {it : Addr} {u : Value} {o : Obj} {n : String} {vs : Array Value} {Q : Unit → Shared → Prop} (ho : s.heap.get? it = some o) (hc : o.cls = .type n) (hd : o.data = .fields vs)
    (hn : ["enumerate", "zip", "dict_itemiterator", "dict_reverseitemiterator", "odict_iterator", "itertools.zip_longest", "itertools.pairwise"].contains n = false) (hQ : Q () s) : wpAny M A (letOwnedTupleGo tg (.ref it) u) Q E s := by
  unfold letOwnedTupleGo
  cases tg <;> first
    | exact wpAny_pure hQ
    | (cases u <;> first
        | exact wpAny_pure hQ
        | (refine wpAny_bind (wpAny_load ho ?_)
           rw [hc, hd]
           show wpAny M A (if (["enumerate", "zip", "dict_itemiterator", "dict_reverseitemiterator", "odict_iterator", "itertools.zip_longest", "itertools.pairwise"].contains n && vs[0]? == some (rawInt _)) = true then _ else _) Q E s
           rw [if_neg (by intro h; rw [hn, Bool.false_and] at h; cases h)]
           exact wpAny_pure hQ))

/-- the list at a, as it stands at each turn (a loop may append to it) -/
def Itl (K : PySem.W.Frag) (a : Addr) : It :=
  ⟨fun i H => ∃ xs x, SqL K H a xs ∧ xs[i]? = some x, fun i H x H' => H' = H ∧ ∀ xs, SqL K H a xs → xs[i]? = some x, fun i H => ∃ xs, SqL K H a xs ∧ xs.length ≤ i⟩
def Itt (K : PySem.W.Frag) (a : Addr) : It :=
  ⟨fun i H => ∃ xs x, SqT K H a xs ∧ xs[i]? = some x, fun i H x H' => H' = H ∧ ∀ xs, SqT K H a xs → xs[i]? = some x, fun i H => ∃ xs, SqT K H a xs ∧ xs.length ≤ i⟩
/-- lo, lo + 1, .. (n of them) -/
def Itr (lo : Int) (n : Nat) : It := ⟨fun i _ => i < n, fun i H x H' => H' = H ∧ x = .int (lo + i), fun i _ => n ≤ i⟩
theorem turn_list {P : Program} {w : World} {K : PySem.W.Frag} {tg : Expr} (a it : Addr) : Turn P w K tg (Itl K a) [it] it (fun i h => h.IsListIter it a i) where
  mem := by simp
  obj := fun i h st b hb => by
    have e : b = it := by simpa using hb
    subst e
    obtain ⟨o, e, c, d⟩ := st
    exact ⟨o, e, fun v z => by rw [d] at z; cases z⟩
  keep := fun i h h' st k => st.at fun o e => k it (by simp) o e
  item := by
    intro X hP hw hK hc i pins s σ H E I hf st hg
    subst hP hw hK
    obtain ⟨xs, x, hq, hx⟩ := hg
    obtain ⟨its, rv, p, hz⟩ := I.list hq
    obtain ⟨u, hu, ru⟩ := rv.get hx
    obtain ⟨f0, f1, f2, f3, f4, f5⟩ := hf it (by simp)
    refine wpAny_pyNext_list_item st p.isList (x := u) (by simpa using hu) fun h' st' sb => ?_
    have I1 : Inv X pins σ H { s with heap := h' } := I.turned (t' := s.toks) (fun b o hb e => (sb.2 b hb).trans e) f0 f1 f3 f4 f5
    obtain ⟨o, e, c, d⟩ := id st'
    exact ⟨u, rfl, go_of (s := { s with heap := h' }) e c d (by decide) ⟨x, H, I1, ru, ⟨rfl, fun ys hy => by rw [I.list_inj hy hq]; exact hx⟩, st', fun b hb => (hf b hb).1⟩⟩
  done := by
    intro X hP hw hK hc i pins s σ H E I hf st hg
    subst hP hw hK
    obtain ⟨xs, hq, hx⟩ := hg
    obtain ⟨its, rv, p, hz⟩ := I.list hq
    obtain ⟨f0, f1, f2, f3, f4, f5⟩ := hf it (by simp)
    have hl := rv.length
    exact wpAny_pyNext_list_end (I.ok.hd hc) st p.isList (by simp; lia) fun h' eb => ⟨rfl, I.turned (t' := s.toks) (fun b o hb e => eb b o hb e) f0 f1 f3 f4 f5⟩
  self := fun _ _ _ _ _ st h => wpAny_pyIter_listiter st h
theorem turn_tuple {P : Program} {w : World} {K : PySem.W.Frag} {tg : Expr} (a it : Addr) : Turn P w K tg (Itt K a) [it] it (fun i h => h.IsTupleIter it a i) where
  mem := by simp
  obj := fun i h st b hb => by
    have e : b = it := by simpa using hb
    subst e
    obtain ⟨o, e, c, d⟩ := st
    exact ⟨o, e, fun v z => by rw [d] at z; cases z⟩
  keep := fun i h h' st k => st.at fun o e => k it (by simp) o e
  item := by
    intro X hP hw hK hc i pins s σ H E I hf st hg
    subst hP hw hK
    obtain ⟨xs, x, hq, hx⟩ := hg
    obtain ⟨its, rv, p, hz⟩ := I.tuple hq
    obtain ⟨u, hu, ru⟩ := rv.get hx
    obtain ⟨f0, f1, f2, f3, f4, f5⟩ := hf it (by simp)
    refine wpAny_pyNext_tuple_item st (show s.heap.IsTuple a its.toArray from p) (x := u) (by simpa using hu) fun h' st' sb => ?_
    have I1 : Inv X pins σ H { s with heap := h' } := I.turned (t' := s.toks) (fun b o hb e => (sb.2 b hb).trans e) f0 f1 f3 f4 f5
    obtain ⟨o, e, c, d⟩ := id st'
    exact ⟨u, rfl, go_of (s := { s with heap := h' }) e c d (by decide) ⟨x, H, I1, ru, ⟨rfl, fun ys hy => by rw [I.tuple_inj hy hq]; exact hx⟩, st', fun b hb => (hf b hb).1⟩⟩
  done := by
    intro X hP hw hK hc i pins s σ H E I hf st hg
    subst hP hw hK
    obtain ⟨xs, hq, hx⟩ := hg
    obtain ⟨its, rv, p, hz⟩ := I.tuple hq
    obtain ⟨f0, f1, f2, f3, f4, f5⟩ := hf it (by simp)
    have hl := rv.length
    exact wpAny_pyNext_tuple_end (I.ok.hd hc) st (show s.heap.IsTuple a its.toArray from p) (by simp; lia) fun h' eb => ⟨rfl, I.turned (t' := s.toks) (fun b o hb e => eb b o hb e) f0 f1 f3 f4 f5⟩
  self := fun _ _ _ _ _ st h => wpAny_pyIter_tupleiter st h
theorem turn_range {P : Program} {w : World} {K : PySem.W.Frag} {tg : Expr} (it : Addr) (lo : Int) (n : Nat) : Turn P w K tg (Itr lo n) [it] it (fun i h => IsRangeIter h it (lo + (i : Nat) * 1) ((n : Int) - (i : Nat)) 1) where
  mem := by simp
  obj := fun i h st b hb => by
    have e : b = it := by simpa using hb
    subst e
    exact ⟨_, st, fun v z => by
      have z' : Data.fields _ = Data.cell v := z
      cases z'⟩
  keep := fun i h h' st k => k it (by simp) _ st
  item := by
    intro X hP hw hK hc i pins s σ H E I hf st hg
    subst hP hw hK
    obtain ⟨f0, f1, f2, f3, f4, f5⟩ := hf it (by simp)
    have W := Walks.range (prog := X.prog) (w := X.w) (I.ok.hd hc) it lo 1 n
    refine W.item i s _ _ hg st fun v h' tk hv st' kk => ?_
    obtain ⟨t, rfl⟩ := hv
    have I1 : Inv X pins σ H { s with heap := h', toks := tk } := I.turned (fun b o hb e => kk b o (by simpa using hb) e) f0 f1 f3 f4 f5
    refine ⟨_, rfl, go_of (s := { s with heap := h', toks := tk }) (n := "range_iterator") st' rfl rfl (by decide) ⟨.int (lo + i), H, I1, ⟨t, ?_⟩, ⟨rfl, rfl⟩, st', fun b hb => (hf b hb).1⟩⟩
    rw [Int.mul_one]
  done := by
    intro X hP hw hK hc i pins s σ H E I hf st hg
    subst hP hw hK
    obtain ⟨f0, f1, f2, f3, f4, f5⟩ := hf it (by simp)
    exact wpAny_pyNext_range_end (I.ok.hd hc) st (by have : n ≤ i := hg; lia) fun h' eb => ⟨rfl, I.turned (t' := s.toks) (fun b o hb e => eb b o hb e) f0 f1 f3 f4 f5⟩
  self := fun _ _ _ _ _ st h => wpAny_pyIter_rangeiter st h
section
variable {X : Cx} {tg : Expr}
theorem range_it {pins : List (Addr × Obj)} {σ : St} {H : Hp} {s : Shared} {R : It → Hp → Prop} {E : Value → Shared → Prop} {lo hi : Int} {t u v : Tok} {tk : Nat} (I : Inv X pins σ H s) (h1 : -(2 ^ 62) ≤ lo) (h2 : lo < 2 ^ 62) (h3 : -(2 ^ 62) ≤ hi) (h4 : hi < 2 ^ 62)
    (q : R (Itr lo (hi - lo).toNat) H) : wpAny (model X.prog X.w) X.A (pyIter (.ref s.heap.objs.size)) (PIE X pins σ tg R) E { s with heap := s.heap.push { cls := .type "range", data := .fields #[.int lo t, .int hi u, .int 1 v] }, toks := tk } := by
  refine wpAny_pyIter_range (IsRange.new ..) (small_one h1 h2 h3 h4) ?_
  have I1 : Inv X pins σ H { s with heap := s.heap.push { cls := .type "range", data := .fields #[.int lo t, .int hi u, .int 1 v] }, toks := tk } := I.kept fun b o e => Heap.get?_push_of_some _ e
  refine ⟨(s.heap.push { cls := .type "range", data := .fields #[.int lo t, .int hi u, .int 1 v] }).objs.size, [(s.heap.push { cls := .type "range", data := .fields #[.int lo t, .int hi u, .int 1 v] }).objs.size], _, _, H, rfl,
    I1.kept (t' := tk) fun b o e => Heap.get?_push_of_some _ e, turn_range _ lo (hi - lo).toNat, ?_, fun b hb => ?_, q⟩
  · have e1 : lo + ((0 : Nat) : Int) * 1 = lo := by simp
    have e2 : (((hi - lo).toNat : Nat) : Int) - ((0 : Nat) : Int) = Builtin.Range.rangeSize lo hi 1 := by rw [rangeSize_one]; split <;> lia
    show IsRangeIter _ _ (lo + ((0 : Nat) : Int) * 1) ((((hi - lo).toNat : Nat) : Int) - ((0 : Nat) : Int)) 1
    rw [e1, e2]
    exact Heap.get?_push_size _ rfl
  · have e : b = (s.heap.push { cls := .type "range", data := .fields #[.int lo t, .int hi u, .int 1 v] }).objs.size := by simpa using hb
    subst e
    exact I1.fpOk (Nat.le_refl _) (I1.hok.fresh (Nat.le_refl _))
def iRng1 (ta : TA) : TI := fun σ H R => ta σ H fun vs H1 => ∃ j : Int, vs = [.int j] ∧ -(2 ^ 62) ≤ j ∧ j < 2 ^ 62 ∧ R (Itr 0 j.toNat) H1
def iRng2 (ta : TA) : TI := fun σ H R => ta σ H fun vs H1 => ∃ i j : Int, vs = [.int i, .int j] ∧ (-(2 ^ 62) ≤ i ∧ i < 2 ^ 62 ∧ -(2 ^ 62) ≤ j ∧ j < 2 ^ 62) ∧ R (Itr i (j - i).toNat) H1
theorem pi_range1 {a : Expr} {ta : TA} {p pos : Pos} (hg : Gl X "range") (hm : X.mg "range" = none) (ha : PA X [a] ta) (hs : starEach [a] X.env = [(false, eval a X.env)] := by rfl) : PI X tg (.Call (.Name "range" p) [a] [] pos) (iRng1 ta) := by
  intro pins s σ H R I h
  refine Call_ (ld_blt I hg hm boot_range (PyProof.Rows.callWith_type1 (thn (ha pos pins s σ H _ I h) fun us s1 ⟨vs, H1, I1, r1, q1⟩ => ?_) hs rfl))
  obtain ⟨j, e, q1, q2, q⟩ := q1
  subst e
  cases r1 with
  | cons r rr =>
    cases rr
    obtain ⟨t, rfl⟩ := r
    exact call_range_1 (range_it I1 (by lia) (by lia) q1 q2 (by simpa using q))
theorem pi_range2 {a b : Expr} {ta : TA} {p pos : Pos} (hg : Gl X "range") (hm : X.mg "range" = none) (ha : PA X [a, b] ta) (hs : starEach [a, b] X.env = [(false, eval a X.env), (false, eval b X.env)] := by rfl) (hs2 : starEach [b] X.env = [(false, eval b X.env)] := by rfl) :
    PI X tg (.Call (.Name "range" p) [a, b] [] pos) (iRng2 ta) := by
  intro pins s σ H R I h
  refine Call_ (ld_blt I hg hm boot_range (PyProof.Rows.callWith_type1 (thn (ha pos pins s σ H _ I h) fun us s1 ⟨vs, H1, I1, r1, q1⟩ => ?_) (by rw [hs, hs2]) (by rw [hs2]; rfl)))
  obtain ⟨i, j, e, ⟨q1, q2, q3, q4⟩, q⟩ := q1
  subst e
  cases r1 with
  | cons r rr =>
    cases rr with
    | cons r' rr =>
      cases rr
      obtain ⟨t, rfl⟩ := r
      obtain ⟨t', rfl⟩ := r'
      exact call_range_2 (range_it I1 q1 q2 q3 q4 q)

/-! ### for -/
/-- W: the invariant by the turn and a measure; N: what the body is to reach -/
def tFor (wi : TI) (g : TG) (tb : TS) : TS := fun D σ H => wi σ H fun J H1 => ∃ W : Nat → Nat → St → Hp → Prop, (∃ m, W 0 m σ H1) ∧ ∀ i m σ H, W i m σ H →
  (J.stop i H ∧ D.nx σ H) ∨ (J.go i H ∧ ∃ N : St → Hp → Prop, (∀ σ' H', N σ' H' → ∃ m', m' < m ∧ W (i + 1) m' σ' H') ∧ ∀ x H', J.yld i H x H' → g x σ H' fun σ2 H2 => tb { D with nx := N, ct := N, bk := D.nx } σ2 H2)
/-- the records at fp as they stand -/
def pinsAt (fp : List Addr) (h : Heap) : List (Addr × Obj) := fp.filterMap fun b => (h.get? b).map fun o => (b, o)
theorem mem_pinsAt {fp : List Addr} {h : Heap} {b : Addr} {o : Obj} (hb : b ∈ fp) (e : h.get? b = some o) : (b, o) ∈ pinsAt fp h := List.mem_filterMap.mpr ⟨b, hb, by rw [e]; rfl⟩
theorem of_pinsAt {fp : List Addr} {h : Heap} {p : Addr × Obj} (hp : p ∈ pinsAt fp h) : p.1 ∈ fp ∧ h.get? p.1 = some p.2 := by
  obtain ⟨b, hb, e⟩ := List.mem_filterMap.mp hp
  cases q : h.get? b with
  | none => rw [q] at e; cases e
  | some o =>
    rw [q] at e
    have e' : (b, o) = p := Option.some.inj e
    subst e'
    exact ⟨hb, q⟩
theorem Inv.pinned {pins : List (Addr × Obj)} {σ : St} {H : Hp} {s : Shared} {fp : List Addr} (I : Inv X pins σ H s) (hf : ∀ b ∈ fp, FpOk X pins H b) (ho : ∀ b ∈ fp, ∃ o, s.heap.get? b = some o ∧ ∀ v, o.data ≠ .cell v) : Inv X (pins ++ pinsAt fp s.heap) σ H s :=
  I.pins_of fun p hp => (List.mem_append.mp hp).elim (fun z => I.pin p (List.mem_append_right _ z)) fun z => by
    obtain ⟨hb, e⟩ := of_pinsAt z
    obtain ⟨f0, f1, f2, _⟩ := hf p.1 hb
    obtain ⟨o, e', d⟩ := ho p.1 hb
    rw [e] at e'; cases e'
    exact ⟨e, f0, f1, f2, d⟩
theorem Inv.unpinned {pins pl : List (Addr × Obj)} {σ : St} {H : Hp} {s : Shared} (I : Inv X (pins ++ pl) σ H s) : Inv X pins σ H s := I.pins_of fun p hp => I.pin p (List.mem_append_right _ (List.mem_append_left _ hp))
theorem ps_for {iter : Expr} {body : List Stmt} {wi : TI} {g : TG} {tb : TS} {pos : Pos} (hp : PassesOwn (model X.prog X.w) X.A X.env X.xe) (hc : X.calm = true) (hi : PI X tg iter wi) (hg : PG X tg g) (hb : PSs X body tb)
    (hs : ∀ x, foldedSetIterable iter X.env x = pure x := by intro _; rfl) : PS X (.For tg iter body [] pos) (tFor wi g tb) := by
  intro pins s σ H D I h
  refine wpAny_For (thn (hi pins s σ H _ I h) fun v s1 h1 => thn h1 fun itv s2 h2 => ?_) hs
  obtain ⟨it, fp, tn, J, H2, e, I2, T, st2, f2, W, ⟨m0, w0⟩, turn⟩ := h2
  subst e
  -- what stays true of the iterator's objects through the loop
  have stat : ∀ {H' : Hp}, (∀ b ∈ fp, H' b = none) → ∀ b ∈ fp, FpOk X pins H' b := fun hn b hb => ⟨hn b hb, (f2 b hb).2⟩
  refine codeAny_forLoop_any (fun n s' => ∃ i σ' H', Inv X pins σ' H' s' ∧ tn i s'.heap ∧ (∀ b ∈ fp, H' b = none) ∧ W i n σ' H') ?_ m0 ⟨0, σ, H2, I2, st2, fun b hb => (f2 b hb).1, w0⟩
  rintro n s3 ⟨i, σ3, H3, I3, st3, fr3, w3⟩
  rcases turn i n σ3 H3 w3 with ⟨stop, qn⟩ | ⟨go, N, hN, step⟩
  · refine wpAny_passesOwn hp (thn (T.done X rfl rfl rfl hc i pins s3 σ3 H3 X.xe I3 (stat fr3) st3 stop) fun r s4 ⟨hr, I4⟩ => ?_)
    subst hr
    exact wpAny_execs_nil ⟨σ3, H3, I4, qn⟩
  · refine wpAny_passesOwn hp (thn (T.item X rfl rfl rfl hc i pins s3 σ3 H3 X.xe I3 (stat fr3) st3 go) fun r s4 ⟨u, hr, h4⟩ => ?_)
    subst hr
    refine wpAny_passesOwn hp (thn h4 fun _ s5 ⟨x, H5, I5, r5, y5, st5, fr5⟩ => ?_)
    have I5' := I5.pinned (stat fr5) (T.obj _ _ st5)
    refine wpAny_passesOwn hp (thn (hg _ s5 σ3 H5 x u _ I5' r5 (step x H5 y5)) fun _ s6 ⟨σ6, H6, I6, q6⟩ => ?_)
    refine wpAny_passesOwn hp (thn (hb _ s6 σ6 H6 _ I6 q6) fun f s7 q7 => ?_)
    have again : ∀ {σ7 : St} {H7 : Hp}, Inv X (pins ++ pinsAt fp s5.heap) σ7 H7 s7 → N σ7 H7 → ∃ m, m < n ∧ ∃ i σ' H', Inv X pins σ' H' s7 ∧ tn i s7.heap ∧ (∀ b ∈ fp, H' b = none) ∧ W i m σ' H' := fun {σ7 H7} I7 n7 => by
      obtain ⟨m', hm, w7⟩ := hN σ7 H7 n7
      refine ⟨m', hm, i + 1, σ7, H7, I7.unpinned, T.keep _ _ _ st5 fun b hb o e => (I7.pin (b, o) (List.mem_append_right _ (List.mem_append_right _ (mem_pinsAt hb e)))).1, fun b hb => ?_, w7⟩
      obtain ⟨o, e, d⟩ := T.obj _ _ st5 b hb
      exact (I7.pin (b, o) (List.mem_append_right _ (List.mem_append_right _ (mem_pinsAt hb e)))).2.1
    cases f with
    | next => obtain ⟨σ7, H7, I7, n7⟩ := q7; exact again I7 n7
    | cont => obtain ⟨σ7, H7, I7, n7⟩ := q7; exact again I7 n7
    | brk => obtain ⟨σ7, H7, I7, q7⟩ := q7; exact ⟨σ7, H7, I7.unpinned, q7⟩
    | ret v => obtain ⟨x7, σ7, H7, I7, r7, q7⟩ := q7; exact ⟨x7, σ7, H7, I7.unpinned, r7, q7⟩
end

/-! ### the forms one uses -/

abbrev R2 := V → V → Hp → VK → Prop
/-- a two-place operation on values: f is binaryOp op, inplaceOp op or compareOp op -/
def OpR (X : Cx) (f : Value → Value → Sem Value) (r : R2) : Prop :=
  ∀ (pins : List (Addr × Obj)) (s : Shared) (σ : St) (H : Hp) (x y : V) (v u : Value) (Q : VK), Inv X pins σ H s → RelV x v → RelV y u → r x y H Q →
    wpAny (model X.prog X.w) X.A (f v u) (EP X pins σ Q) X.xe s
/-- a call of a value that is known (a builtin, a type) with values -/
def CallR (X : Cx) (f : Value) (r : List V → Hp → VK → Prop) : Prop :=
  ∀ (pins : List (Addr × Obj)) (s : Shared) (σ : St) (H : Hp) (xs : List V) (us : List Value) (Q : VK), Inv X pins σ H s → Vals xs us → r xs H Q →
    wpAny (model X.prog X.w) X.A (call f us) (EP X pins σ Q) X.xe s

def tOp (r : R2) (ta tb : TE) : TE := fun σ H Q => ta σ H fun x H1 => tb σ H1 fun y H2 => r x y H2 Q
/-- ints in, under C, and a value out -/
def rI (C : Int → Int → Prop) (g : Int → Int → V) : R2 := fun x y H Q => ∃ i j, x = .int i ∧ y = .int j ∧ C i j ∧ Q (g i j) H
def rI0 (g : Int → Int → V) : R2 := fun x y H Q => ∃ i j, x = .int i ∧ y = .int j ∧ Q (g i j) H

section
variable {X : Cx} {a b c : Expr} {ta tb tc : TE} {pos : Pos}
theorem binT (ha : PE X a ta) (hb : PE X b tb) {pins : List (Addr × Obj)} {s : Shared} {σ : St} {H : Hp} {R : V → V → Hp → Prop} (I : Inv X pins σ H s)
    (h : ta σ H fun x H1 => tb σ H1 fun y H2 => R x y H2) {Q : Value → Shared → Prop} {f : Value → Value → Sem Value}
    (hf : ∀ v u s2 x y H2, Inv X pins σ H2 s2 → RelV x v → RelV y u → R x y H2 → wpAny (model X.prog X.w) X.A (f v u) Q X.xe s2) :
    wpAny (model X.prog X.w) X.A (eval a X.env) (fun v s₁ => wpAny (model X.prog X.w) X.A (eval b X.env) (fun u s₂ => wpAny (model X.prog X.w) X.A (f v u) Q X.xe s₂) X.xe s₁) X.xe s := by
  refine thn (ha pins s σ H _ I h) fun v s1 ⟨x, H1, I1, r1, q1⟩ => ?_
  refine thn (hb pins s1 σ H1 _ I1 q1) fun u s2 ⟨y, H2, I2, r2, q2⟩ => ?_
  exact hf v u s2 x y H2 I2 r1 r2 q2

theorem pe_op {op : Operator} {r : R2} (ho : OpR X (binaryOp op) r) (ha : PE X a ta) (hb : PE X b tb) : PE X (.BinOp a op b pos) (tOp r ta tb) := by
  intro pins s σ H Q I h
  exact wpAny_BinOp (binT ha hb I h fun v u s2 x y H2 I2 rx ry q => ho pins s2 σ H2 x y v u Q I2 rx ry q)

/-! ### ints -/
theorem opI {f : Value → Value → Sem Value} {C : Int → Int → Prop} {g : Int → Int → Int}
    (rule : ∀ (i j : Int) (t u : Tok) (s : Shared) (Q : Value → Shared → Prop) (E : Value → Shared → Prop), C i j → Q (.int (g i j) s.toks) { s with toks := s.toks + 1 } → wpAny (model X.prog X.w) X.A (f (.int i t) (.int j u)) Q E s) :
    OpR X f (rI C fun i j => .int (g i j)) := by
  intro pins s σ H x y v u Q I rx ry h
  obtain ⟨i, j, rfl, rfl, hc, q⟩ := h
  obtain ⟨t, rfl⟩ := rx
  obtain ⟨t', rfl⟩ := ry
  exact rule i j t t' s _ _ hc ⟨.int (g i j), H, I.tok _, ⟨_, rfl⟩, q⟩
theorem opI0 {f : Value → Value → Sem Value} {g : Int → Int → Int}
    (rule : ∀ (i j : Int) (t u : Tok) (s : Shared) (Q : Value → Shared → Prop) (E : Value → Shared → Prop), Q (.int (g i j) s.toks) { s with toks := s.toks + 1 } → wpAny (model X.prog X.w) X.A (f (.int i t) (.int j u)) Q E s) :
    OpR X f (rI0 fun i j => .int (g i j)) := by
  intro pins s σ H x y v u Q I rx ry h
  obtain ⟨i, j, rfl, rfl, q⟩ := h
  obtain ⟨t, rfl⟩ := rx
  obtain ⟨t', rfl⟩ := ry
  exact rule i j t t' s _ _ ⟨.int (g i j), H, I.tok _, ⟨_, rfl⟩, q⟩
theorem opB0 {f : Value → Value → Sem Value} {g : Int → Int → Bool}
    (rule : ∀ (i j : Int) (t u : Tok) (s : Shared) (Q : Value → Shared → Prop) (E : Value → Shared → Prop), Q (.bool (g i j)) s → wpAny (model X.prog X.w) X.A (f (.int i t) (.int j u)) Q E s) :
    OpR X f (rI0 fun i j => .bl (g i j)) := by
  intro pins s σ H x y v u Q I rx ry h
  obtain ⟨i, j, rfl, rfl, q⟩ := h
  obtain ⟨t, rfl⟩ := rx
  obtain ⟨t', rfl⟩ := ry
  exact rule i j t t' s _ _ ⟨.bl (g i j), H, I, rfl, q⟩

def CPow (i j : Int) : Prop := 0 ≤ j ∧ j ≤ 1000000 ∧ i.natAbs < 2 ^ 64

theorem op_add : OpR X (binaryOp .Add) (rI0 fun i j => .int (i + j)) := opI0 fun _ _ _ _ _ _ _ q => add_int q
theorem op_sub : OpR X (binaryOp .Sub) (rI0 fun i j => .int (i - j)) := opI0 fun _ _ _ _ _ _ _ q => sub_int q
/-- % by a positive divisor of any size -/
theorem op_mod : OpR X (binaryOp .Mod) (rI (fun _ j => 0 < j) fun i j => .int (i % j)) := opI fun i j _ _ _ _ _ hc q => by
  have h1 : (0 : Int) < j := hc
  exact mod_int' (by lia) (by rw [Int.fmod_eq_emod_of_nonneg i (by lia)]; exact q)
theorem op_pow : OpR X (binaryOp .Pow) (rI CPow fun i j => .int (i ^ j.toNat)) := opI fun _ _ _ _ _ _ _ hc q => pow_int_small hc.1 hc.2.1 hc.2.2 q



/-! ### bools among ints: n += (a < b) -/
end

/-! ### comparisons -/
/-- the scalars that == tells apart as data does -/
def scal : V → V → Bool
  | .non, .non => true | .non, .int _ => true | .int _, .non => true | .non, .bl _ => true | .bl _, .non => true | .non, .str _ => true | .str _, .non => true
  | .int _, .int _ => true | .bl _, .bl _ => true | .str _, .str _ => true | .byt _, .byt _ => true
  | .int _, .str _ => true | .str _, .int _ => true | .bl _, .str _ => true | .str _, .bl _ => true
  | _, _ => false
def rEq : R2 := fun x y H Q => scal x y = true ∧ Q (.bl (decide (x = y))) H
def rNe : R2 := fun x y H Q => scal x y = true ∧ Q (.bl (!decide (x = y))) H

theorem dec_int {i j : Int} : decide (V.int i = V.int j) = (i == j) := by
  rw [Bool.eq_iff_iff]
  simp
theorem dec_bl {i j : Bool} : decide (V.bl i = V.bl j) = (i == j) := by
  rw [Bool.eq_iff_iff]
  simp
theorem dec_str {i j : Str} : decide (V.str i = V.str j) = (i == j) := by
  rw [Bool.eq_iff_iff]
  simp
theorem dec_byt {i j : Array UInt8} : decide (V.byt i = V.byt j) = (i.toList == j.toList) := by
  rw [Bool.eq_iff_iff]
  cases i
  cases j
  simp

section
variable {X : Cx} {a b c : Expr} {ta tb tc : TE} {pos : Pos}
theorem fin_bl {pins : List (Addr × Obj)} {σ : St} {H : Hp} {s : Shared} {Q : VK} {k k' : Bool} (I : Inv X pins σ H s) (q : Q (.bl k) H) (e : k = k') : EP X pins σ Q (.bool k') s := by
  subst e
  exact ⟨.bl k, H, I, rfl, q⟩
theorem op_eq : OpR X (compareOp .Eq) rEq := by
  intro pins s σ H x y v u Q I rx ry h
  obtain ⟨hs, q⟩ := h
  cases x with
  | non =>
    cases rx
    cases y with
    | non => cases ry; exact PySem.EqNone.eq_none_none (fin_bl I q (by simp))
    | bl j => cases ry; exact PySem.EqNone.eq_none_bool (fin_bl I q (by simp))
    | int j => obtain ⟨t', rfl⟩ := ry; exact PySem.EqNone.eq_none_int (fin_bl I q (by simp))
    | str j => obtain ⟨t', rfl⟩ := ry; exact PySem.EqNone.eq_none_str (fin_bl I q (by simp))
    | _ => exact absurd (show false = true from hs) Bool.false_ne_true
  | bl i =>
    cases rx
    cases y with
    | non => cases ry; exact PySem.EqNone.eq_bool_none (fin_bl I q (by simp))
    | bl j => cases ry; exact eq_bool (fin_bl I q dec_bl)
    | str j => obtain ⟨t', rfl⟩ := ry; exact PySem.EqMixed.eq_bool_str (fin_bl I q (by simp))
    | _ => exact absurd (show false = true from hs) Bool.false_ne_true
  | int i =>
    obtain ⟨t, rfl⟩ := rx
    cases y with
    | non => cases ry; exact PySem.EqNone.eq_int_none (fin_bl I q (by simp))
    | int j => obtain ⟨t', rfl⟩ := ry; exact eq_int (fin_bl I q dec_int)
    | str j => obtain ⟨t', rfl⟩ := ry; exact PySem.EqMixed.eq_int_str (fin_bl I q (by simp))
    | _ => exact absurd (show false = true from hs) Bool.false_ne_true
  | str i =>
    obtain ⟨t, rfl⟩ := rx
    cases y with
    | non => cases ry; exact PySem.EqNone.eq_str_none (fin_bl I q (by simp))
    | bl j => cases ry; exact PySem.EqMixed.eq_str_bool (fin_bl I q (by simp))
    | int j => obtain ⟨t', rfl⟩ := ry; exact PySem.EqMixed.eq_str_int (fin_bl I q (by simp))
    | str j => obtain ⟨t', rfl⟩ := ry; exact eq_str (fin_bl I q dec_str)
    | _ => exact absurd (show false = true from hs) Bool.false_ne_true
  | byt i =>
    obtain ⟨t, rfl⟩ := rx
    cases y with
    | byt j => obtain ⟨t', rfl⟩ := ry; exact PySem.W.eq_bytes (fin_bl I q dec_byt)
    | _ => exact absurd (show false = true from hs) Bool.false_ne_true
  | _ => cases y <;> exact absurd (show false = true from hs) Bool.false_ne_true
theorem op_ne : OpR X (compareOp .NotEq) rNe := by
  intro pins s σ H x y v u Q I rx ry h
  obtain ⟨hs, q⟩ := h
  cases x with
  | non =>
    cases rx
    cases y with
    | non => cases ry; exact PySem.EqNone.ne_none_none (fin_bl I q (by simp))
    | bl j => cases ry; exact PySem.EqNone.ne_none_bool (fin_bl I q (by simp))
    | int j => obtain ⟨t', rfl⟩ := ry; exact PySem.EqNone.ne_none_int (fin_bl I q (by simp))
    | str j => obtain ⟨t', rfl⟩ := ry; exact PySem.EqNone.ne_none_str (fin_bl I q (by simp))
    | _ => exact absurd (show false = true from hs) Bool.false_ne_true
  | bl i =>
    cases rx
    cases y with
    | non => cases ry; exact PySem.EqNone.ne_bool_none (fin_bl I q (by simp))
    | bl j => cases ry; exact ne_bool (fin_bl I q (congrArg not dec_bl))
    | str j => obtain ⟨t', rfl⟩ := ry; exact PySem.EqMixed.ne_bool_str (fin_bl I q (by simp))
    | _ => exact absurd (show false = true from hs) Bool.false_ne_true
  | int i =>
    obtain ⟨t, rfl⟩ := rx
    cases y with
    | non => cases ry; exact PySem.EqNone.ne_int_none (fin_bl I q (by simp))
    | int j => obtain ⟨t', rfl⟩ := ry; exact ne_int (fin_bl I q (congrArg not dec_int))
    | str j => obtain ⟨t', rfl⟩ := ry; exact PySem.EqMixed.ne_int_str (fin_bl I q (by simp))
    | _ => exact absurd (show false = true from hs) Bool.false_ne_true
  | str i =>
    obtain ⟨t, rfl⟩ := rx
    cases y with
    | non => cases ry; exact PySem.EqNone.ne_str_none (fin_bl I q (by simp))
    | bl j => cases ry; exact PySem.EqMixed.ne_str_bool (fin_bl I q (by simp))
    | int j => obtain ⟨t', rfl⟩ := ry; exact PySem.EqMixed.ne_str_int (fin_bl I q (by simp))
    | str j => obtain ⟨t', rfl⟩ := ry; exact ne_str (fin_bl I q (congrArg not dec_str))
    | _ => exact absurd (show false = true from hs) Bool.false_ne_true
  | byt i =>
    obtain ⟨t, rfl⟩ := rx
    cases y with
    | byt j => obtain ⟨t', rfl⟩ := ry; exact PySem.W.ne_bytes (fin_bl I q (congrArg not dec_byt))
    | _ => exact absurd (show false = true from hs) Bool.false_ne_true
  | _ => cases y <;> exact absurd (show false = true from hs) Bool.false_ne_true

theorem op_lt : OpR X (compareOp .Lt) (rI0 fun i j => .bl (decide (i < j))) := opB0 fun _ _ _ _ _ _ _ q => lt_int q
theorem op_le : OpR X (compareOp .LtE) (rI0 fun i j => .bl (decide (i ≤ j))) := opB0 fun _ _ _ _ _ _ _ q => le_int q
theorem op_gt : OpR X (compareOp .Gt) (rI0 fun i j => .bl (decide (j < i))) := opB0 fun _ _ _ _ _ _ _ q => gt_int q
theorem op_ge : OpR X (compareOp .GtE) (rI0 fun i j => .bl (decide (j ≤ i))) := opB0 fun _ _ _ _ _ _ _ q => ge_int q



/-- two rules for one operation: by cases -/
theorem OpR.or {f : Value → Value → Sem Value} {r r' : R2} (h : OpR X f r) (h' : OpR X f r') : OpR X f (fun x y H Q => r x y H Q ∨ r' x y H Q) := by
  intro pins s σ H x y v u Q I rx ry q
  rcases q with q | q
  · exact h pins s σ H x y v u Q I rx ry q
  · exact h' pins s σ H x y v u Q I rx ry q

theorem nomark (b : Expr) {op : CmpOp} (h : op ≠ .In := by decide) (h2 : op ≠ .NotIn := by decide) : behindInMarks op b = false := by
  have e1 : (op == CmpOp.In) = false := by cases op <;> first | rfl | exact absurd rfl h
  have e2 : (op == CmpOp.NotIn) = false := by cases op <;> first | rfl | exact absurd rfl h2
  cases b <;> simp [behindInMarks, e1, e2]
/-- a comparison as a value; hm: nomark b, or (for in, not in) by with_unfolding_all rfl -/
theorem pe_cmpR {op : CmpOp} {r : R2} (ho : OpR X (compareOp op) r) (ha : PE X a ta) (hb : PE X b tb) (hm : behindInMarks op b = false) : PE X (.Compare a [op] [b] pos) (tOp r ta tb) := by
  intro pins s σ H Q I h
  exact wpAny_Compare1 (binT ha hb I h fun v u s2 x y H2 I2 rx ry q => ho pins s2 σ H2 x y v u Q I2 rx ry q) hm
/-- a reading of a value as a test -/
def tTest (t : TE) : TT := fun σ H Q => t σ H fun x H' => ∃ k, x = .bl k ∧ Q k H'
theorem pt_cmpR {op : CmpOp} {r : R2} (ho : OpR X (compareOp op) r) (ha : PE X a ta) (hb : PE X b tb) (hm : behindInMarks op b = false) : PT X (.Compare a [op] [b] pos) (tTest (tOp r ta tb)) := by
  intro pins s σ H Q I h
  refine wpAny_isTrue_Compare1 (thn (ha pins s σ H _ I h) fun v s1 ⟨x, H1, I1, r1, q1⟩ => thn (hb pins s1 σ H1 _ I1 q1) fun u s2 ⟨y, H2, I2, r2, q2⟩ =>
    thn (ho pins s2 σ H2 x y v u _ I2 r1 r2 q2) fun c s3 ⟨z, H3, I3, r3, k, e, q3⟩ => ?_) hm
  subst e
  cases r3
  exact wpAny_truthy_bool ⟨H3, I3, q3⟩
/-- a op1 b op2 c -/
def tChain (r r' : R2) (ta tb tc : TE) : TE := fun σ H Q => ta σ H fun x H1 => tb σ H1 fun y H2 => r x y H2 fun z H3 => ∃ k, z = .bl k ∧
  (if k = true then tc σ H3 fun w' H4 => r' y w' H4 Q else Q (.bl false) H3)
theorem pe_chain {op op' : CmpOp} {r r' : R2} (ho : OpR X (compareOp op) r) (ho' : OpR X (compareOp op') r') (ha : PE X a ta) (hb : PE X b tb) (hc : PE X c tc)
    (hm : lastMarks [op, op'] [b, c] = false := by with_unfolding_all rfl) : PE X (.Compare a [op, op'] [b, c] pos) (tChain r r' ta tb tc) := by
  intro pins s σ H Q I h
  refine Compare_chain (thn (ha pins s σ H _ I h) fun v s1 ⟨x, H1, I1, r1, q1⟩ => chain_link (thn (hb pins s1 σ H1 _ I1 q1) fun u s2 ⟨y, H2, I2, r2, q2⟩ =>
    thn (ho pins s2 σ H2 x y v u _ I2 r1 r2 q2) fun d s3 ⟨z, H3, I3, r3, k, e, q3⟩ => ?_)) hm
  subst e
  cases r3
  refine wpAny_truthy_bool ?_
  cases k with
  | false => exact ite_ff ⟨.bl false, H3, I3, rfl, q3⟩
  | true => exact ite_tt (chain_last (thn (hc pins s3 σ H3 _ I3 q3) fun w' s4 ⟨z', H4, I4, r4, q4⟩ => ho' pins s4 σ H4 y z' u w' Q I4 r2 r4 q4))

/-! ### truth -/
theorem line63 : (sizeLine : Nat) < 2 ^ 63 := by rw [sizeLine_eq]; decide

/-! ### strs and bytes -/
theorem op_add_str : OpR X (binaryOp .Add) (fun x y H Q => ∃ i j, x = .str i ∧ y = .str j ∧ i.length + j.length ≤ sizeLine ∧ Q (.str (i ++ j)) H) := by
  intro pins s σ H x y v u Q I rx ry h
  obtain ⟨i, j, rfl, rfl, hz, q⟩ := h
  obtain ⟨t, rfl⟩ := rx
  obtain ⟨t', rfl⟩ := ry
  exact add_str (fun t' tk => ⟨.str (i ++ j), H, I.tok _, ⟨_, rfl⟩, q⟩) hz


/-! ### scalar builtins, by CallR -/
theorem vals1 {x : V} {us : List Value} (r : Vals [x] us) : ∃ u, us = [u] ∧ RelV x u := by
  cases r with
  | cons r1 r2 => cases r2; exact ⟨_, rfl, r1⟩
theorem vals2 {x y : V} {us : List Value} (r : Vals [x, y] us) : ∃ u w', us = [u, w'] ∧ RelV x u ∧ RelV y w' := by
  cases r with
  | cons r1 r2 =>
    cases r2 with
    | cons r3 r4 => cases r4; exact ⟨_, _, rfl, r1, r3⟩
theorem call_abs : CallR X (.builtin "abs") (fun xs H Q => ∃ i, xs = [.int i] ∧ Q (.int (if i < 0 then -i else i)) H) := by
  intro pins s σ H xs us Q I r h
  obtain ⟨i, rfl, q⟩ := h
  obtain ⟨u, rfl, t, rfl⟩ := vals1 r
  exact call_abs_int fun u tk => ⟨.int (if i < 0 then -i else i), H, I.tok _, ⟨_, rfl⟩, q⟩
theorem call_min2 (hc : X.calm = true) : CallR X (.builtin "min") (fun xs H Q => ∃ i j, xs = [.int i, .int j] ∧ Q (.int (if j < i then j else i)) H) := by
  intro pins s σ H xs us Q I r h
  obtain ⟨i, j, rfl, q⟩ := h
  obtain ⟨u, w', rfl, ⟨t, rfl⟩, ⟨t', rfl⟩⟩ := vals2 r
  refine min_two_ints (I.ok.hd hc) fun h' tk k => ⟨_, H, I.kept k, ?_, q⟩
  by_cases hj : j < i
  · rw [if_pos hj, if_pos hj]; exact ⟨_, rfl⟩
  · rw [if_neg hj, if_neg hj]; exact ⟨_, rfl⟩
end

/-! ### an instance, its attributes a map -/



section
variable {prog : Program} {w : World} {A : Around} {E : Value → Shared → Prop} {s : Shared} {K : PySem.W.Frag} {x dx C f : Addr} {mA : Str → Option Value} {name : Str} {v : Value}
end

/-! ### the attributes as a list of pairs -/


section
variable {P : Program} {w : World} {H H' : Hp} {h h' : Heap} {a C dx : Addr} {fs fs' : List (Str × V)}
end

/-! ### what of the text a class must have -/

section
variable {X : Cx} {pins : List (Addr × Obj)} {σ : St} {H : Hp} {s : Shared} {a C dx : Addr} {fs : List (Str × V)} {f : Str} {v : V} {A : Around} {E : Value → Shared → Prop}

/-- e.f where nothing but the object is asked: through attributeBase (super) and the last hold -/
theorem attr_of {prog : Program} {w : World} {env : Env} {e : Expr} {f : Str} {pos : Pos} {s : Shared} {Q : Value → Shared → Prop} (hb : attributeBase e f env (eval e env) = eval e env)
    (h : wpAny (model prog w) A (eval e env) (fun o s₁ => wpAny (model prog w) A (getAttr o f true) Q E s₁) E s) : wpAny (model prog w) A (eval (.Attribute e f pos) env) Q E s :=
  Attribute_any_ h (by rw [arm_eval_Attribute, hb])
end

/-! ### readings and rules -/

section
variable {X : Cx} {o e value : Expr} {f : Str} {pos pos' tpos : Pos} {ta tv : TE}
end

/-! ### isinstance -/
section
variable {X : Cx} {pins : List (Addr × Obj)} {σ : St} {H : Hp} {s : Shared} {A : Around} {E : Value → Shared → Prop} {Q : Value → Shared → Prop} {c : Value} {b : Bool}
end

/-! ### room -/
structure Room (k : Nat) (A : Around) : Prop where
  hd : A.handled = none
  dp : A.depth + 3 * k + 5 < recursionLimit
  un : A.units + 16 * k + 200 < cLine
theorem Room.mono {j k : Nat} {A : Around} (r : Room k A) (h : j ≤ k) : Room j A := ⟨r.hd, by have := r.dp; lia, by have := r.un; lia⟩
theorem Room.deeper {k : Nat} {A : Around} (r : Room (k + 1) A) (env : Env) : Room k (A.deeper env) :=
  ⟨r.hd, by have := r.dp; show A.depth + 1 + 3 * k + 5 < _; lia, by have := r.un; show A.units + 3 + 16 * k + 200 < _; lia⟩
theorem make_depth {A : Around} {C : Addr} {us : List Value} {kw : List (Str × Value)} : (A.under (.builtin "type.__call__" ⟨.ref C :: us, kw⟩)).depth = A.depth + 1 := by
  first | rfl | simp [Around.under, Code.weight, Code.isCreation, Code.isGuard, Code.isCaller, Code.frames, Code.isFrame, guardIds]
theorem make_units {A : Around} {C : Addr} {us : List Value} {kw : List (Str × Value)} : (A.under (.builtin "type.__call__" ⟨.ref C :: us, kw⟩)).units = A.units + 1 := by
  first | rfl | simp [Around.under, Code.cUnits, Code.frames, Code.isFrame]
theorem Room.make {k : Nat} {A : Around} (r : Room (k + 1) A) (C : Addr) (us : List Value) (kw : List (Str × Value)) : Room k (A.under (.builtin "type.__call__" ⟨.ref C :: us, kw⟩)) :=
  ⟨r.hd, by have := r.dp; rw [make_depth]; lia, by have := r.un; rw [make_units]; lia⟩
theorem Room.depth {k : Nat} {A : Around} (r : Room k A) : A.depth < recursionLimit := by have := r.dp; lia
theorem Room.units {k : Nat} {A : Around} (r : Room k A) : A.units + 64 < cLine := by have := r.un; lia

/-! ### argument lists and displays -/
def tNil : TA := fun _ H Q => Q [] H
def tCons (ta : TE) (tr : TA) : TA := fun σ H Q => ta σ H fun x H1 => tr σ H1 fun xs H2 => Q (x :: xs) H2
section
variable {X : Cx} {e : Expr} {es : List Expr} {te : TE} {t : TA} {pos : Pos}
theorem pa_nil : PA X [] tNil := fun _ _ _ _ H Q I h => Calls.spliced_nil ⟨[], H, I, .nil, h⟩
theorem pa_cons (ha : PE X e te) (hr : PA X es t) (hs : starEach (e :: es) X.env = (false, eval e X.env) :: starEach es X.env := by rfl) : PA X (e :: es) (tCons te t) := by
  intro pos pins s σ H Q I h
  rw [hs]
  show wpAny _ _ (spliced ((false, eval e X.env) :: backTo pos (starEach es X.env))) _ _ s
  refine Calls.spliced_cons (thn (ha pins s σ H _ I h) fun u s1 ⟨x, H1, I1, r1, q1⟩ => ?_)
  exact thn (hr pos pins s1 σ H1 _ I1 q1) fun us s2 ⟨xs, H2, I2, r2, q2⟩ => ⟨x :: xs, H2, I2, .cons r1 r2, q2⟩

/-- a tuple, a list of written items -/
def tTup (t : TA) : TE := fun σ H Q => t σ H fun xs H1 => xs.length ≤ sizeLine ∧ ∀ p, H1 p = none → Q (.ref p) (upd H1 p (.tup xs))
def tLst (t : TA) : TE := fun σ H Q => t σ H fun xs H1 => xs.length ≤ sizeLine ∧ ∀ p, H1 p = none → Q (.ref p) (upd H1 p (.lst xs))
theorem pe_tup {x1} (h : PA X es t) : PE X (.Tuple es x1 pos) (tTup t) := by
  intro pins s σ H Q I hq
  refine wpAny_Tuple_spliced (thn (h pos pins s σ H _ I hq) fun us s1 ⟨xs, H1, I1, r, z, q⟩ => ⟨by rw [← r.length]; exact z, ?_⟩)
  have hf : H1 s1.heap.objs.size = none := I1.hok.fresh (Nat.le_refl _)
  refine ⟨.ref s1.heap.objs.size, upd H1 s1.heap.objs.size (.tup xs), I1.laid (t' := s1.toks) (fun b u e => Heap.get?_push_of_some _ e) (Nat.le_refl _) ?_, rfl, q _ hf⟩
  exact ⟨z, us, r, ⟨_, Heap.get?_push_size _ rfl, rfl, _, rfl⟩⟩
theorem pe_lst (h : PA X es t) : PE X (.List es pos) (tLst t) := by
  intro pins s σ H Q I hq
  refine wpAny_List_spliced (thn (h pos pins s σ H _ I hq) fun us s1 ⟨xs, H1, I1, r, z, q⟩ => ⟨by rw [← r.length]; exact z, ?_⟩)
  have hf : H1 s1.heap.objs.size = none := I1.hok.fresh (Nat.le_refl _)
  refine ⟨.ref s1.heap.objs.size, upd H1 s1.heap.objs.size (.lst xs), I1.laid (t' := s1.toks) (fun b u e => Heap.get?_push_of_some _ e) (Nat.le_refl _) ?_, rfl, q _ hf⟩
  exact ⟨z, us, 0, r, Heap.get?_push_size _ rfl⟩
end

/-! ### what a def promises -/
/-- a def's promise: the bound arguments in the parameters' order, the heap, the wanted end, the wanted exception -/
abbrev Sp := List V → Hp → VK → XK → Prop
/-- how an exception lies behind a call (file 08 gives it): the callers' frames, abstract heap and state ahead of the call, the wish, the exception, the state -/
abbrev CXT := List Env → Hp → Shared → XK → Value → Shared → Prop

/-- the state at a call -/
structure Env0 (P : Program) (w : World) (K : PySem.W.Frag) (mg : Str → Option Value) (base : Heap) (A : Around) (outer : List Env) (s : Shared) (H : Hp) : Prop where
  frames : A.frames = some outer
  mod : Mod K mg base
  bs : ∀ b o, base.get? b = some o → s.heap.get? b = some o ∧ H b = none
  bsz : base.objs.size ≤ s.heap.objs.size
  funs : s.heap.FunFrames base outer
  frf : ∀ b ∈ frs outer, H b = none
  hok : HOk P w H s.heap
  bare : AllBare s.gens
/-- a call's end -/
def CE (outer : List Env) (P : Program) (w : World) (H : Hp) (s : Shared) (Q : VK) (u : Value) (s' : Shared) : Prop :=
  ∃ v H', s'.os = s.os ∧ AllBare s'.gens ∧ Un (frs outer) [] H H' s.heap s'.heap ∧ HOk P w H' s'.heap ∧ RelV v u ∧ Q v H'
def CR (CX : CXT) (outer : List Env) (P : Program) (w : World) (H : Hp) (s : Shared) (Q : VK) (E : XK) (r : Result) (s' : Shared) : Prop :=
  match r with
  | .ok (.ret u) => CE outer P w H s Q u s'
  | .ok _ => False
  | .error e => CX outer H s E e s'
structure FnOk (P : Program) (w : World) (K : PySem.W.Frag) (mg : Str → Option Value) (base : Heap) (CX : CXT) (k : Nat) (f : Addr) (fd : FuncData) (ps : List Str) (sp : Sp) : Prop where
  len : ∀ vs H Q E, sp vs H Q E → vs.length = ps.length
  run : ∀ (A : Around) (outer : List Env) (s : Shared) (H : Hp) (args : Args) (us : List Value) (vs : List V) (Q : VK) (E : XK), Room k A → Env0 P w K mg base A outer s H → BindsTo s fd args (ps.zip us) → Vals vs us → sp vs H Q E →
    codeAny (model P w) A (.call (.ref f) args) (CR CX outer P w H s Q E) s
theorem FnOk.mono {P : Program} {w : World} {K : PySem.W.Frag} {mg : Str → Option Value} {base : Heap} {CX : CXT} {j k : Nat} {f : Addr} {fd : FuncData} {ps : List Str} {sp : Sp} (F : FnOk P w K mg base CX j f fd ps sp) (h : j ≤ k) :
    FnOk P w K mg base CX k f fd ps sp := ⟨F.len, fun A outer s H args us vs Q E hr => F.run A outer s H args us vs Q E (hr.mono h)⟩

theorem Env0.make {P : Program} {w : World} {K : PySem.W.Frag} {mg : Str → Option Value} {base : Heap} {A : Around} {outer : List Env} {s : Shared} {H : Hp} (e : Env0 P w K mg base A outer s H) (C : Addr) (us : List Value) (kw : List (Str × Value)) :
    Env0 P w K mg base (A.under (.builtin "type.__call__" ⟨.ref C :: us, kw⟩)) outer s H := ⟨by first | exact e.frames | (simpa [Around.under, Code.envs, Code.isFrame, pushEnvs] using e.frames), e.mod, e.bs, e.bsz, e.funs, e.frf, e.hok, e.bare⟩

section
variable {X : Cx} {pins : List (Addr × Obj)} {σ : St} {H : Hp} {s s' : Shared}
theorem Inv.env0 (I : Inv X pins σ H s) : Env0 X.prog X.w X.K X.mg X.base X.A X.stack s H :=
  ⟨I.ok.frames, I.ok.mod, I.bs, Nat.le_trans I.ok.bsz I.sz, I.stack, I.stkFree, I.hok, I.bare⟩
/-- behind a call -/
theorem Inv.after {Q : VK} {u : Value} (I : Inv X pins σ H s) (h : CE X.stack X.prog X.w H s Q u s') : EP X pins σ Q u s' := by
  obtain ⟨v, H', os, bare, un, hok, r, q⟩ := h
  obtain ⟨hh, g, d, t, os'⟩ := s'
  obtain rfl : os' = s.os := os
  exact ⟨v, H', I.call (h' := hh) (g' := g) (d' := d) (t' := t) (ch := []) un hok bare (fun b z => absurd z (by simp)), r, q⟩
end

/-! ### calls -/

/-- how the parameters are bound: us the positional arguments, kw the keywords' values by name, ds the defaults that fill up -/
def Binds (K : PySem.W.Frag) (fd : FuncData) (ps : List Str) (ds : List Value) : Prop :=
  ∀ (s : Shared) (us : List Value), K.In s.heap → (us ++ ds).length = ps.length → BindsTo s fd ⟨us, []⟩ (ps.zip (us ++ ds))
/-- every parameter is given -/
theorem Binds.all {K : PySem.W.Frag} {fd : FuncData} {ps : List Str} (h : ∀ us : List Value, us.length = ps.length → bindArgs fd ⟨us, []⟩ = pure (ps.zip us)) : Binds K fd ps [] := fun s us _ hl => by
  rw [List.append_nil] at hl ⊢
  exact .of_eq (h us hl)


section
variable {X : Cx} {CX : CXT} {k : Nat} {f C : Addr} {fd : FuncData} {ps : List Str} {sp : Sp} {dvs : List V} {ds : List Value} {E : XK} {x m : Str} {p pos apos : Pos} {e o : Expr} {es : List Expr} {ta : TE} {t : TA}

end

/-! ### keywords -/
section
variable {X : Cx} {CX : CXT} {k : Nat} {f C : Addr} {fd : FuncData} {ps ks : List Str} {sp : Sp} {E : XK} {x m : Str} {p pos apos kpos : Pos} {e o : Expr} {es : List Expr} {kws : List Keyword} {te ta : TE} {t tk : TA} {nm : Option Str}
variable {g : List Value → List Value → List Value} {gV : List V → List V → List V}
end

/-! ### a def's body keeps its promise -/
/-- names: the parameters first -/
structure FnScope (N P : List Str) (sc : Scope) : Prop where
  kind : sc.kind = .function
  co : sc.isCoroutine = false
  gen : sc.isGenerator = false
  nd : N.Nodup
  pre : N.take P.length = P
  par : ∀ x ∈ P, sc.names.lookup x = some .local ∨ sc.names.lookup x = some .cell
  nofree : ∀ y ∈ sc.names, y.2 ≠ .free

theorem bindL_out {kindOf : Str → Option NameKind} {x : Str} : ∀ {binds : List (Str × Value)} {m : Str → Option Value}, (∀ v, (x, v) ∉ binds) → bindL kindOf binds m x = m x
  | [], _, _ => rfl
  | (n, v) :: r, m, h => by
    unfold bindL
    rw [bindL_out fun w hw => h w (List.mem_cons_of_mem _ hw)]
    split
    · have : x ≠ n := by rintro rfl; exact h v List.mem_cons_self
      simp [this]
    · rfl
theorem bindC_out {kindOf : Str → Option NameKind} {x : Str} : ∀ {binds : List (Str × Value)} {m : Str → Option Value}, (∀ v, (x, v) ∉ binds) → bindC kindOf binds m x = m x
  | [], _, _ => rfl
  | (n, v) :: r, m, h => by
    unfold bindC
    rw [bindC_out fun w hw => h w (List.mem_cons_of_mem _ hw)]
    split
    · rfl
    · have : x ≠ n := by rintro rfl; exact h v List.mem_cons_self
      simp [this]
theorem bindL_get {kindOf : Str → Option NameKind} {x : Str} {v : Value} : ∀ {P : List Str} {vs : List Value} {i : Nat} {m : Str → Option Value}, P.Nodup → P[i]? = some x → vs[i]? = some v → kindOf x = some .local →
    bindL kindOf (P.zip vs) m x = some v
  | [], _, _, _, _, h, _, _ => by simp at h
  | _ :: _, [], _, _, _, _, h, _ => by simp at h
  | p :: P, w :: vs, 0, m, nd, h1, h2, hk => by
    simp at h1 h2; subst h1; subst h2
    show bindL kindOf ((p, w) :: P.zip vs) m p = _
    unfold bindL
    rw [bindL_out fun v hv => (List.nodup_cons.mp nd).1 (List.of_mem_zip hv).1, if_pos hk]
    simp
  | p :: P, w :: vs, i + 1, m, nd, h1, h2, hk => by
    show bindL kindOf ((p, w) :: P.zip vs) m x = _
    unfold bindL
    exact bindL_get (i := i) (List.nodup_cons.mp nd).2 (by simpa using h1) (by simpa using h2) hk
theorem bindC_get {kindOf : Str → Option NameKind} {x : Str} {v : Value} : ∀ {P : List Str} {vs : List Value} {i : Nat} {m : Str → Option Value}, P.Nodup → P[i]? = some x → vs[i]? = some v → kindOf x ≠ some .local →
    bindC kindOf (P.zip vs) m x = some v
  | [], _, _, _, _, h, _, _ => by simp at h
  | _ :: _, [], _, _, _, _, h, _ => by simp at h
  | p :: P, w :: vs, 0, m, nd, h1, h2, hk => by
    simp at h1 h2; subst h1; subst h2
    show bindC kindOf ((p, w) :: P.zip vs) m p = _
    unfold bindC
    rw [bindC_out fun v hv => (List.nodup_cons.mp nd).1 (List.of_mem_zip hv).1, if_neg hk]
    simp
  | p :: P, w :: vs, i + 1, m, nd, h1, h2, hk => by
    show bindC kindOf ((p, w) :: P.zip vs) m x = _
    unfold bindC
    exact bindC_get (i := i) (List.nodup_cons.mp nd).2 (by simpa using h1) (by simpa using h2) hk

/-- the names' values at the entry -/
def start (N : List Str) (vs : List V) : St := vs.map some ++ List.replicate (N.length - vs.length) none

/-- the context of a def's body, at its entry; an exception leaves the frame, then lies as CX says -/
def cxOf (CX : CXT) (P : Program) (w : World) (K : PySem.W.Frag) (mg : Str → Option Value) (base : Heap) (N : List Str) (qual : Str) (scope : Scope) (f : Addr) (cd : Value) (A : Around) (outer : List Env) (s : Shared) (H : Hp) (E : XK) : Cx where
  prog := P
  w := w
  K := K
  mg := mg
  base := base
  A := A.deeper (envOfC qual scope s.heap.objs.size f cd)
  N := N
  s₀ := s
  H₀ := H
  env := envOfC qual scope s.heap.objs.size f cd
  outer := outer
  stack := envOfC qual scope s.heap.objs.size f cd :: outer
  ex := []
  calm := true
  fn := fun _ => true
  pn := []
  xe := fun e s' => wpAny (model P w) (A.deeper (envOfC qual scope s.heap.objs.size f cd)) (leaving (envOfC qual scope s.heap.objs.size f cd) e) (fun _ s'' => CX outer H s E e s'') (fun e' s'' => CX outer H s E e' s'') s'

theorem cell_has {sc : Scope} {n : Nat} {x : Str} (h : sc.names.lookup x = some .cell) : ∃ c, (cellsFrom n sc.names []).lookup x = some c := by
  have q := PySem.W.cellsFrom_some sc.names n [] (.inl h)
  exact Option.isSome_iff_exists.mp q

theorem inv_start {CX : CXT} {P : Program} {w : World} {K : PySem.W.Frag} {mg : Str → Option Value} {base : Heap} {N ps : List Str} {qual : Str} {scope : Scope} {f : Addr} {cd : Value} {A : Around} {outer : List Env} {s s1 : Shared} {H : Hp} {E : XK} {us : List Value} {vs : List V}
    (S : FnScope N ps scope) (hd : A.handled = none) (e0 : Env0 P w K mg base A outer s H) (hl : vs.length = ps.length) (r : Vals vs us)
    (x : InCallC s s.heap.objs.size (bindL (envOfC qual scope s.heap.objs.size f cd).kindOf (ps.zip us) fun _ => none) (cellsFrom (s.heap.objs.size + 1) scope.names []) (bindC (envOfC qual scope s.heap.objs.size f cd).kindOf (ps.zip us) fun _ => none) s1) :
    Inv (cxOf CX P w K mg base N qual scope f cd A outer s H E) [] (start N vs) H s1 := by
  have hpl : ps.length ≤ N.length := by have := congrArg List.length S.pre; rw [List.length_take] at this; lia
  obtain ⟨h1, tk, rfl, hk⟩ := x.done
  have noA : ∀ b : Addr, b ∉ (cxOf CX P w K mg base N qual scope f cd A outer s H E).ex := fun b z => absurd (show b ∈ ([] : List Addr) from z) (by simp)
  refine ⟨⟨e0.mod, S.kind, rfl, rfl, Nat.le_refl _, fun y z c h1 h2 => ?_, fun y hy => ?_, fun y c _ h => ?_, fun _ => hd, Around.frames_deeper e0.frames, .inr ⟨rfl, rfl⟩, fun b z => absurd z (noA b), e0.bs, e0.bsz, fun b _ _ => noA b, fun b z => absurd z (noA b), e0.funs, e0.frf⟩,
    rfl, e0.bare, Un.kept hk, ⟨_, x.toInCall.ns, fun i y v h1 h2 h3 => ?_⟩, fun y c h => ⟨_, x.cell y c h⟩, e0.hok.fresh (Nat.le_refl _), fun y c h => ?_, fun p hp => absurd (show p ∈ ([] : List (Addr × Obj)) from hp) (by simp), e0.hok.kept hk, ?_⟩
  · exact name_of_addr x.apart (PySem.mem_of_lookup h1) (PySem.mem_of_lookup h2)
  · have hy : scope.names.lookup y = some .cell ∨ scope.names.lookup y = some .free := hy
    rcases hy with hy | hy
    · exact cell_has hy
    · exact absurd rfl (S.nofree _ (PySem.mem_of_lookup hy))
  · exact Nat.le_of_lt (x.above y c (PySem.mem_of_lookup h))
  · have hi : i < vs.length := by
      unfold start at h2
      by_cases hi : i < vs.length
      · exact hi
      · rw [List.getElem?_append_right (by simpa using hi)] at h2
        rw [List.getElem?_replicate] at h2
        split at h2 <;> cases h2
    have ha : vs[i]? = some v := by
      unfold start at h2
      rw [List.getElem?_append_left (by simpa using hi), List.getElem?_map] at h2
      cases e : vs[i]? with
      | none => rw [e] at h2; cases h2
      | some a => rw [e] at h2; cases h2; rfl
    obtain ⟨u, hu, rv⟩ := r.get ha
    have hp : ps[i]? = some y := by
      rw [← S.pre, List.getElem?_take_of_lt (by lia)]; exact h1
    have ndP : ps.Nodup := by rw [← S.pre]; exact S.nd.sublist (List.take_sublist _ _)
    refine ⟨u, rv, ?_⟩
    rcases S.par y (List.mem_of_getElem? hp) with k | k
    · exact .inl ⟨k, bindL_get ndP hp hu k⟩
    · obtain ⟨c, e⟩ := cell_has (n := s.heap.objs.size + 1) k
      refine .inr ⟨.inl k, c, e, ?_⟩
      have q := x.cell y c e
      rw [bindC_get ndP hp hu (by show scope.names.lookup y ≠ _; rw [k]; decide)] at q
      exact q
  · exact e0.hok.fresh (Nat.le_of_lt (x.above y c (PySem.mem_of_lookup h)))
  · unfold start
    show _ = N.length
    rw [List.length_append, List.length_map, List.length_replicate]
    lia

/-- THE RULE: a def (or a method) of the text, by its body. The body's reading t is chosen for each entry; it is run at the parameters' values -/
theorem fn_of {CX : CXT} {P : Program} {w : World} {K : PySem.W.Frag} {mg : Str → Option Value} {base : Heap} {k : Nat} {f : Addr} {name qual : Str} {params : Arguments} {body : List Stmt} {scope : Scope} {dV kV doc pm cdv ct oc : Value} {an od : Option Addr}
    {osl : Array (Option Value)} {N ps : List Str} {sp : Sp} (lk : K.lookup f = some ⟨oc, od, .func (PySem.W.fnOf name qual params body scope dV kV doc pm an cdv ct), osl⟩) (hcd : PySem.W.codeIn K cdv qual = true) (S : FnScope N ps scope)
    (len : ∀ vs H Q E, sp vs H Q E → vs.length = ps.length)
    (hbody : ∀ (A : Around) (outer : List Env) (s : Shared) (H : Hp) (vs : List V) (Q : VK) (E : XK), Room k (A.deeper (envOfC qual scope s.heap.objs.size f cdv)) → sp vs H Q E →
      ∃ t, PSs (cxOf CX P w K mg base N qual scope f cdv A outer s H E) body t ∧ t { nx := fun _ H' => Q .non H', rt := Q } (start N vs) H) :
    FnOk P w K mg base CX (k + 1) f (PySem.W.fnOf name qual params body scope dV kV doc pm an cdv ct) ps sp := by
  refine ⟨len, fun A outer s H args us vs Q E hr e0 hb r hsp => ?_⟩
  have hl := len _ _ _ _ hsp
  have KX : K.In s.heap := e0.mod.kin.keeps fun b o e => (e0.bs b o e).1
  have lim : s.heap.NoLimit := e0.mod.nolimit.keeps fun b o e => (e0.bs b o e).1
  have hkind : ∀ y ∈ ps.zip us, scope.names.lookup y.1 = some .local ∨ (scope.names.lookup y.1 = some .cell ∧ ((cellsFrom (s.heap.objs.size + 1) scope.names []).lookup y.1).isSome = true) := fun ⟨n, v⟩ hy => by
    rcases S.par n (List.of_mem_zip hy).1 with q | q
    · exact .inl q
    · exact .inr ⟨q, PySem.W.cellsFrom_some _ _ _ (.inl q)⟩
  refine codeAny_call_function hr.depth (KX _ _ lk) rfl S.co S.gen rfl (PySem.W.codeRec_of KX hcd) (hb _ _ _ _ ?_)
  refine wpAny_newFunctionEnv_cells S.kind hkind fun env he s1 x => ?_
  subst he
  refine ⟨lim.keeps x.toInCall.keep, codeAny_func ?_⟩
  obtain ⟨t, ht, hq⟩ := hbody A outer s H vs Q E (hr.deeper _) hsp
  have I : Inv (cxOf CX P w K mg base N qual scope f cdv A outer s H E) [] (start N vs) H s1 := inv_start S hr.hd e0 hl r x
  refine wpAny_mono (ht [] s1 (start N vs) H _ I hq) (fun fl s' hs => ?_) fun e s' hs => hs
  have fin : ∀ {σ' : St} {H' : Hp} {v : V} {u : Value}, Inv (cxOf CX P w K mg base N qual scope f cdv A outer s H E) [] σ' H' s' → RelV v u → Q v H' → CE outer P w H s Q u s' :=
    fun {σ' H' v u} J rv q => ⟨v, H', J.os, J.bare, J.base, J.hok, rv, q⟩
  cases fl with
  | ret u =>
    obtain ⟨v, σ', H', J, rv, q⟩ := hs
    exact fin J rv q
  | next =>
    obtain ⟨σ', H', J, q⟩ := hs
    exact fin (v := V.non) (u := Value.none) J rfl q
  | brk =>
    obtain ⟨_, _, _, q⟩ := hs
    exact False.elim q
  | cont =>
    obtain ⟨_, _, _, q⟩ := hs
    exact False.elim q
section
variable {X : Cx} {x : Str} {p pos : Pos} {e : Expr} {es : List Expr} {t : TA} {id T : String} {r : List V → Hp → VK → Prop}
def tCB (r : List V → Hp → VK → Prop) (t : TA) : TE := fun σ H Q => t σ H fun vs H1 => r vs H1 Q
/-- f(e, ..), f a built-in function -/
theorem pe_callB (hc : CallR X (.builtin id) r) (hg : Gl X x) (hm : X.mg x = none) (hv : bootBuiltins x = some (.builtin id)) (ha : PA X (e :: es) t) (hn : x ≠ "__name__" := by decide) (hdb : (x == ("__debug__" : Str)) = false := by decide)
    (he : starEach (e :: es) X.env = (false, eval e X.env) :: starEach es X.env := by rfl) (hpl : (backTo pos (starEach es X.env)).any (·.1) = false := by rfl) : PE X (.Call (.Name x p) (e :: es) [] pos) (tCB r t) := by
  intro pins s σ H Q I h
  refine wpAny_Call_Name_kw (ld_blt I hg hm hv ?_ hn hdb)
  exact PyProof.Rows.callWith_builtin1 (thn (ha pos pins s σ H _ I h) fun us s1 ⟨vs, H1, I1, r1, q1⟩ => hc pins s1 σ H1 vs us Q I1 r1 q1) he hpl
/-- T(e, ..), T a built-in type -/
theorem pe_callTy (hc : CallR X (.type T) r) (hg : Gl X x) (hm : X.mg x = none) (hv : bootBuiltins x = some (.type T)) (ha : PA X (e :: es) t) (hn : x ≠ "__name__" := by decide) (hdb : (x == ("__debug__" : Str)) = false := by decide)
    (he : starEach (e :: es) X.env = (false, eval e X.env) :: starEach es X.env := by rfl) (hpl : (backTo pos (starEach es X.env)).any (·.1) = false := by rfl) : PE X (.Call (.Name x p) (e :: es) [] pos) (tCB r t) := by
  intro pins s σ H Q I h
  refine wpAny_Call_Name_kw (ld_blt I hg hm hv ?_ hn hdb)
  exact PyProof.Rows.callWith_type1 (thn (ha pos pins s σ H _ I h) fun us s1 ⟨vs, H1, I1, r1, q1⟩ => hc pins s1 σ H1 vs us Q I1 r1 q1) he hpl
end
end L2

namespace HT
open PySem PyProof.Rows



section
open PySem.SeqAt
open PySem.AutoSeq1 (wpAny_loadPart')
open PySem.MeetsSeq PySem.MeetsSeq2 PySem.MeetsSeq3

end

section
variable {prog : Program} {w : World} {A : Around} {E : Value → Shared → Prop} {s : Shared}
def sIx (n d : Nat) : Option Int → Nat
  | none => d
  | some v => if v < 0 then (v + (n : Int)).toNat else min v.toNat n
theorem sIx_le (n d : Nat) (hd : d ≤ n) (o : Option Int) : sIx n d o ≤ n := by
  cases o with
  | none => exact hd
  | some v =>
    show (if v < 0 then (v + (n : Int)).toNat else min v.toNat n) ≤ n
    by_cases hv : v < 0
    · rw [if_pos hv]; lia
    · rw [if_neg hv]; exact Nat.min_le_right _ _
theorem clip_eq (v : Int) (n d : Nat) : (if v < 0 then max (v + (n : Int)) 0 else min v (n : Int)) = ((sIx n d (some v) : Nat) : Int) := by
  show (if v < 0 then max (v + (n : Int)) 0 else min v (n : Int)) = (((if v < 0 then (v + (n : Int)).toNat else min v.toNat n) : Nat) : Int)
  by_cases hv : v < 0
  · simp only [if_pos hv]; lia
  · simp only [if_neg hv]; lia
theorem adjust_gen (lo hi : Option Int) (n : Nat) : Builtin.Slice.sliceAdjust lo hi 1 (n : Int) = (((sIx n 0 lo : Nat) : Int), ((sIx n n hi : Nat) : Int)) := by
  have h1 : ¬ ((1 : Int) < 0) := by lia
  unfold Builtin.Slice.sliceAdjust
  simp only [h1, if_false]
  refine Prod.ext ?_ ?_
  · cases lo with
    | none => rfl
    | some v => exact clip_eq v n 0
  · cases hi with
    | none => rfl
    | some v => exact clip_eq v n n
theorem places_gen (i j : Nat) : Builtin.Slice.slicePlaces (i : Int) (j : Int) 1 = j - i := by
  unfold Builtin.Slice.slicePlaces
  have h1 : (1 : Int) > 0 := by lia
  simp only [h1, if_true, Int.ediv_one]
  split <;> lia
theorem slicePart_ {v : Value} {o : Option Int} {Q : Option Int → Shared → Prop} (p : IsPart v o) (h : Q o s) : wpAny (model prog w) A (Builtin.Slice.slicePartIndex v) Q E s := by
  cases p with
  | none => exact slicePart_none h
  | int i t => exact slicePart_int h
theorem sliceApplied_gen {sl : Addr} {vl vu : Value} {lo hi : Option Int} {n : Nat} {Q : Int × Int × Nat → Shared → Prop} (hs : s.heap.IsSliceOf sl vl vu .none) (pl : IsPart vl lo) (pu : IsPart vu hi)
    (h : Q (((sIx n 0 lo : Nat) : Int), 1, sIx n n hi - sIx n 0 lo) s) : wpAny (model prog w) A (Builtin.Slice.sliceApplied (.ref sl) (pure (n : Int))) Q E s := by
  obtain ⟨os, hos, hcs, hds⟩ := id hs
  unfold Builtin.Slice.sliceApplied Builtin.Slice.sliceFields
  refine wpAny_bind (wpAny_bind (wpAny_field hos hds (x := vl) rfl (wpAny_bind (wpAny_field hos hds (x := vu) rfl (wpAny_bind (wpAny_field hos hds (x := .none) rfl (wpAny_pure ?_)))))))
  refine wpAny_bind (slicePart_none ?_)
  show wpAny _ _ (if ((1 : Int) == 0) = true then _ else _) _ _ s
  rw [if_neg (by decide)]
  refine wpAny_bind (slicePart_ pl (wpAny_bind (slicePart_ pu (wpAny_bind (wpAny_pure ?_)))))
  show wpAny _ _ (match Builtin.Slice.sliceAdjust lo hi 1 (n : Int) with | (lo, hi) => pure (lo, (1 : Int), Builtin.Slice.slicePlaces lo hi 1)) _ _ s
  rw [adjust_gen lo hi n]
  show wpAny _ _ (pure (((sIx n 0 lo : Nat) : Int), (1 : Int), Builtin.Slice.slicePlaces ((sIx n 0 lo : Nat) : Int) ((sIx n n hi : Nat) : Int) 1)) _ _ s
  rw [places_gen]
  exact wpAny_pure h
theorem pick_gen (xs : Array Value) (i k : Nat) : ((List.range k).filterMap fun (m : Nat) => xs[((i : Int) + (m : Int) * 1).toNat]?).toArray = ((xs.toList.drop i).take k).toArray := by
  have e : (fun (m : Nat) => xs[((i : Int) + (m : Int) * 1).toNat]?) = fun m => xs[i + m]? := by
    funext m
    have : ((i : Int) + (m : Int) * 1).toNat = i + m := by lia
    rw [this]
  rw [e]
  have := pick_run xs i k
  rw [List.filterMap_map] at this
  have e2 : ((fun x => xs[x]?) ∘ fun x => i + x) = fun m => xs[i + m]? := rfl
  rw [e2] at this
  rw [this]

theorem getItem_tuple_cut {t sl : Addr} {items : Array Value} {vl vu : Value} {lo hi : Option Int} {Q : Value → Shared → Prop} (ht : IsTup s.heap t items) (hs : s.heap.IsSliceOf sl vl vu .none) (pl : IsPart vl lo) (pu : IsPart vu hi)
    (hw : ¬ (sIx items.size 0 lo = 0 ∧ sIx items.size items.size hi = items.size))
    (h : Q (.ref s.heap.objs.size) { s with heap := s.heap.push { cls := .type "tuple", data := .seq ((items.toList.drop (sIx items.size 0 lo)).take (sIx items.size items.size hi - sIx items.size 0 lo)).toArray } })
    (hsz : items.size ≤ sizeLine) : wpAny (model prog w) A (getItem (.ref t) (.ref sl)) Q E s := by
  have htake : sizeOk (.seq ((items.toList.drop (sIx items.size 0 lo)).take (sIx items.size items.size hi - sIx items.size 0 lo)).toArray) := by
    show ((items.toList.drop (sIx items.size 0 lo)).take (sIx items.size items.size hi - sIx items.size 0 lo)).toArray.size ≤ sizeLine
    rw [List.size_toArray, List.length_take, List.length_drop, Array.length_toList]
    lia
  have hj : sIx items.size items.size hi ≤ items.size := sIx_le _ _ (Nat.le_refl _) hi
  obtain ⟨os, hos, hcs, hds⟩ := id hs
  have hTs : s.TypeIs (.ref sl) "slice" := ⟨os, hos, hcs⟩
  unfold getItem
  try with_reducible refine wpAny_holding ?_
  first | refine wpAny_bind (wpAny_pure ?_) | skip
  refine wpAny_bind (wpAny_sequenceKey ht.typeIs (by decide) ?_)
  refine wpAny_bind (wpAny_callSpecial?_slot (name := Str.ofString "__getitem__") ht.typeIs PyProof.Rows.slot_tuple_getitem
    (wpAny_call_entry PyProof.Rows.slot_tuple_getitem ht.typeIs entry_tuple_getitem ?_ (args_tuple_getitem _ _)))
  show wpAny _ _ (Builtin.Tuple.tupleItemsOf (.ref t) >>= _) _ _ s
  refine wpAny_bind (tupleItemsOf_ ht ?_)
  refine wpAny_bind (wpAny_typeOf hTs ?_)
  rw [if_pos (by decide)]
  refine wpAny_bind (sliceApplied_gen hs pl pu ?_)
  have hno : ¬ ((((sIx items.size 0 lo : Nat) : Int) == 0 && (1 : Int) == 1 && (sIx items.size items.size hi - sIx items.size 0 lo) == items.size) = true) := by
    intro q
    rw [Bool.and_eq_true, Bool.and_eq_true] at q
    have q1 : ((sIx items.size 0 lo : Nat) : Int) = 0 := eq_of_beq q.1.1
    have q2 : sIx items.size items.size hi - sIx items.size 0 lo = items.size := eq_of_beq q.2
    exact hw ⟨by lia, by lia⟩
  show wpAny _ _ (if (((sIx items.size 0 lo : Nat) : Int) == 0 && (1 : Int) == 1 && (sIx items.size items.size hi - sIx items.size 0 lo) == items.size) = true then _ else _) _ _ s
  rw [if_neg hno, pick_gen]
  first
    | exact wpAny_bind (m := Builtin.Tuple.tupleExact _) (wpAny_newObj_type (wpAny_pure ⟨_, rfl, wpAny_pure h⟩) htake)
    | exact wpAny_bind (m := Builtin.Tuple.tupleExact _) (wpAny_newObj_type (wpAny_bind (wpAny_pure (wpAny_pure ⟨_, rfl, wpAny_pure h⟩))) htake)
    | exact wpAny_bind (wpAny_bind (m := Builtin.Tuple.tupleExact _) (wpAny_newObj_type (wpAny_pure (wpAny_pure ⟨_, rfl, wpAny_pure h⟩)) htake))
    | exact wpAny_bind (wpAny_bind (m := Builtin.Tuple.tupleExact _) (wpAny_newObj_type (wpAny_pure ⟨_, rfl, wpAny_pure h⟩) htake))
end
end HT

namespace L2
open PySem PySem.Spec PyProof.Rows

/-! ### the parts of a slice -/
abbrev TO := St → Hp → (Option Int → Hp → Prop) → Prop
/-- a slice's part (left out, or an int) -/
def PO (X : Cx) (e : Option Expr) (t : TO) : Prop :=
  ∀ (pins : List (Addr × Obj)) (s : Shared) (σ : St) (H : Hp) (Q : Option Int → Hp → Prop), Inv X pins σ H s → t σ H Q →
    wpAny (model X.prog X.w) X.A (evalPart e X.env) (fun u s' => ∃ o H', Inv X pins σ H' s' ∧ IsPart u o ∧ Q o H') X.xe s
def tNoPart : TO := fun _ H Q => Q none H
def tPart (t : TE) : TO := fun σ H Q => t σ H fun x H1 => ∃ i, x = .int i ∧ Q (some i) H1


section
variable {X : Cx} {e : Expr} {te : TE} {lo hi : Option Expr} {tl th : TO} {pos p2 : Pos}
theorem po_none : PO X none tNoPart := by
  intro pins s σ H Q I h
  rw [evalPart_none]
  exact wpAny_pure ⟨none, H, I, .none, h⟩
theorem po_some (h : PE X e te) : PO X (some e) (tPart te) := by
  intro pins s σ H Q I hw
  rw [evalPart_some]
  refine thn (h pins s σ H _ I hw) fun u s1 ⟨x, H1, I1, r1, q1⟩ => ?_
  obtain ⟨i, rfl, q⟩ := q1
  obtain ⟨t, rfl⟩ := r1
  exact ⟨some i, H1, I1, .int i t, q⟩

/-- what a slice of a value is, by values: the slice object stands at sl -/
def SlR (X : Cx) (r : V → Option Int → Option Int → Hp → VK → Prop) : Prop :=
  ∀ (pins : List (Addr × Obj)) (s : Shared) (σ : St) (H : Hp) (x : V) (v vl vu : Value) (lo hi : Option Int) (sl : Addr) (Q : VK), Inv X pins σ H s → RelV x v → s.heap.IsSliceOf sl vl vu .none → IsPart vl lo → IsPart vu hi → r x lo hi H Q →
    ∃ T id, typeLookup (.type T) "__getitem__" = pure (some (.builtin id)) ∧ s.TypeIs v T ∧ wpAny (model X.prog X.w) X.A (getItem v (.ref sl)) (EP X pins σ Q) X.xe s
theorem SlR.or {r r' : V → Option Int → Option Int → Hp → VK → Prop} (h : SlR X r) (h' : SlR X r') : SlR X (fun x lo hi H Q => r x lo hi H Q ∨ r' x lo hi H Q) := by
  intro pins s σ H x v vl vu lo hi sl Q I rx hs pl pu q
  rcases q with q | q
  · exact h pins s σ H x v vl vu lo hi sl Q I rx hs pl pu q
  · exact h' pins s σ H x v vl vu lo hi sl Q I rx hs pl pu q
def tSl (r : V → Option Int → Option Int → Hp → VK → Prop) (te : TE) (tl th : TO) : TE := fun σ H Q => te σ H fun x H1 => tl σ H1 fun l H2 => th σ H2 fun u H3 => r x l u H3 Q
/-- a[lo:hi], any a -/
theorem pe_slice {r : V → Option Int → Option Int → Hp → VK → Prop} (hr : SlR X r) (he : PE X e te) (hl : PO X lo tl) (hu : PO X hi th) : PE X (.Subscript e (.Slice lo hi none p2) pos) (tSl r te tl th) := by
  intro pins s σ H Q I h
  refine Subscript_ (thn (he pins s σ H _ I h) fun v s1 ⟨x, H1, I1, r1, q1⟩ => ?_)
  refine wpAny_Slice (thn (hl pins s1 σ H1 _ I1 q1) fun vl s2 ⟨l, H2, I2, pl, q2⟩ => thn (hu pins s2 σ H2 _ I2 q2) fun vu s3 ⟨u, H3, I3, pu, q3⟩ => ?_)
  rw [evalPart_none]
  refine wpAny_pure ?_
  have I4 : Inv X pins σ H3 { s3 with heap := s3.heap.push { cls := .type "slice", data := .fields #[vl, vu, .none] } } := I3.kept (t' := s3.toks) fun b ob q => Heap.get?_push_of_some _ q
  obtain ⟨T, id, hT, ht, hg⟩ := hr pins { s3 with heap := s3.heap.push { cls := .type "slice", data := .fields #[vl, vu, .none] } } σ H3 x v vl vu l u s3.heap.objs.size Q I4 r1 (Heap.IsSliceOf.new ..) pl pu q3
  show wpAny (model X.prog X.w) X.A (subscriptTail e (.Slice lo hi none p2) v (.ref s3.heap.objs.size)) (EP X pins σ Q) X.xe { s3 with heap := s3.heap.push { cls := .type "slice", data := .fields #[vl, vu, .none] } }
  exact tail_any (ops := [.ref s3.heap.objs.size, v]) ht hT hg (by with_unfolding_all rfl)

/-- the items of xs[lo:hi] -/
def cutV (xs : List V) (lo hi : Option Int) : List V := (xs.drop (HT.sIx xs.length 0 lo)).take (HT.sIx xs.length xs.length hi - HT.sIx xs.length 0 lo)
theorem cutV_length (xs : List V) (lo hi : Option Int) : (cutV xs lo hi).length ≤ xs.length := by
  unfold cutV
  rw [List.length_take, List.length_drop]
  lia
/-- t[lo:hi], not the whole of it (the whole would be t itself) -/
def rSlT (K : PySem.W.Frag) : V → Option Int → Option Int → Hp → VK → Prop := fun x lo hi H Q => ∃ a xs, x = .ref a ∧ SqT K H a xs ∧
  ¬ (HT.sIx xs.length 0 lo = 0 ∧ HT.sIx xs.length xs.length hi = xs.length) ∧ ∀ p, H p = none → Q (.ref p) (upd H p (.tup (cutV xs lo hi)))
theorem sl_tup : SlR X (rSlT X.K) := by
  intro pins s σ H x v vl vu lo hi sl Q I rx hs pl pu h
  obtain ⟨a, xs, rfl, hx, hw, q⟩ := h
  cases rx
  obtain ⟨its, r, ht, hz⟩ := I.tuple hx
  have hlen : its.toArray.size = xs.length := by rw [List.size_toArray]; exact r.length.symm
  refine ⟨"tuple", _, PyProof.Rows.slot_tuple_getitem.lookup, ht.typeIs, ?_⟩
  refine HT.getItem_tuple_cut ht hs pl pu (by rw [hlen]; exact hw) ?_ (by rw [hlen]; exact hz)
  rw [hlen]
  refine ⟨.ref s.heap.objs.size, _, I.laid (t' := s.toks) (o := .tup (cutV xs lo hi)) (fun b ob q => Heap.get?_push_of_some _ q) (Nat.le_refl _) ?_, rfl, q _ (I.hok.fresh (Nat.le_refl _))⟩
  exact ⟨Nat.le_trans (cutV_length xs lo hi) hz, _, (r.drop (HT.sIx xs.length 0 lo)).take (HT.sIx xs.length xs.length hi - HT.sIx xs.length 0 lo), IsTup.new _ _⟩

/-! ### t < u, t + u -/
theorem Vals.nil_iff {xs : List V} {us : List Value} (r : Vals xs us) : us = [] ↔ xs = [] := by
  cases r with
  | nil => simp
  | cons _ _ => simp
end

/-! ### places -/
/-- the place that an index of any sign means -/
def ixN (n : Nat) (i : Int) : Option Nat := if 0 ≤ i then (if i < n then some i.toNat else none) else if -(n : Int) ≤ i then some (i + n).toNat else none
def atI {α : Type} (xs : List α) (i : Int) : Option α := (ixN xs.length i).bind fun j => xs[j]?
theorem ixN_seq {n : Nat} {i : Int} {j : Nat} (h : ixN n i = some j) : seqIndex? i n = some j ∧ j < n ∧ -(n : Int) ≤ i ∧ i < n := by
  unfold ixN at h
  by_cases h0 : 0 ≤ i
  · rw [if_pos h0] at h
    by_cases h1 : i < n
    · rw [if_pos h1] at h
      have e : i.toNat = j := Option.some.inj h
      exact ⟨by rw [seqIndex_of h0 h1, e], by lia, by lia, h1⟩
    · rw [if_neg h1] at h; cases h
  · rw [if_neg h0] at h
    by_cases h1 : -(n : Int) ≤ i
    · rw [if_pos h1] at h
      have e : (i + n).toNat = j := Option.some.inj h
      exact ⟨by rw [seqIndex_neg (by lia) h1, e], by lia, h1, by lia⟩
    · rw [if_neg h1] at h; cases h
theorem atI_get {α : Type} {xs : List α} {i : Int} {v : α} (h : atI xs i = some v) : ∃ j, seqIndex? i xs.length = some j ∧ xs[j]? = some v ∧ j < xs.length ∧ -(xs.length : Int) ≤ i ∧ i < xs.length := by
  unfold atI at h
  cases e : ixN xs.length i with
  | none => rw [e] at h; cases h
  | some j =>
    rw [e] at h
    obtain ⟨h1, h2, h3, h4⟩ := ixN_seq e
    exact ⟨j, h1, h, h2, h3, h4⟩

/-! ### what may be subscripted -/
/-- what stands as an index of a plain subscript -/
def PlainIx (b : Expr) : Prop := ∀ o i, subscripted b false o i = operate [o, i] (getItem o i)
/-- a subscript by values -/
def IxR (X : Cx) (r : R2) : Prop :=
  ∀ (value slice : Expr) (pins : List (Addr × Obj)) (s : Shared) (σ : St) (H : Hp) (x y : V) (v u : Value) (Q : VK), Inv X pins σ H s → RelV x v → RelV y u → r x y H Q →
    subscripted slice false v u = operate [v, u] (getItem v u) → wpAny (model X.prog X.w) X.A (subscriptTail value slice v u) (EP X pins σ Q) X.xe s
/-- a call of a builtin's method by values: the receiver, the arguments -/
def MtR (X : Cx) (id : String) (r : V → List V → Hp → VK → Prop) : Prop :=
  ∀ (pins : List (Addr × Obj)) (s : Shared) (σ : St) (H : Hp) (x : V) (xs : List V) (v : Value) (us : List Value) (Q : VK), Inv X pins σ H s → RelV x v → Vals xs us → r x xs H Q →
    wpAny (model X.prog X.w) X.A (call (.builtin id) (v :: us)) (EP X pins σ Q) X.xe s
section
variable {X : Cx} {a b : Expr} {ta tb : TE} {pos : Pos}
theorem IxR.or {r r' : R2} (h : IxR X r) (h' : IxR X r') : IxR X (fun x y H Q => r x y H Q ∨ r' x y H Q) := by
  intro value slice pins s σ H x y v u Q I rx ry q hs
  rcases q with q | q
  · exact h value slice pins s σ H x y v u Q I rx ry q hs
  · exact h' value slice pins s σ H x y v u Q I rx ry q hs
/-- a[b] -/
theorem pe_ix {r : R2} (hr : IxR X r) (ha : PE X a ta) (hb : PE X b tb) (hs : PlainIx b) : PE X (.Subscript a b pos) (tOp r ta tb) := by
  intro pins s σ H Q I h
  exact Subscript_ (binT ha hb I h fun v u s2 x y H2 I2 rx ry q => hr a b pins s2 σ H2 x y v u Q I2 rx ry q (hs _ _))

def rIxL (K : PySem.W.Frag) : R2 := fun x y H Q => ∃ p xs i v, x = .ref p ∧ y = .int i ∧ SqL K H p xs ∧ atI xs i = some v ∧ Q v H
def rIxT (K : PySem.W.Frag) : R2 := fun x y H Q => ∃ p xs i v, x = .ref p ∧ y = .int i ∧ SqT K H p xs ∧ atI xs i = some v ∧ Q v H
def rIxS : R2 := fun x y H Q => ∃ z i c, x = .str z ∧ y = .int i ∧ z.length ≤ sizeLine ∧ atI z.cps.toList i = some c ∧ Q (.str ⟨#[c]⟩) H
theorem ix_list : IxR X (rIxL X.K) := by
  intro value slice pins s σ H x y v u Q I rx ry h hs
  obtain ⟨p, xs, i, z, rfl, rfl, hq, he, q⟩ := h
  cases rx
  obtain ⟨t, rfl⟩ := ry
  obtain ⟨its, r, pl, hz⟩ := I.list hq
  obtain ⟨j, h1, h2, h3, h4, h5⟩ := atI_get he
  obtain ⟨w, ew, rw'⟩ := r.get h2
  have hl := r.length
  have hn := line63
  have fin : EP X pins σ Q w s := ⟨z, H, I, rw', q⟩
  by_cases h0 : 0 ≤ i
  · have hj : i.toNat = j := by
      rw [seqIndex_of h0 h5] at h1
      exact Option.some.inj h1
    exact item_listR pl.isList h0 (by lia) (by rw [hj]; simpa using ew) fin hs
  · have hj : (i + (its.toArray.size : Int)).toNat = j := by
      rw [seqIndex_neg (by lia) h4] at h1
      rw [List.size_toArray, ← hl]
      exact Option.some.inj h1
    exact subscriptTail_builtinR (x := w) pl.isList.typeIs slot_list_getitem.lookup
      (wpAny_getItem_list_neg (Q := fun r s' => r = w ∧ EP X pins σ Q r s') pl.isList (by lia) (by rw [List.size_toArray] <;> lia) (by lia) (by rw [hj]; simpa using ew) ⟨rfl, fin⟩) hs
theorem ix_tup : IxR X (rIxT X.K) := by
  intro value slice pins s σ H x y v u Q I rx ry h hs
  obtain ⟨p, xs, i, z, rfl, rfl, hq, he, q⟩ := h
  cases rx
  obtain ⟨t, rfl⟩ := ry
  obtain ⟨its, r, pl, hz⟩ := I.tuple hq
  obtain ⟨j, h1, h2, h3, h4, h5⟩ := atI_get he
  obtain ⟨w, ew, rw'⟩ := r.get h2
  have hl := r.length
  have hn := line63
  have fin : EP X pins σ Q w s := ⟨z, H, I, rw', q⟩
  exact subscriptTail_builtinR (x := w) pl.typeIs slot_tuple_getitem.lookup
    (getItem_tuple (j := j) (Q := fun r s' => r = w ∧ EP X pins σ Q r s') pl (by lia) (by lia) (by rw [List.size_toArray, ← hl]; exact h1) (by simpa using ew) ⟨rfl, fin⟩) hs
theorem ix_str : IxR X rIxS := by
  intro value slice pins s σ H x y v u Q I rx ry h hs
  obtain ⟨z, i, c, rfl, rfl, hz, he, q⟩ := h
  obtain ⟨t, rfl⟩ := rx
  obtain ⟨t', rfl⟩ := ry
  obtain ⟨j, h1, h2, h3, h4, h5⟩ := atI_get he
  have hl : z.cps.toList.length = z.length := by simp [Str.length]
  rw [hl] at h1 h4 h5
  have hn := line63
  exact tail_any (typeIs_str s z t) slot_str_getitem.lookup (getItem_str (c := c) (by
    have e1 : decide (i < -(2 ^ 63 : Int)) = false := decide_eq_false (by lia)
    have e2 : decide (i ≥ 2 ^ 63) = false := decide_eq_false (by lia)
    rw [e1, e2, Bool.or_false]) (by rw [h1]; simpa using h2) ⟨.str ⟨#[c]⟩, H, I.tok _, ⟨_, rfl⟩, q⟩) hs

/-! ### xs[i] = v, any sign -/

/-! ### slices -/
theorem slice_bounds (lo hi : Option Int) (n : Nat) : (sliceBounds lo hi none n).1 = ((HT.sIx n 0 lo : Nat) : Int) ∧ (sliceBounds lo hi none n).2.1 = ((HT.sIx n n hi : Nat) : Int) ∧ (sliceBounds lo hi none n).2.2 = 1 := by
  refine ⟨?_, ?_, rfl⟩
  · cases lo with
    | none => simp [sliceBounds, HT.sIx]
    | some i =>
      simp only [sliceBounds, HT.sIx, Option.getD_none, show (1 : Int) > 0 by decide, if_true]
      by_cases h : i < 0
      · simp only [h, if_true] <;> lia
      · simp only [h, if_false] <;> lia
  · cases hi with
    | none => simp [sliceBounds, HT.sIx]
    | some i =>
      simp only [sliceBounds, HT.sIx, Option.getD_none, show (1 : Int) > 0 by decide, if_true]
      by_cases h : i < 0
      · simp only [h, if_true] <;> lia
      · simp only [h, if_false] <;> lia
theorem slicePick_cut (its : List Value) (lo hi : Option Int) : slicePick its.toArray lo hi none = ((its.drop (HT.sIx its.length 0 lo)).take (HT.sIx its.length its.length hi - HT.sIx its.length 0 lo)).toArray := by
  obtain ⟨h1, h2, h3⟩ := slice_bounds lo hi its.toArray.size
  unfold slicePick
  rw [h1, h2, h3]
  simp only [sliceRange_one, pick_run, List.size_toArray] <;> rfl
/-- xs[lo:hi] of a list: a new list -/
def rSlL (K : PySem.W.Frag) : V → Option Int → Option Int → Hp → VK → Prop := fun x lo hi H Q => ∃ a xs, x = .ref a ∧ SqL K H a xs ∧ ∀ p, H p = none → Q (.ref p) (upd H p (.lst (cutV xs lo hi)))
theorem sl_list : SlR X (rSlL X.K) := by
  intro pins s σ H x v vl vu lo hi sl Q I rx hs pl pu h
  obtain ⟨a, xs, rfl, hx, q⟩ := h
  cases rx
  obtain ⟨its, r, ht, hz⟩ := I.list hx
  have hlen := r.length
  refine ⟨"list", _, slot_list_getitem.lookup, ht.isList.typeIs, ?_⟩
  refine wpAny_getItem_list_slice ht.isList hs pl pu .none (by simp) ?_ (by rw [List.size_toArray] <;> lia)
  rw [slicePick_cut, ← hlen]
  refine ⟨.ref s.heap.objs.size, _, I.laid (t' := s.toks) (o := .lst (cutV xs lo hi)) (fun b ob q => Heap.get?_push_of_some _ q) (Nat.le_refl _) ?_, rfl, q _ (I.hok.fresh (Nat.le_refl _))⟩
  exact ⟨Nat.le_trans (cutV_length xs lo hi) hz, _, 0, (r.drop (HT.sIx xs.length 0 lo)).take (HT.sIx xs.length xs.length hi - HT.sIx xs.length 0 lo), Heap.get?_push_size _ rfl⟩

/-! ### in, not in: flat items -/
def flatV : V → Bool
  | .non => true
  | .bl _ => true
  | .int _ => true
  | .str _ => true
  | _ => false
/-- == of flat values -/
def eqV : V → V → Bool
  | .non, .non => true
  | .bl a, .bl b => a == b
  | .bl a, .int b => (if a then 1 else 0) == b
  | .int a, .bl b => a == (if b then 1 else 0)
  | .int a, .int b => a == b
  | .str a, .str b => a == b
  | _, _ => false
theorem eqAt_V {A : Around} {s : Shared} {y x : V} {u v : Value} (ry : RelV y u) (rx : RelV x v) (fy : flatV y = true) (fx : flatV x = true) : SeqAt.EqAt A s u v (eqV y x) := by
  cases y with
  | non =>
    cases ry
    cases x with
    | non => cases rx; exact SeqAt.EqAt.same _
    | bl b => cases rx; exact SeqAt.EqAt.none_bool b
    | int b => obtain ⟨t, rfl⟩ := rx; exact SeqAt.EqAt.none_int b t
    | str b => obtain ⟨t, rfl⟩ := rx; exact SeqAt.EqAt.none_str b t
    | _ => exact absurd (show false = true from fx) Bool.false_ne_true
  | bl a =>
    cases ry
    cases x with
    | non => cases rx; exact SeqAt.EqAt.bool_none a
    | bl b => cases rx; exact SeqAt.EqAt.bool_bool a b
    | int b => obtain ⟨t, rfl⟩ := rx; exact SeqAt.EqAt.bool_int a b t
    | str b => obtain ⟨t, rfl⟩ := rx; exact SeqAt.EqAt.bool_str a b t
    | _ => exact absurd (show false = true from fx) Bool.false_ne_true
  | int a =>
    obtain ⟨t', rfl⟩ := ry
    cases x with
    | non => cases rx; exact SeqAt.EqAt.int_none a t'
    | bl b => cases rx; exact SeqAt.EqAt.int_bool a t' b
    | int b => obtain ⟨t, rfl⟩ := rx; exact SeqAt.EqAt.int_int a t' b t
    | str b => obtain ⟨t, rfl⟩ := rx; exact SeqAt.EqAt.int_str a t' b t
    | _ => exact absurd (show false = true from fx) Bool.false_ne_true
  | str a =>
    obtain ⟨t', rfl⟩ := ry
    cases x with
    | non => cases rx; exact SeqAt.EqAt.str_none a t'
    | bl b => cases rx; exact SeqAt.EqAt.str_bool a t' b
    | int b => obtain ⟨t, rfl⟩ := rx; exact SeqAt.EqAt.str_int a t' b t
    | str b => obtain ⟨t, rfl⟩ := rx; exact SeqAt.EqAt.str_str a t' b t
    | _ => exact absurd (show false = true from fx) Bool.false_ne_true
  | _ => exact absurd (show false = true from fy) Bool.false_ne_true
/-- the items' answers, read off the values (a value's own answer does not lean on its token) -/
def eqU (x : V) (u : Value) : Bool := match u with
  | .none => eqV .non x
  | .bool b => eqV (.bl b) x
  | .int i _ => eqV (.int i) x
  | .str z _ => eqV (.str z) x
  | _ => false
theorem eqU_of {x y : V} {u : Value} (r : RelV y u) (f : flatV y = true) : eqU x u = eqV y x := by
  cases y with
  | non => cases r; rfl
  | bl b => cases r; rfl
  | int i => obtain ⟨t, rfl⟩ := r; rfl
  | str z => obtain ⟨t, rfl⟩ := r; rfl
  | _ => exact absurd (show false = true from f) Bool.false_ne_true
theorem any_eqU {x : V} : ∀ {xs : List V} {us : List Value}, Vals xs us → xs.all flatV = true → us.any (eqU x) = xs.any fun y => eqV y x
  | _, _, .nil, _ => rfl
  | y :: xs, u :: us, .cons r t, f => by
    rw [List.all_cons, Bool.and_eq_true] at f
    rw [List.any_cons, List.any_cons, eqU_of r f.1, any_eqU t f.2]
theorem mem_eqAt {A : Around} {s : Shared} {x : V} {v : Value} (rx : RelV x v) (fx : flatV x = true) : ∀ {xs : List V} {us : List Value}, Vals xs us → xs.all flatV = true → ∀ u ∈ us, SeqAt.EqAt A s u v (eqU x u)
  | _, _, .nil, _ => fun u hu => by cases hu
  | y :: xs, u :: us, .cons r t, f => fun u' hu => by
    rw [List.all_cons, Bool.and_eq_true] at f
    rcases List.mem_cons.mp hu with rfl | hu
    · rw [eqU_of r f.1]; exact eqAt_V r rx f.1 fx
    · exact mem_eqAt rx fx t f.2 u' hu
def inV (x : V) (xs : List V) : Bool := xs.any fun y => eqV y x
/-- x in a list or tuple of flat items -/
def rIn (K : PySem.W.Frag) (neg : Bool) : R2 := fun x y H Q => ∃ p xs, y = .ref p ∧ (SqL K H p xs ∨ SqT K H p xs) ∧ flatV x = true ∧ xs.all flatV = true ∧ Q (.bl (if neg then !inV x xs else inV x xs)) H
theorem op_in_seq : OpR X (compareOp .In) (rIn X.K false) := by
  intro pins s σ H x y v u Q I rx ry h
  obtain ⟨p, xs, rfl, hq, fx, fs, q⟩ := h
  cases ry
  rcases hq with hq | hq
  · obtain ⟨its, r, pl, hz⟩ := I.list hq
    refine SeqAt.in_listAt (eqU x) pl.isList (fun w hw => mem_eqAt rx fx r fs w (by simpa using hw)) ⟨.bl _, H, I, rfl, ?_⟩
    rw [show its.toArray.any (eqU x) = its.any (eqU x) by simp, any_eqU r fs]
    exact q
  · obtain ⟨its, r, pl, hz⟩ := I.tuple hq
    refine SeqAt.in_tupleAt (eqU x) pl (fun w hw => mem_eqAt rx fx r fs w (by simpa using hw)) ⟨.bl _, H, I, rfl, ?_⟩
    rw [show its.toArray.any (eqU x) = its.any (eqU x) by simp, any_eqU r fs]
    exact q
theorem op_notIn_seq : OpR X (compareOp .NotIn) (rIn X.K true) := by
  intro pins s σ H x y v u Q I rx ry h
  obtain ⟨p, xs, rfl, hq, fx, fs, q⟩ := h
  cases ry
  rcases hq with hq | hq
  · obtain ⟨its, r, pl, hz⟩ := I.list hq
    refine SeqAt.notIn_listAt (eqU x) pl.isList (fun w hw => mem_eqAt rx fx r fs w (by simpa using hw)) ⟨.bl _, H, I, rfl, ?_⟩
    rw [show its.toArray.any (eqU x) = its.any (eqU x) by simp, any_eqU r fs]
    exact q
  · obtain ⟨its, r, pl, hz⟩ := I.tuple hq
    refine SeqAt.notIn_tupleAt (eqU x) pl (fun w hw => mem_eqAt rx fx r fs w (by simpa using hw)) ⟨.bl _, H, I, rfl, ?_⟩
    rw [show its.toArray.any (eqU x) = its.any (eqU x) by simp, any_eqU r fs]
    exact q

/-! ### len, list(x), tuple(x) of any list or tuple that is read -/
theorem call_len_seq : CallR X (.builtin "len") (fun xs H Q => ∃ p ys, xs = [.ref p] ∧ (SqL X.K H p ys ∨ SqT X.K H p ys) ∧ Q (.int ys.length) H) := by
  intro pins s σ H xs us Q I r h
  obtain ⟨p, ys, rfl, hq, q⟩ := h
  obtain ⟨u, rfl, rx⟩ := vals1 r
  cases rx
  have hn := line63
  rcases hq with hq | hq
  · obtain ⟨its, r', pl, hz⟩ := I.list hq
    have hlen := r'.length
    exact Calls.call_len_list pl.isList (by simp only [List.size_toArray] <;> lia) ⟨.int ys.length, H, I.tok _, ⟨s.toks + 1, by rw [List.size_toArray, hlen]⟩, q⟩
  · obtain ⟨its, r', pl, hz⟩ := I.tuple hq
    have hlen := r'.length
    exact len_tuple pl (by simp only [List.size_toArray] <;> lia) ⟨.int ys.length, H, I.tok _, ⟨s.toks + 1, by rw [List.size_toArray, hlen]⟩, q⟩
theorem call_len_str : CallR X (.builtin "len") (fun xs H Q => ∃ z, xs = [.str z] ∧ z.length ≤ sizeLine ∧ Q (.int z.length) H) := by
  intro pins s σ H xs us Q I r h
  obtain ⟨z, rfl, hz, q⟩ := h
  obtain ⟨u, rfl, t, rfl⟩ := vals1 r
  have hn := line63
  exact len_str (by lia) ⟨.int z.length, H, I.tok _, ⟨_, rfl⟩, q⟩
theorem call_list_of : CallR X (.type "list") (fun xs H Q => ∃ p ys, xs = [.ref p] ∧ (SqL X.K H p ys ∨ SqT X.K H p ys) ∧ ∀ l, H l = none → Q (.ref l) (upd H l (.lst ys))) := by
  intro pins s σ H xs us Q I r h
  obtain ⟨p, ys, rfl, hq, q⟩ := h
  obtain ⟨u, rfl, rx⟩ := vals1 r
  cases rx
  have fin : ∀ (its : List Value), Vals ys its → ys.length ≤ sizeLine → ∀ (h' : Heap) (c' : Nat), (∀ b o', s.heap.get? b = some o' → h'.get? b = some o') →
      h'.get? s.heap.objs.size = some { cls := .type "list", dict := none, data := .seq its.toArray c', slots := #[] } → EP X pins σ Q (.ref s.heap.objs.size) { s with heap := h' } := fun its r' hz h' c' kp e =>
    ⟨.ref s.heap.objs.size, _, I.laid (t' := s.toks) kp (Nat.le_refl _) (show ObjOk X.prog X.w _ h' _ (.lst ys) from ⟨hz, its, c', r', e⟩), rfl, q _ (I.hok.fresh (Nat.le_refl _))⟩
  rcases hq with hq | hq
  · obtain ⟨its, r', pl, hz⟩ := I.list hq
    have hlen := r'.length
    obtain ⟨o, ho, hc, n, hd⟩ := pl.isList
    exact call_list_seq p (.inl rfl) ho hc hd (fun h' c' kp e => fin its r' hz h' c' kp e) (by simp only [List.size_toArray] <;> lia)
  · obtain ⟨its, r', pl, hz⟩ := I.tuple hq
    have hlen := r'.length
    obtain ⟨o, ho, hc, n, hd⟩ := pl
    exact call_list_seq p (.inr rfl) ho hc hd (fun h' c' kp e => fin its r' hz h' c' kp e) (by simp only [List.size_toArray] <;> lia)
theorem call_tuple_of : CallR X (.type "tuple") (fun xs H Q => ∃ p ys, xs = [.ref p] ∧ ((SqL X.K H p ys ∧ ∀ l, H l = none → Q (.ref l) (upd H l (.tup ys))) ∨ (SqT X.K H p ys ∧ Q (.ref p) H))) := by
  intro pins s σ H xs us Q I r h
  obtain ⟨p, ys, rfl, h⟩ := h
  obtain ⟨u, rfl, rx⟩ := vals1 r
  cases rx
  rcases h with ⟨hq, q⟩ | ⟨hq, q⟩
  · obtain ⟨its, r', pl, hz⟩ := I.list hq
    have hlen := r'.length
    refine call_tuple_list pl.isList (fun h' kp => ?_) (by simp only [List.size_toArray] <;> lia)
    have I1 : Inv X pins σ H { s with heap := h' } := I.kept (t' := s.toks) kp
    have I2 : Inv X pins σ (upd H h'.objs.size (.tup ys)) { s with heap := h'.push { cls := .type "tuple", data := .seq its.toArray } } :=
      I1.laid (t' := s.toks) (fun b o e => Heap.get?_push_of_some _ e) (Nat.le_refl _) (show ObjOk X.prog X.w _ _ _ (.tup ys) from ⟨hz, its, r', IsTup.new _ _⟩)
    exact ⟨.ref h'.objs.size, _, I2, rfl, q _ (I1.hok.fresh (Nat.le_refl _))⟩
  · obtain ⟨its, r', pl, hz⟩ := I.tuple hq
    exact call_tuple_same pl ⟨.ref p, H, I, rfl, q⟩

/-! ### the call of a builtin's method: o.m(..) -/
/-- the value is of that builtin type -/
def tyV (K : PySem.W.Frag) (T : String) (x : V) (H : Hp) : Prop := match x with
  | .str _ => T = "str"
  | .int _ => T = "int"
  | .ref p => (T = "list" ∧ ∃ xs, SqL K H p xs) ∨ (T = "tuple" ∧ ∃ o, K.lookup p = some o ∧ o.cls = .type "tuple" ∧ o.dict = none) ∨
      (T = "dict" ∧ ((∃ kvs, H p = some (.dK kvs)) ∨ ∃ kvs, H p = some (.dT kvs))) ∨ (T = "set" ∧ ∃ S n, H p = some (.set S n))
  | _ => False
theorem tyV_is {pins : List (Addr × Obj)} {σ : St} {H : Hp} {s : Shared} {T : String} {x : V} {v : Value} (I : Inv X pins σ H s) (r : RelV x v) (ty : tyV X.K T x H) :
    s.TypeIs v T ∧ ∀ a, v = .ref a → ∃ ob, s.heap.get? a = some ob ∧ ob.dict = none := by
  cases x with
  | str z =>
    obtain ⟨t, rfl⟩ := r
    cases (show T = "str" from ty)
    exact ⟨typeIs_str s z t, fun _ e => nomatch e⟩
  | int i =>
    obtain ⟨t, rfl⟩ := r
    cases (show T = "int" from ty)
    exact ⟨typeIs_int s i t, fun _ e => nomatch e⟩
  | ref p =>
    cases r
    rcases ty with ⟨rfl, xs, hq⟩ | ⟨rfl, o, hk, hc, hd⟩ | ⟨rfl, hk⟩ | ⟨rfl, S, n, hk⟩
    · obtain ⟨its, _, pl, _⟩ := I.list hq
      refine ⟨pl.isList.typeIs, fun a e => ?_⟩
      cases e
      obtain ⟨o, n, e, c, hd, _⟩ := pl
      exact ⟨o, e, hd⟩
    · refine ⟨⟨o, I.kIn p o hk, hc⟩, fun a e => ?_⟩
      cases e
      exact ⟨o, I.kIn _ o hk, hd⟩
    · have z : ∃ o, s.heap.get? p = some o ∧ o.ExactDict := by
        rcases hk with ⟨kvs, hk⟩ | ⟨kvs, hk⟩
        · obtain ⟨_, _, _, _, o, _, _, e, ex, _⟩ := I.hok p _ hk
          exact ⟨o, e, ex⟩
        · obtain ⟨_, _, _, _, o, _, _, e, ex, _⟩ := I.hok p _ hk
          exact ⟨o, e, ex⟩
      obtain ⟨o, e, ex⟩ := z
      refine ⟨⟨o, e, ex.1⟩, fun a e2 => ?_⟩
      cases e2
      exact ⟨o, e, ex.2.1⟩
    · obtain ⟨o, _, _, _, e, ex, _⟩ := I.hok p _ hk
      refine ⟨⟨o, e, ex.1⟩, fun a e2 => ?_⟩
      cases e2
      exact ⟨o, e, ex.2.1⟩
  | _ => exact False.elim ty
def tBM (K : PySem.W.Frag) (T : String) (r : V → List V → Hp → VK → Prop) (to : TE) (t : TA) : TE := fun σ H Q => to σ H fun x H1 => tyV K T x H1 ∧ t σ H1 fun xs H2 => r x xs H2 Q
variable {o e : Expr} {es : List Expr} {to : TE} {t : TA} {name : Str} {apos cpos : Pos} {T id : String} {r : V → List V → Hp → VK → Prop}
theorem pe_bm (pa : PlainAttrs T) (slot : Slot T name id) (hty : typeOf (.builtin id) = pure (.type "method_descriptor")) (hm : MtR X id r) (ho : PE X o to) (ha : PA X (e :: es) t)
    (hbase : attributeBase o name X.env (eval o X.env) = eval o X.env := by rfl)
    (hfew : ((backTo cpos (starEach (e :: es) X.env)).all (fun x => !x.1) && (backToKw cpos (keywordEach [] X.env)).all (fun x => x.1.isSome)
      && decide ((e :: es).length + ([] : List Keyword).length + (if ([] : List Keyword).isEmpty then 0 else 1) < 30)) = true := by rfl)
    (hline : (apos.endLine == cpos.line) = true := by rfl) (hs : starEach (e :: es) X.env = (false, eval e X.env) :: starEach es X.env := by rfl) (hplain : (backTo cpos (starEach es X.env)).any (·.1) = false := by rfl) :
    PE X (.Call (.Attribute o name apos) (e :: es) [] cpos) (tBM X.K T r to t) := by
  intro pins s σ H Q I h
  refine wpAny_Call_method_late hbase hfew hline rfl (thn (ho pins s σ H _ I h) fun v s1 ⟨x, H1, I1, r1, ty, q1⟩ => ?_)
  obtain ⟨h1, h2⟩ := tyV_is I1 r1 ty
  refine ⟨T, id, pa, slot, hty, h1, h2, ?_⟩
  have hA := ha cpos pins s1 σ H1 _ I1 q1
  rw [hs] at hA ⊢
  refine Calls.callWith_builtin (by show (false || (backTo cpos (starEach es X.env)).any (·.1)) = false; rw [hplain] <;> rfl) (Calls.evalArgs_plain ?_)
  exact thn hA fun us s2 ⟨vs, H2, I2, r2, q2⟩ => hm pins s2 σ H2 x vs v us Q I2 r1 r2 q2
/- xs.append(e), list.index on a module's tuple .. are MtR facts of 06m -/
end

def MtM (X : Cx) (id : String) (r : V → List V → Hp → VK → Prop) : Prop :=
  ∀ (pins : List (Addr × Obj)) (s : Shared) (σ : St) (H : Hp) (x : V) (xs : List V) (v : Value) (us : List Value) (Q : VK), Inv X pins σ H s → RelV x v → Vals xs us → r x xs H Q →
    wpAny (model X.prog X.w) X.A (call (.builtin id) (v :: us)) (EP X pins σ Q) X.xe s

/-! ### lists of values -/
theorem Vals.one : ∀ {x : V} {us : List Value}, Vals [x] us → ∃ u, us = [u] ∧ RelV x u
  | _, _, .cons r .nil => ⟨_, rfl, r⟩

section
variable {X : Cx} {pins : List (Addr × Obj)} {σ : St} {H : Hp} {s : Shared} {l b : Addr} {xs ys zs : List V}
theorem Inv.lset {its its' : List Value} {n : Nat} {f : Array Value → Array Value} {t' : Nat} (I : Inv X pins σ H s) (hH : H l = some (.lst xs))
    (e : s.heap.get? l = some { cls := .type "list", data := .seq its.toArray n }) (hf : f its.toArray = its'.toArray) (hv : Vals ys its') (hz : ys.length ≤ sizeLine) :
    Inv X pins σ (upd H l (.lst ys)) { s with heap := s.heap.update l (Obj.mapSeq f), toks := t' } := by
  have q := PySem.IsL.update e f
  rw [hf] at q
  refine I.write (x := l) (e := l) (by rw [hH]; exact trivial) (.inl rfl) (fun b' u hb hu => (Heap.get?_update_other s.heap (Obj.mapSeq f) (Ne.symm hb)).trans hu) ⟨_, q⟩ ?_
  exact ⟨hz, its', _, hv, q⟩
theorem Inv.lnew {its : List Value} {t' : Nat} (I : Inv X pins σ H s) (hv : Vals ys its) (hz : ys.length ≤ sizeLine) :
    Inv X pins σ (upd H s.heap.objs.size (.lst ys)) { s with heap := s.heap.push { cls := .type "list", data := .seq its.toArray }, toks := t' } :=
  I.laid (fun _ _ q => Heap.get?_push_of_some _ q) (Nat.le_refl _) ⟨hz, its, 0, hv, Heap.get?_push_size _ rfl⟩
theorem Inv.fresh (I : Inv X pins σ H s) : H s.heap.objs.size = none := I.hok.fresh (Nat.le_refl _)
theorem Inv.lstM (I : Inv X pins σ H s) (hH : H l = some (.lst xs)) : xs.length ≤ sizeLine ∧ ∃ (its : List Value) (n : Nat), Vals xs its ∧ xs.length = its.length ∧ s.heap.get? l = some { cls := .type "list", data := .seq its.toArray n } := by
  obtain ⟨z, its, n, r, e⟩ := I.hok l _ hH
  exact ⟨z, its, n, r, r.length, e⟩

end

section
variable {X : Cx}
def rAppend : V → List V → Hp → VK → Prop := fun x vs H Q => ∃ l xs y, x = .ref l ∧ vs = [y] ∧ H l = some (.lst xs) ∧ xs.length < sizeLine ∧ Q .non (upd H l (.lst (xs ++ [y])))
theorem mt_append : MtM X "list.append" rAppend := by
  intro pins s σ H x vs v us Q I rx rv h
  obtain ⟨l, xs, y, rfl, rfl, hH, hz, q⟩ := h
  cases rx
  obtain ⟨u, rfl, ru⟩ := rv.one
  obtain ⟨z, its, n, r, hl, e⟩ := I.lstM hH
  refine call_meets F.slot_list_append ⟨_, e, rfl⟩ F.entry_list_append (F.args_list_append_2 _ _) (PySem.list_append l its.toArray n u (by rw [List.size_toArray]; lia)) ⟨e, ?_⟩
  refine ⟨.non, _, I.lset (its' := its ++ [u]) hH e (by simp) (r.append (.cons ru .nil)) ?_, rfl, q⟩
  rw [List.length_append, List.length_singleton]
  lia






/-! ### list + list, list += list, list * int -/

/-! ### del xs[i] -/
end

/-! ### xs[a:b] = ys -/
section
variable {prog : Program} {w : World} {A : Around} {E : Value → Shared → Prop} {s : Shared}
end

section
variable {X : Cx}
end

/-! ### lists of pairs as tables -/
section
variable {κ : Type} [DecidableEq κ]
def valV (kvs : List (κ × V)) (k : κ) : Option V := (kvs.find? fun kv => decide (kv.1 = k)).map (·.2)
/-- in its place, or at the end -/
def putK (kvs : List (κ × V)) (k : κ) (v : V) : List (κ × V) :=
  if (kvs.any fun kv => decide (kv.1 = k)) = true then kvs.map (fun kv => if kv.1 = k then (kv.1, v) else kv) else kvs ++ [(k, v)]

theorem valV_pos {p : κ × V} {r : List (κ × V)} {k : κ} (e : p.1 = k) : valV (p :: r) k = some p.2 := by simp [valV, List.find?_cons, e]
theorem valV_neg {p : κ × V} {r : List (κ × V)} {k : κ} (e : ¬ p.1 = k) : valV (p :: r) k = valV r k := by simp [valV, List.find?_cons, e]
theorem valV_any (k : κ) : ∀ kvs : List (κ × V), (kvs.any fun kv => decide (kv.1 = k)) = (valV kvs k).isSome
  | [] => rfl
  | p :: r => by
    rw [List.any_cons]
    by_cases e : p.1 = k
    · simp only [valV_pos e, decide_eq_true e, Bool.true_or, Option.isSome_some]
    · rw [valV_neg e, decide_eq_false e, Bool.false_or]; exact valV_any k r
theorem length_putK (kvs : List (κ × V)) (k : κ) (v : V) : (putK kvs k v).length ≤ kvs.length + 1 := by
  unfold putK
  split
  · rw [List.length_map]; lia
  · rw [List.length_append, List.length_cons, List.length_nil]; lia

theorem RelO.getD {o : Option V} {u : Option Value} {d : V} {d' : Value} (r : RelO o u) (rd : RelV d d') : RelV (o.getD d) (u.getD d') := by
  cases o with
  | none => cases u with
    | none => exact rd
    | some _ => exact (show False from r).elim
  | some _ => cases u with
    | none => exact (show False from r).elim
    | some _ => exact r

/-- raw tables of the same keys -/
theorem KV.val {kvs : List (κ × V)} {vs : List (κ × Value)} (r : KV kvs vs) (k : κ) : RelO (valV kvs k) (valueAt vs k) := by
  unfold KV at r
  induction r with
  | nil => exact True.intro
  | @cons p q ps qs h t ih =>
    obtain ⟨h1, h2⟩ := h
    by_cases e : p.1 = k
    · have e' : q.1 = k := h1.symm.trans e
      have b : valueAt (q :: qs) k = some q.2 := by simp [valueAt, List.find?_cons, e']
      rw [valV_pos e, b]; exact h2
    · have e' : ¬ q.1 = k := fun z => e (h1.trans z)
      have b : valueAt (q :: qs) k = valueAt qs k := by simp [valueAt, List.find?_cons, e']
      rw [valV_neg e, b]; exact ih
theorem KV.any {kvs : List (κ × V)} {vs : List (κ × Value)} (r : KV kvs vs) (k : κ) : (kvs.any fun kv => decide (kv.1 = k)) = vs.any fun kv => decide (kv.1 = k) := by
  unfold KV at r
  induction r with
  | nil => rfl
  | cons h t ih => rw [List.any_cons, List.any_cons, ih, h.1]
theorem KV.repl {kvs : List (κ × V)} {vs : List (κ × Value)} (r : KV kvs vs) (k : κ) {y : V} {u : Value} (ry : RelV y u) :
    KV (kvs.map fun kv => if kv.1 = k then (kv.1, y) else kv) (vs.map fun kv => if kv.1 = k then (kv.1, u) else kv) := by
  unfold KV at r ⊢
  induction r with
  | nil => exact .nil
  | @cons p q ps qs h t ih =>
    rw [List.map_cons, List.map_cons]
    refine .cons ?_ ih
    obtain ⟨h1, h2⟩ := h
    by_cases e : p.1 = k
    · rw [if_pos e, if_pos (h1.symm.trans e)]; exact ⟨h1, ry⟩
    · rw [if_neg e, if_neg (fun z => e (h1.trans z))]; exact ⟨h1, h2⟩
theorem KV.put {kvs : List (κ × V)} {vs : List (κ × Value)} (r : KV kvs vs) (k : κ) {y : V} {u : Value} (ry : RelV y u) : KV (putK kvs k y) (stored vs k u) := by
  unfold putK stored
  rw [r.any k]
  by_cases e : (vs.any fun kv => decide (kv.1 = k)) = true
  · rw [if_pos e, if_pos e]; exact r.repl k ry
  · rw [if_neg e, if_neg e]; exact Paired.snoc r ⟨rfl, ry⟩
theorem KV.length {kvs : List (κ × V)} {vs : List (κ × Value)} (r : KV kvs vs) : kvs.length = vs.length := Paired.length r
end


/-! ### a tracked dict, its keys ints and texts or tuples of these -/
theorem kV_is {P : Program} {w : World} {k : Key} {u : Value} (r : RelV (kV k) u) : (mixKind P w).is k u = true := by
  cases k with
  | inl i => obtain ⟨t, e⟩ := (show ∃ t, u = Value.int i t from r); subst e; exact mixKind_int P w i t
  | inr x => obtain ⟨t, e⟩ := (show ∃ t, u = Value.str x t from r); subst e; exact mixKind_str P w x t
theorem items_are {P : Program} {w : World} : ∀ {ks : List Key} {us : List Value}, Vals (ks.map kV) us → ItemsAre (mixKind P w) ks us
  | [], _, r => by rw [List.map_nil] at r; cases r; exact .nil
  | k :: ks, _, r => by
    rw [List.map_cons] at r
    cases r with
    | cons h t => exact .cons (kV_is h) (items_are t)

abbrev KT : List (List Key × Addr × V) → List (List Key × Addr × Value) → Prop := Paired fun p q => p.1 = q.1 ∧ p.2.1 = q.2.1 ∧ RelV p.2.2 q.2.2
def atT (kvs : List (List Key × Addr × V)) (k : List Key) : Option V := (kvs.find? fun kv => decide (kv.1 = k)).map (·.2.2)
theorem KT.val {kvs : List (List Key × Addr × V)} {xs : List (List Key × Addr × Value)} (r : KT kvs xs) (k : List Key) : RelO (atT kvs k) ((atKey xs k).map (·.2)) := by
  induction r with
  | nil => exact True.intro
  | @cons p q ps qs h t ih =>
    obtain ⟨h1, _, h2⟩ := h
    by_cases e : p.1 = k
    · have e' : q.1 = k := h1.symm.trans e
      have b : atKey (q :: qs) k = some q.2 := by simp [atKey, List.find?_cons, e']
      have b2 : atT (p :: ps) k = some p.2.2 := by simp [atT, List.find?_cons, e]
      rw [b2, b]; exact h2
    · have e' : ¬ q.1 = k := fun z => e (h1.trans z)
      have b : atKey (q :: qs) k = atKey qs k := by simp [atKey, List.find?_cons, e']
      have b2 : atT (p :: ps) k = atT ps k := by simp [atT, List.find?_cons, e]
      rw [b2, b]; exact ih
section
variable {P : Program} {w : World} {H : Hp} {h : Heap} {a : Addr}
theorem rd_of {u : HO} (ok : HOk P w H h) (e : Rd H a u) : ObjOk P w H h a u := e.ok ok
theorem dk_rd {kvs : List (Key × V)} (ok : HOk P w H h) (e : Rd H a (.dK kvs)) : kvs.length ≤ sizeLine ∧ (a == sysModules) = false ∧ ∃ vs, KV kvs vs ∧ h.DictOf (mixKind P w) a vs :=
  show ObjOk P w H h a (.dK kvs) from rd_of ok e
theorem dk_of {kvs : List (Key × V)} (ok : HOk P w H h) (e : H a = some (.dK kvs)) : kvs.length ≤ sizeLine ∧ (a == sysModules) = false ∧ ∃ vs, KV kvs vs ∧ h.DictOf (mixKind P w) a vs := dk_rd ok (.inl e)
end
section
variable {X : Cx} {pins : List (Addr × Obj)} {σ : St} {H : Hp} {s : Shared} {a : Addr}
theorem key_of {ks : List Key} (I : Inv X pins σ H s) (e : SqT X.K H a (ks.map kV)) : (tupleKind (mixKind X.prog X.w)).is s.heap ks a := by
  obtain ⟨its, r, ⟨o, h1, h2, n, h3⟩, _⟩ := I.tuple e
  exact ⟨o, its.toArray, n, h1, h2, h3, by simpa using items_are r⟩
theorem dt_rd {kvs : List (List Key × Addr × V)} (I : Inv X pins σ H s) (e : Rd H a (.dT kvs)) (hk : ∀ x ∈ kvs, SqT X.K H x.2.1 (x.1.map kV)) : kvs.length ≤ sizeLine ∧ (a == sysModules) = false ∧
    ∃ xs, KT kvs xs ∧ s.heap.DictOfH (tupleKind (mixKind X.prog X.w)) a xs := by
  obtain ⟨z, y, xs, r, o, es, ep, h1, h2, h3, h4, h5⟩ := (show ObjOk X.prog X.w H s.heap a (.dT kvs) from rd_of I.hok e)
  refine ⟨z, y, xs, r, o, es, ep, h1, h2, h3, h4, ?_, h5⟩
  have all : ∀ {l : List (List Key × Addr × V)} {m : List (List Key × Addr × Value)}, KT l m → (∀ x ∈ l, SqT X.K H x.2.1 (x.1.map kV)) → ∀ x ∈ m, (tupleKind (mixKind X.prog X.w)).is s.heap x.1 x.2.1 := by
    intro l m q
    induction q with
    | nil => intro _ x hx; exact nomatch hx
    | @cons p q ps qs hq t ih =>
      intro hl x hx
      rcases List.mem_cons.mp hx with e | hx
      · subst e
        rw [← hq.1, ← hq.2.1]
        exact key_of I (hl p List.mem_cons_self)
      · exact ih (fun y hy => hl y (List.mem_cons_of_mem _ hy)) x hx
  exact all r hk

end

/-- what the dict at a holds at the key y -/
def DGet (K : PySem.W.Frag) (H : Hp) (a : Addr) (y : V) (r : Option V) : Prop :=
  (∃ kvs k, Rd H a (.dK kvs) ∧ y = kV k ∧ r = valV kvs k) ∨ ∃ kvs k b, Rd H a (.dT kvs) ∧ (∀ x ∈ kvs, SqT K H x.2.1 (x.1.map kV)) ∧ y = .ref b ∧ SqT K H b (k.map kV) ∧ r = atT kvs k
section
variable {X : Cx} {pins : List (Addr × Obj)} {σ : St} {H : Hp} {s : Shared} {a : Addr} {y v : V} {u r : Value} {o : Option V} {A : Around} {E : Value → Shared → Prop}
theorem Inv.big (I : Inv X pins σ H s) : sysModules < s.heap.objs.size := by
  have h : mainGlobals < s.heap.objs.size := (I.mod.glob.keeps I.bk).lt
  exact Nat.lt_trans (by decide) h

/-- a dict's object is replaced -/
theorem d_write {h' : Heap} {t' : Nat} {ob : HO} (I : Inv X pins σ H s) (mu : Mut (H a)) (hs : Heap.SameBut a s.heap h') (he : ∃ q, h'.get? a = some q) (new : ObjOk X.prog X.w (upd H a ob) h' a ob) :
    Inv X pins σ (upd H a ob) { s with heap := h', toks := t' } :=
  I.write (x := a) (e := a) mu (.inl rfl) (fun b q hb z => (hs.2 b hb).trans z) he new
theorem dk_new {P : Program} {w : World} {H' : Hp} {h' : Heap} {kvs : List (Key × V)} {vs : List (Key × Value)} (z : kvs.length ≤ sizeLine) (hd : (a == sysModules) = false) (rel : KV kvs vs) (dd : h'.DictOf (mixKind P w) a vs) :
    ObjOk P w H' h' a (.dK kvs) := ⟨z, hd, vs, rel, dd⟩
end

section
variable {X : Cx} {pins : List (Addr × Obj)} {σ : St} {H : Hp} {s : Shared} {a : Addr} {kvs : List (Key × V)} {k : Key} {u : Value} {A : Around} {E : Value → Shared → Prop}
theorem d_len {Q : Value → Shared → Prop} (I : Inv X pins σ H s) (e : Rd H a (.dK kvs)) (h : ∀ t s', Inv X pins σ H s' → Q (.int kvs.length t) s') : wpAny (model X.prog X.w) A (call (.builtin "len") [.ref a]) Q E s := by
  obtain ⟨z, hd, vs, rel, dd⟩ := dk_rd I.hok e
  refine call_len_dict hd dd (by rw [← rel.length]; rw [sizeLine_eq] at z; lia) ?_
  rw [← rel.length]
  exact h _ _ (I.tok _)
end


/-! ### readings and rules -/



section
variable {X : Cx} {o i e value : Expr} {pos pos' tpos : Pos} {td ty tv : TE}
end


/-! ### displays -/
theorem dk_empty {P : Program} {w : World} {H : Hp} (h : Heap) (hb : sysModules < h.objs.size) : ObjOk P w H (h.push { cls := .type "dict", data := .dict #[] }) h.objs.size (.dK []) :=
  ⟨Nat.zero_le _, beq_eq_false_iff_ne.mpr (Ne.symm (Nat.ne_of_lt hb)), [], .nil, Heap.DictOf.new h⟩
section
variable {X : Cx} {pos : Pos}
end


def mergeK (kvs more : List (Key × V)) : List (Key × V) := more.foldl (fun acc kv => putK acc kv.1 kv.2) kvs
theorem length_mergeK : ∀ (more kvs : List (Key × V)), (mergeK kvs more).length ≤ kvs.length + more.length
  | [], kvs => by show kvs.length ≤ kvs.length + 0; lia
  | p :: r, kvs => by
    have h1 := length_mergeK r (putK kvs p.1 p.2)
    have h2 := length_putK kvs p.1 p.2
    show (mergeK (putK kvs p.1 p.2) r).length ≤ _
    rw [List.length_cons]; lia


/-! ### methods -/
/-- a method call o.m(e) of a built-in, with one argument: what must be seen of the text -/
structure M1 (X : Cx) (o : Expr) (m : Str) (apos : Pos) (e : Expr) (cpos : Pos) : Prop where
  base : attributeBase o m X.env (eval o X.env) = eval o X.env
  few : ((backTo cpos (starEach [e] X.env)).all (fun x => !x.1) && (backToKw cpos (keywordEach [] X.env)).all (fun x => x.1.isSome)
    && decide (([e] : List Expr).length + ([] : List Keyword).length + (if ([] : List Keyword).isEmpty then 0 else 1) < 30)) = true
  line : (apos.endLine == cpos.line) = true
  trees : backTo cpos (starEach [e] X.env) = [(false, eval e X.env)]

/-- a is a dict, whatever its keys -/
def IsD (H : Hp) (a : Addr) : Prop := (∃ kvs, Rd H a (.dK kvs)) ∨ ∃ kvs, Rd H a (.dT kvs)
theorem isD_at {X : Cx} {pins : List (Addr × Obj)} {σ : St} {H : Hp} {s : Shared} {a : Addr} (I : Inv X pins σ H s) (d : IsD H a) :
    s.TypeIs (.ref a) "dict" ∧ (∀ b, Value.ref a = .ref b → ∃ ob, s.heap.get? b = some ob ∧ ob.dict = none) ∧ (a == sysModules) = false := by
  rcases d with ⟨kvs, e⟩ | ⟨kvs, e⟩
  · obtain ⟨_, hd, vs, _, dd⟩ := dk_rd I.hok e
    refine ⟨dd.typeIs, fun b q => ?_, hd⟩
    cases q
    obtain ⟨ob, _, _, h1, h2, _⟩ := dd
    exact ⟨ob, h1, h2.2.1⟩
  · obtain ⟨_, hd, xs, _, ob, es, ep, h1, h2, _⟩ := (show ObjOk X.prog X.w H s.heap a (.dT kvs) from rd_of I.hok e)
    refine ⟨⟨ob, h1, h2.1⟩, fun b q => ?_, hd⟩
    cases q
    exact ⟨ob, h1, h2.2.1⟩

section
variable {X : Cx} {pins : List (Addr × Obj)} {σ : St} {H : Hp} {s : Shared} {a : Addr} {y d : V} {u r : Value} {o : Option V} {A : Around} {E : Value → Shared → Prop}
theorem d_get1 {Q : Value → Shared → Prop} (hu : A.units + 1 < cLine) (I : Inv X pins σ H s) (g : DGet X.K H a y o) (ry : RelV y u) (h : ∀ w' s', Inv X pins σ H s' → RelV (o.getD .non) w' → Q w' s') :
    wpAny (model X.prog X.w) A (call (.builtin "dict.get") [.ref a, u]) Q E s := by
  rcases g with ⟨kvs, k, e, ey, l⟩ | ⟨kvs, k, b, e, hk, ey, eb, l⟩
  · subst ey
    obtain ⟨z, hd, vs, rel, dd⟩ := dk_rd I.hok e
    refine call_meetsIn PySem.F.slot_dict_get dd.typeIs PySem.F.entry_dict_get (PySem.F.args_dict_get_2 _ _) (meets_dict_get (mixKind X.prog X.w) a (kV_is ry) hd) ⟨_, dd.mapOf, h _ _ (I.tok _) ?_⟩
    rw [l]
    exact (rel.val k).getD rfl
  · subst ey
    cases (show u = Value.ref b from ry)
    obtain ⟨z, hd, xs, rel, dd⟩ := dt_rd I e hk
    refine call_meetsIn PySem.F.slot_dict_get dd.typeIs PySem.F.entry_dict_get (PySem.F.args_dict_get_2 _ _) (meetsH_dict_get (tupleKind (mixKind X.prog X.w)) a b hd) ⟨tupleKind_room_in1 hu, k, xs, key_of I eb, dd, h _ _ (I.tok _) ?_⟩
    rw [l]
    exact (rel.val k).getD rfl
end

def tDGet1 (X : Cx) (td ty : TE) : TE := fun σ H Q => td σ H fun x H1 => ∃ a, x = .ref a ∧ IsD H1 a ∧ ty σ H1 fun y H2 => ∃ o, DGet X.K H2 a y o ∧ Q (o.getD .non) H2
section
variable {X : Cx} {o e f : Expr} {apos cpos : Pos} {td ty tx : TE}
theorem pe_dget1 (hu : X.A.units + 1 < cLine) (ho : PE X o td) (he : PE X e ty) (m : M1 X o "get" apos e cpos) : PE X (.Call (.Attribute o "get" apos) [e] [] cpos) (tDGet1 X td ty) := by
  intro pins s σ H Q I h
  refine wpAny_Call_method m.base m.few m.line PySem.F.plainAttrs_dict PySem.F.slot_dict_get PySem.F.type_dict_get (thn (ho pins s σ H _ I h) fun u s1 ⟨x, H1, I1, rx, a, ex, d, q1⟩ => ?_)
  subst ex
  obtain rfl : u = Value.ref a := rx
  obtain ⟨t1, t2, _⟩ := isD_at I1 d
  refine ⟨t1, t2, ?_⟩
  rw [m.trees]
  refine Calls.callWith_builtin rfl (Calls.evalArgs_plain (Calls.spliced_cons (thn (he pins s1 σ H1 _ I1 q1) fun iv s2 ⟨y, H2, I2, ry, ov, g, q2⟩ => Calls.spliced_nil ?_)))
  exact d_get1 hu I2 g ry fun w' s3 I3 rw' => ⟨_, H2, I3, rw', q2⟩
end

/-! ### dict(d): a copy -/
section
variable {X : Cx} {pins : List (Addr × Obj)} {σ : St} {H : Hp} {s : Shared} {a : Addr} {kvs : List (Key × V)} {A : Around} {E : Value → Shared → Prop}
end


section
variable {X : Cx} {pins : List (Addr × Obj)} {σ : St} {H : Hp} {s : Shared} {a : Addr} {y : V} {u : Value} {A : Around} {E : Value → Shared → Prop}
end
end L2

namespace Att
open PySem PySem.W PySem.Calls PyProof.Rows

/-! ### the script -/
theorem ints_of_wellAll {P : Params} {h : Heap} : ∀ (ns : List Int) (vs : List Value), WellAll P h vs (ns.map WData.int) → IntsAre vs ns := by
  intro ns
  induction ns with
  | nil =>
    intro vs w
    rw [List.map_nil] at w
    cases w
    exact .nil
  | cons n ns ih =>
    intro vs w
    rw [List.map_cons] at w
    cases w with
    | cons a b =>
      cases a
      exact .cons _ _ (ih _ b)

theorem script_of {l : OpenLaw} {n : Nat} (hn : l.most = some n) {P : Params} {h : Heap} {args : List WData} {vals : List Value}
    (hpre : l.row.toRowW.claim.pre args = true) (hwl : WellAll P h vals args) :
    ∃ a vs ns, vals = [Value.ref a] ∧ args = [WData.list (ns.map WData.int)] ∧ h.get? a = some { cls := .type "list", data := .seq vs.toArray } ∧ IntsAre vs ns ∧ ns.length ≤ n := by
  have hsh : WShape.hasAll [] args [.list .int] = true := (pre_splitW hpre).1
  have hc : l.pre.holds [] { args := args } = true := (pre_splitW hpre).2
  obtain ⟨d, r, rfl, h1, h2⟩ := hasAllW_cons hsh
  obtain rfl := hasAllW_nil h2
  obtain ⟨xs, rfl, h3⟩ := hasW_list h1
  obtain ⟨ns, rfl⟩ := items_int h3
  have hlen : ns.length ≤ n := by
    unfold OpenLaw.pre at hc
    have h4 : (WTm.not (.lt (.lit (.int (n : Int))) (.len (.arg 0)))).holds [] { args := [.list (ns.map .int)] } = true := by
      have h4 := (holds_andW hc).1
      rw [hn] at h4
      exact h4
    have h5 := condW_of h4 (w_not (w_lt w_lit (w_len_list (w_arg rfl))))
    rw [List.length_map] at h5
    refine Nat.le_of_not_lt fun q => ?_
    have q' : (n : Int) < ((ns.length : Nat) : Int) := by lia
    first
      | (rw [decide_eq_true q'] at h5; exact absurd h5 (by decide))
      | (simp at h5; lia)
  cases hwl with
  | cons w1 w2 =>
    cases w2
    cases w1 with
    | list ho hall => exact ⟨_, _, ns, rfl, rfl, ho, ints_of_wellAll ns _ hall, hlen⟩

theorem post_true (l : OpenLaw) (args : List WData) : l.row.toRowW.claim.post args (.bool true) args = true :=
  postW_of (r := l.row.toRowW) (X := (true == true))
    (show WShape.has [] (.bool true) .bool = true by first | rfl | decide | simp [WShape.has, WShape.arms, WShape.armsAll])
    (show (WTm.eq .res (.lit (.bool true))).value [] { args := args, res := some (.bool true), after := args } = some (.bool (true == true)) from w_eq_bool (w_res rfl) w_lit) rfl

/-! ### the attachment: holds_open's last premise (the goal 'hc' behind k_head) from a wpAny of the law's body -/

/-- the same from a codeAny of the CALL (for a layer whose function contracts speak of calls) -/
theorem attach_call {l : OpenLaw} {n : Nat} {q : Program} {loose : List Str} {XP : (Str → Option Value) → Heap → Prop} {YP : World → Heap → Prop} {d : DefRec}
    (hn : l.most = some n) (hdf : d.params.defaults = [])
    (call : ∀ (w : World) (s₀ s₁ : Shared) (mg mb : Str → Option Value) (fa : Addr) (o : Obj) (pm cd doc : Value) (a : Addr) (vs : List Value) (ns : List Int),
      Ground q loose [] XP w s₀ mg mb s₁.heap → YP w s₁.heap →
      s₁.heap.get? fa = some o → o.data = .func (docDef d.name d.params d.body d.scope pm cd doc) → s₁.heap.CodeRec cd d.name → mg d.name = some (.ref fa) →
      s₁.heap.get? a = some { cls := .type "list", data := .seq vs.toArray } → IntsAre vs ns → ns.length ≤ n → s₁.gens = #[] →
      codeAny (model l.prog w) callerA (.call (.ref fa) ⟨[.ref a], []⟩) (fun r s' => r = .ok (.ret (.bool true)) ∧ OldK s₁.heap s'.heap ∧ s'.os = s₁.os ∧ AllBare s'.gens) s₁) :
    WalkO q loose XP YP l.row.toRowW d [] (fun f vs => PySem.call f vs) := by
  intro w s₀ s₁ mg mb G Y fa o pm cd doc dV kV ho hd hcd hD hmg hg args vals as hpre hlay hrd hwl hlo
  obtain rfl : dV = .none := Dflts.none hD hdf
  obtain rfl : kV = .none := Dflts.noKw hD
  obtain ⟨a, vs, ns, rfl, rfl, hobj, hints, hlen⟩ := script_of hn hpre hwl
  refine enter_call (codeAny_mono (call w s₀ s₁ mg mb fa o pm cd doc a vs ns G Y ho (fd_plain hd) hcd hmg hobj hints hlen hg) fun r s' hq => ?_)
  obtain ⟨rfl, h2, h3, h4⟩ := hq
  exact ⟨.inl ⟨.bool true, .bool true, [], rfl, fun _ => rfl, .bool true, post_true l _, fun _ => ⟨List.Pairwise.nil, fun _ hm => (nomatch hm)⟩⟩, h2, h3, h4⟩


/-! ### rules over ANY heap (no ledger) from facts about the written part K: the library's own take a ledger (News) for what they write -/
section
variable {prog : Program} {w : World} {A : Around} {E : Value → Shared → Prop} {s : Shared} {K : Frag}

end
end Att

namespace L2
open PySem PySem.Spec PyProof.Rows

theorem vals_ints : ∀ {vs : List Value} {ns : List Int}, IntsAre vs ns → Vals (ns.map V.int) vs
  | _, _, .nil => .nil
  | _, _, .cons n t h => .cons ⟨t, rfl⟩ (vals_ints h)

/-- nothing is tracked but the script, known to the object (or it is an object of the module) -/
def Only (H : Hp) : Prop := ∀ b, H b = none ∨ ∃ o xs, H b = some (.frz o (.lst xs))

/-- THE HEAD: the law's promise, at the heap behind the top. F, the promise of the law's def, may use that base is part of the heap (so K.In base, base.Ns mainGlobals mg stand in Mod) -/
theorem law_call {P : Program} {w : World} {K : PySem.W.Frag} {mg mb : Str → Option Value} {CX : CXT} {k : Nat} {fa a : Addr} {fd : FuncData} {x : Str} {sp : Sp} {s₁ : Shared} {vs : List Value} {ns : List Int}
    (KX : K.In s₁.heap) (hns : s₁.heap.Ns mainGlobals mg) (hb : s₁.heap.Ns builtinsNs mb) (hbb : ∀ x : Str, x ≠ "__name__" → mb x = bootBuiltins x) (hlim : s₁.heap.NoLimit) (hg : s₁.gens = #[])
    (ha : s₁.heap.get? a = some { cls := .type "list", data := .seq vs.toArray }) (hi : IntsAre vs ns) (hl : ns.length ≤ sizeLine) (hr : Room k callerA)
    (F : ∀ base : Heap, K.In base → base.Ns mainGlobals mg → FnOk P w K mg base CX k fa fd [x] sp) (hbind : ∀ (s : Shared) (u : Value), BindsTo s fd ⟨[u], []⟩ [(x, u)])
    (hsp : ∀ H : Hp, Only H → SqL K H a (ns.map V.int) → sp [.ref a] H (fun v _ => v = .bl true) fun _ _ _ => False)
    (hCX : ∀ H e s', CX [] H s₁ (fun _ _ _ => False) e s' → False) :
    codeAny (model P w) callerA (.call (.ref fa) ⟨[.ref a], []⟩) (fun r s' => r = .ok (.ret (.bool true)) ∧ OldK s₁.heap s'.heap ∧ s'.os = s₁.os ∧ AllBare s'.gens) s₁ := by
  have rv := vals_ints hi
  have lenV := hi.length
  -- from an abstract heap in which nothing but the script may be tracked
  have core : ∀ H : Hp, Only H → SqL K H a (ns.map V.int) → HOk P w H s₁.heap → (∀ b, H b ≠ none → b = a) → (H a ≠ none → K.lookup a = none) →
      codeAny (model P w) callerA (.call (.ref fa) ⟨[.ref a], []⟩) (fun r s' => r = .ok (.ret (.bool true)) ∧ OldK s₁.heap s'.heap ∧ s'.os = s₁.os ∧ AllBare s'.gens) s₁ := by
    intro H hO hS hok hA hK
    have base_of : ∀ {b : Addr} {o : Obj}, s₁.heap.get? b = some o → H b = none → (hidT s₁.heap H).get? b = some o := fun e n => hidT_get e n
    have noA : ∀ {b : Addr} {o : Obj} {es : Array DictEntry} {ep : Nat}, s₁.heap.get? b = some o → o.data = .dict es ep → H b = none := fun {b o es ep} e d => by
      cases q : H b with
      | none => rfl
      | some u =>
        have e' : b = a := hA b (by rw [q]; simp)
        subst e'
        rw [ha] at e; cases e
        have d' : Data.seq vs.toArray _ = Data.dict es ep := d
        cases d'
    have nsK : ∀ {b : Addr} {m : Str → Option Value}, s₁.heap.Ns b m → (hidT s₁.heap H).Ns b m := fun {b m} ⟨o, es, ep, e, d, r⟩ => ⟨o, es, ep, base_of e (noA e d), d, r⟩
    have hKb : K.In (hidT s₁.heap H) := fun b o e => base_of (KX b o e) (by
      cases q : H b with
      | none => rfl
      | some u =>
        have e' : b = a := hA b (by rw [q]; simp)
        subst e'
        rw [hK (by rw [q]; simp)] at e; cases e)
    have hM : Mod K mg (hidT s₁.heap H) := ⟨hKb, nsK hns, ⟨mb, nsK hb, hbb⟩, let ⟨mc, h1, h2⟩ := hlim; ⟨mc, nsK h1, h2⟩⟩
    have e0 : Env0 P w K mg (hidT s₁.heap H) callerA [] s₁ H := ⟨rfl, hM, fun b o e => of_hidT e, Nat.le_of_eq (hidT_size _ _), trivial, fun b hb => absurd (show b ∈ ([] : List Addr) from hb) (by simp), hok, .of_eq hg⟩
    refine codeAny_mono ((F _ hKb (nsK hns)).run callerA [] s₁ H ⟨[.ref a], []⟩ [.ref a] [.ref a] _ _ hr e0 (hbind s₁ (.ref a)) (.cons rfl .nil) (hsp H hO hS)) fun r s' h => ?_
    cases r with
    | error e => exact (hCX H e s' h).elim
    | ok fl =>
      cases fl with
      | next => exact False.elim h
      | brk => exact False.elim h
      | cont => exact False.elim h
      | ret u =>
        obtain ⟨v, H', os, bare, un, hok', r', q⟩ := h
        have q' : v = .bl true := q
        subst q'
        obtain rfl : u = Value.bool true := r'
        refine ⟨rfl, OldK.of_keep fun b o e => ?_, os, bare⟩
        cases q : H b with
        | none => exact un.keep b o e q (by intro z; exact absurd (show b ∈ ([] : List Addr) from z) (by simp)) (by simp)
        | some u =>
          rcases hO b with z | ⟨ob, xs, z⟩
          · rw [q] at z; cases z
          · have z2 := un.frzs b ob _ z
            obtain ⟨e1, _⟩ := hok b _ z
            obtain ⟨e2, _⟩ := hok' b _ z2
            rw [e] at e1; cases e1
            exact e2
  cases hk : K.lookup a with
  | some o =>
    -- the script is one of the module's own objects
    have e := KX a o hk
    rw [ha] at e
    cases e
    refine core (fun _ => none) (fun _ => .inl rfl) (.inr ⟨_, vs.toArray, _, hk, rfl, rfl, rfl, by rw [List.size_toArray, lenV]; exact hl, by simpa using rv⟩) (fun b u z => by have z' : (none : Option HO) = some u := z; cases z') (fun b z => absurd rfl z) fun z => absurd rfl z
  | none =>
    refine core (fun b => if b = a then some (.frz { cls := .type "list", data := .seq vs.toArray } (.lst (ns.map V.int))) else none) (fun b => ?_) (.inl (.inr ⟨{ cls := .type "list", data := .seq vs.toArray }, if_pos rfl⟩)) (fun b u z => ?_) (fun b z => ?_) fun _ => hk
    · by_cases hb : b = a
      · exact .inr ⟨_, _, if_pos hb⟩
      · exact .inl (if_neg hb)
    · by_cases hb : b = a
      · have z' := (if_pos hb).symm.trans z
        cases z'
        subst hb
        exact ⟨ha, by rw [List.length_map]; exact hl, vs, _, rv, ha⟩
      · have z' := (if_neg hb).symm.trans z
        cases z'
    · by_cases hb : b = a
      · exact hb
      · exact absurd (if_neg hb) z

abbrev KOf {K : PySem.W.Frag} {h : Heap} (_ : K.In h) : PySem.W.Frag := K

/-- the goal that k_head leaves (case hc), from the law's promise. F gives the function object fd (K's own) once, then the promise over every base -/
theorem walk_of {l : PySem.W.OpenLaw} {n k : Nat} {q : Program} {loose : List Str} {XP : (Str → Option Value) → Heap → Prop} {YP : World → Heap → Prop} {d : DefRec} {K : Params → PySem.W.Frag} {CX : World → CXT} {sp : World → Sp} {x : Str}
    (hn : l.most = some n) (hn2 : n ≤ sizeLine) (hdf : d.params.defaults = []) (hr : Room k callerA)
    (hY : ∀ (w : World) (h : Heap), YP w h → (K w.params).In h)
    (F : ∀ (w : World) (mg : Str → Option Value) (fa : Addr) (h : Heap), (K w.params).In h → h.Ns mainGlobals mg → mg d.name = some (.ref fa) →
      ∃ fd : FuncData, (∀ (s : Shared) (u : Value), BindsTo s fd ⟨[u], []⟩ [(x, u)]) ∧
        ∀ base : Heap, (K w.params).In base → base.Ns mainGlobals mg → FnOk l.prog w (K w.params) mg base (CX w) k fa fd [x] (sp w))
    (hsp : ∀ (w : World) (H : Hp) (a : Addr) (ns : List Int), ns.length ≤ n → Only H → SqL (K w.params) H a (ns.map V.int) → sp w [.ref a] H (fun v _ => v = .bl true) fun _ _ _ => False)
    (hCX : ∀ (w : World) (H : Hp) (s : Shared) (e : Value) (s' : Shared), CX w [] H s (fun _ _ _ => False) e s' → False) :
    PySem.W.WalkO q loose XP YP l.row.toRowW d [] (fun f vs => PySem.call f vs) := by
  refine Att.attach_call hn hdf fun w s₀ s₁ mg mb fa o pm cd doc a vs ns G Y ho hd hcd hmg hobj hints hlen hg => ?_
  have KX := hY w _ Y
  obtain ⟨fd, hb, hF⟩ := F w mg fa _ KX G.T.g hmg
  exact law_call KX G.T.g G.T.b G.T.builtins G.T.nolimit hg hobj hints (Nat.le_trans hlen hn2) hr hF hb (fun H hO hS => hsp w H a ns hlen hO hS) fun H e s' => hCX w H s₁ e s'
end L2

/- THE LAST THEOREM (shape; LID, My.* are yours):
   My.Adr: a structure of the addresses that your layer names (classes, functions); My.Txt K t: a structure (Prop) of the equations over K;
   My.txt_mk : {K} {implicit addresses ..} (e1 : nsIn K mainGlobals "law" = some (some (.ref f))) (e2 : K.lookup f = some ⟨oc, od, .func (fnOf "law" "law" params body scope dV kV doc pm an cdv ct), sl⟩) (e3 : codeIn K cdv "law" = true) .. : ∃ t, My.Txt K t

set_option maxRecDepth 100000 in
set_option maxHeartbeats 0 in
theorem PySem.Challenge.cw_LID_holds : PySem.Challenge.rw_LID.Holds := by
  w_on; o_law; k_head; (case hw => w_witness2)
  k_fill
  refine L2.walk_of (l := PySem.Challenge.rw_LID) (n := 63) (k := 40) (x := "script") (CX := fun w => ..) (sp := fun _ => My.sp_law) rfl (by decide) rfl ⟨rfl, by decide, by decide⟩ (fun w h Y => PySem.W.kIn_of Y) ?F ?S ?C
  case F =>
    intro w mg fa h KX G hmg
    have T : ∃ t, My.Txt (L2.KOf KX) t := by
      dsimp only [L2.KOf]                          -- K must stand as «<heap const> w.params» for k_is
      refine' My.txt_mk ?e1 ?e2 ?e3 ..
      (case e1 => PySem.W.k_is)                    -- in the order: a name -> its address -> its object -> its parts
      (case e2 => PySem.W.k_is)
      ..
    obtain ⟨t, T⟩ := T
    have e0 := hmg.symm.trans (PySem.W.mg_of KX G T.law)
    cases e0                                       -- fa is the law's own address
    exact ⟨_, fun s u => .of_eq rfl, fun base kb nb => My.law_fn T kb nb⟩     -- if «.of_eq rfl» comes too early: refine' ⟨_, ?b, fun base kb nb => My.law_fn T kb nb⟩; exact fun s u => .of_eq rfl
  case S => exact fun w H a ns hl hO hS => ..
  case C => exact ..
(the tactic k_is has no namespace: write k_is) -/

/-! SHORT WORDS over the layer: a def of the text, its body, what a loop and a test want. -/
namespace L2
open PySem PySem.Spec PyProof.Rows

/-! ### the text by places -/
def defArgs (s : Stmt) : Arguments := match s with
  | .FunctionDef _ a _ _ _ _ _ _ _ _ => a
  | _ => { posonlyargs := [], args := [], vararg := none, kwonlyargs := [], kw_defaults := [], kwarg := none, defaults := [] }
def defBody (s : Stmt) : List Stmt := match s with
  | .FunctionDef _ _ b _ _ _ _ _ _ _ => b
  | _ => []
def defScope (s : Stmt) : Scope := match s with
  | .FunctionDef _ _ _ _ _ _ sc _ _ _ => sc
  | _ => { kind := .function, names := [], isGenerator := false, isCoroutine := false }

/-! ### no exception leaves a def -/

/-! ### a def (or method) of the text as it stands behind the top -/
structure Fun (K : PySem.W.Frag) (x qual : Str) (st : Stmt) (f : Addr) (fd : FuncData) : Prop where
  ex : ∃ (oc : Value) (od : Option Addr) (kV doc pm : Value) (an : Option Addr) (cdv ct : Value) (osl : Array (Option Value)),
    fd = PySem.W.fnOf x qual (defArgs st) (defBody st) (defScope st) .none kV doc pm an cdv ct ∧ K.lookup f = some ⟨oc, od, .func fd, osl⟩ ∧ PySem.W.codeIn K cdv qual = true
  kp : PySem.W.keepIn K (.ref f) = true
section
variable {P : Program} {w : World} {K : PySem.W.Frag} {mg : Str → Option Value} {base : Heap}
/-- how its arguments bind (no defaults): h is «fun _ _ _ _ _ _ us hl => match us, hl with | [_, _], _ => rfl», one _ a parameter -/
theorem Fun.binds {x qual : Str} {st : Stmt} {f : Addr} {fd : FuncData} {ps : List Str} (F : Fun K x qual st f fd)
    (h : ∀ (kV doc pm : Value) (an : Option Addr) (cdv ct : Value) (us : List Value), us.length = ps.length → bindArgs (PySem.W.fnOf x qual (defArgs st) (defBody st) (defScope st) .none kV doc pm an cdv ct) ⟨us, []⟩ = pure (ps.zip us)) : Binds K fd ps [] := by
  obtain ⟨oc, od, kV, doc, pm, an, cdv, ct, osl, rfl, lk, hcd⟩ := F.ex
  exact .all (h kV doc pm an cdv ct)
theorem fun_mk {x qual : Str} {st : Stmt} {f : Addr} {oc : Value} {od an : Option Addr} {osl : Array (Option Value)} {kV doc pm cdv ct : Value} (l : K.lookup f = some ⟨oc, od, .func (PySem.W.fnOf x qual (defArgs st) (defBody st) (defScope st) .none kV doc pm an cdv ct), osl⟩)
    (c : PySem.W.codeIn K cdv qual = true) (k : PySem.W.keepIn K (.ref f) = true) : Fun K x qual st f (PySem.W.fnOf x qual (defArgs st) (defBody st) (defScope st) .none kV doc pm an cdv ct) := ⟨⟨oc, od, kV, doc, pm, an, cdv, ct, osl, rfl, l, c⟩, k⟩
end
theorem hu_of {A : Around} {k : Nat} (hr : Room k A) : A.units + 1 < cLine := Nat.lt_of_le_of_lt (Nat.add_le_add_left (by decide : 1 ≤ 64) _) hr.units
theorem small1000 {n : Nat} (h : n ≤ 1000) : n < sizeLine := Nat.lt_of_le_of_lt h (by decide)

/-! ### expressions in short: the name that stands in the i-th slot -/
section
variable {X : Cx}
end

/-! ### tests -/

/-! ### heaps -/
/-- all that was tracked is as it was -/
def Same (H H' : Hp) : Prop := ∀ b o, H b = some o → H' b = some o
theorem Same.refl (H : Hp) : Same H H := fun _ _ h => h
theorem Same.trans {H H1 H2 : Hp} (a : Same H H1) (b : Same H1 H2) : Same H H2 := fun c o h => b c o (a c o h)
theorem Same.free {H H' : Hp} (e : Same H H') {l : Addr} (h : H' l = Option.none) : H l = Option.none := by
  cases q : H l with
  | none => rfl
  | some o =>
    rw [e l o q] at h
    cases h
theorem Same.seq {K : PySem.W.Frag} {H H' : Hp} {a : Addr} {xs : List V} (e : Same H H') (h : SqL K H a xs) : SqL K H' a xs := by
  rcases h with (h | ⟨o, h⟩) | h
  · exact .inl (.inl (e _ _ h))
  · exact .inl (.inr ⟨o, e _ _ h⟩)
  · exact .inr h

section
variable {X : Cx}
theorem call_lenD : CallR X (.builtin "len") (fun xs H Q => ∃ a kvs, xs = [V.ref a] ∧ H a = some (.dK kvs) ∧ Q (.int kvs.length) H) := by
  intro pins s σ H xs us Q I r h
  obtain ⟨a, kvs, rfl, ha, q⟩ := h
  obtain ⟨u, rfl, ru⟩ := vals1 r
  cases ru
  exact d_len I (.inl ha) fun t s' I' => ⟨.int kvs.length, H, I', ⟨t, rfl⟩, q⟩
end
/-! ### a dict's pairs: keys that differ -/
section
variable {κ : Type} [DecidableEq κ]
end
end L2


namespace EV
open PySem PySem.Spec PyProof.Rows L2

/-! ## data without a heap -/
inductive D where
  | non | bl (b : Bool) | int (i : Int) | str (x : Str) | tup (ds : List D) | lst (ds : List D) | exc (C : Addr)
  /-- a dict that is read alone, its keys ints and texts, or tuples of these; any object at its place -/
  | fdK (ks : List Key) (ds : List D) | fdT (ks : List (List Key)) (ds : List D) | adr (a : Addr)

/-- an exception of the class at C stands at a -/
def excP (a C dx : Addr) : Heap → Prop := fun h => ∃ o, h.get? a = some o ∧ o.cls = .ref C ∧ o.dict = some dx ∧ ∃ vs, o.data = .fields vs
/-- the fields of an exception: line is 0 -/
def lineF : List (Str × V) := [(Str.ofString "line", .int 0)]
/-- an exception as it is made -/
def xO (C : Addr) (dd : Option Addr) (t : Addr) : Obj := { cls := .ref C, dict := dd, data := .fields #[.ref t, .none, .none, .none, .bool false, .none] }
def madP (a C : Addr) (dd : Option Addr) (t : Addr) : Heap → Prop := fun h => h.get? a = some (xO C dd t)

mutual
def Rep (K : PySem.W.Frag) (H : Hp) : D → V → Prop
  | .non, v => v = .non
  | .bl b, v => v = .bl b
  | .int i, v => v = .int i
  | .str x, v => v = .str x
  | .tup ds, v => ∃ a xs, v = .ref a ∧ SqT K H a xs ∧ Reps K H ds xs
  | .lst ds, v => ∃ a xs, v = .ref a ∧ SqL K H a xs ∧ Reps K H ds xs
  | .exc C, v => ∃ a dx, v = .ref a ∧ H a = some (.ext (excP a C dx)) ∧ H dx = some (.xd lineF)
  | .fdK ks ds, v => ∃ a ys o, v = .ref a ∧ H a = some (.frz o (.dK ys)) ∧ ys.map (·.1) = ks ∧ Reps K H ds (ys.map (·.2))
  | .fdT ks ds, v => ∃ a ys o, v = .ref a ∧ H a = some (.frz o (.dT ys)) ∧ ys.map (·.1) = ks ∧ (∀ y ∈ ys, SqT K H y.2.1 (y.1.map kV)) ∧ Reps K H ds (ys.map (·.2.2))
  | .adr a, v => v = .ref a
def Reps (K : PySem.W.Frag) (H : Hp) : List D → List V → Prop
  | [], xs => xs = []
  | d :: ds, xs => ∃ x r, xs = x :: r ∧ Rep K H d x ∧ Reps K H ds r
end

theorem same_tup {K : PySem.W.Frag} {H H' : Hp} {a : Addr} {xs : List V} (e : Same H H') (h : SqT K H a xs) : SqT K H' a xs := by
  rcases h with (h | ⟨o, h⟩) | h
  · exact .inl (.inl (e _ _ h))
  · exact .inl (.inr ⟨o, e _ _ h⟩)
  · exact .inr h

mutual
theorem Rep.mono {K : PySem.W.Frag} {H H' : Hp} (e : Same H H') : ∀ (d : D) {v : V}, Rep K H d v → Rep K H' d v
  | .non, _, h => by simpa [Rep] using h
  | .bl b, _, h => by simpa [Rep] using h
  | .int i, _, h => by simpa [Rep] using h
  | .str x, _, h => by simpa [Rep] using h
  | .tup ds, _, h => by
    simp only [Rep] at h ⊢
    obtain ⟨a, xs, e1, h1, h2⟩ := h
    exact ⟨a, xs, e1, same_tup e h1, Reps.mono e ds h2⟩
  | .lst ds, _, h => by
    simp only [Rep] at h ⊢
    obtain ⟨a, xs, e1, h1, h2⟩ := h
    exact ⟨a, xs, e1, e.seq h1, Reps.mono e ds h2⟩
  | .exc C, _, h => by
    simp only [Rep] at h ⊢
    obtain ⟨a, dx, e1, h1, h2⟩ := h
    exact ⟨a, dx, e1, e _ _ h1, e _ _ h2⟩
  | .fdK ks ds, _, h => by
    simp only [Rep] at h ⊢
    obtain ⟨a, ys, o, e1, h1, h2, h3⟩ := h
    exact ⟨a, ys, o, e1, e _ _ h1, h2, Reps.mono e ds h3⟩
  | .fdT ks ds, _, h => by
    simp only [Rep] at h ⊢
    obtain ⟨a, ys, o, e1, h1, h2, h3, h4⟩ := h
    exact ⟨a, ys, o, e1, e _ _ h1, h2, fun y hy => same_tup e (h3 y hy), Reps.mono e ds h4⟩
  | .adr a, _, h => by simpa [Rep] using h
theorem Reps.mono {K : PySem.W.Frag} {H H' : Hp} (e : Same H H') : ∀ (ds : List D) {xs : List V}, Reps K H ds xs → Reps K H' ds xs
  | [], _, h => by simpa [Reps] using h
  | d :: ds, _, h => by
    simp only [Reps] at h ⊢
    obtain ⟨x, r, e1, h1, h2⟩ := h
    exact ⟨x, r, e1, Rep.mono e d h1, Reps.mono e ds h2⟩
end

section
variable {K : PySem.W.Frag} {H : Hp} {v : V}
theorem rep_int {i : Int} : Rep K H (.int i) v ↔ v = .int i := by simp only [Rep]
theorem rep_bl {i : Bool} : Rep K H (.bl i) v ↔ v = .bl i := by simp only [Rep]
theorem rep_non : Rep K H .non v ↔ v = .non := by simp only [Rep]
theorem rep_str {i : Str} : Rep K H (.str i) v ↔ v = .str i := by simp only [Rep]
theorem rep_tup {ds : List D} : Rep K H (.tup ds) v ↔ ∃ a xs, v = .ref a ∧ SqT K H a xs ∧ Reps K H ds xs := by simp only [Rep]
theorem rep_lst {ds : List D} : Rep K H (.lst ds) v ↔ ∃ a xs, v = .ref a ∧ SqL K H a xs ∧ Reps K H ds xs := by simp only [Rep]
theorem rep_fdK {ks : List Key} {ds : List D} : Rep K H (.fdK ks ds) v ↔ ∃ a ys o, v = .ref a ∧ H a = some (.frz o (.dK ys)) ∧ ys.map (·.1) = ks ∧ Reps K H ds (ys.map (·.2)) := by simp only [Rep]
theorem rep_fdT {ks : List (List Key)} {ds : List D} : Rep K H (.fdT ks ds) v ↔ ∃ a ys o, v = .ref a ∧ H a = some (.frz o (.dT ys)) ∧ ys.map (·.1) = ks ∧ (∀ y ∈ ys, SqT K H y.2.1 (y.1.map kV)) ∧ Reps K H ds (ys.map (·.2.2)) := by simp only [Rep]
theorem rep_adr' {a : Addr} : Rep K H (.adr a) v ↔ v = .ref a := by simp only [Rep]
theorem rep_exc {C : Addr} : Rep K H (.exc C) v ↔ ∃ a dx, v = .ref a ∧ H a = some (.ext (excP a C dx)) ∧ H dx = some (.xd lineF) := by simp only [Rep]
theorem reps_nil {xs : List V} : Reps K H [] xs ↔ xs = [] := by simp only [Reps]
theorem reps_cons {d : D} {ds : List D} {xs : List V} : Reps K H (d :: ds) xs ↔ ∃ x r, xs = x :: r ∧ Rep K H d x ∧ Reps K H ds r := by simp only [Reps]
theorem Reps.length : ∀ {ds : List D} {xs : List V}, Reps K H ds xs → ds.length = xs.length
  | [], _, h => by rw [reps_nil] at h; subst h; rfl
  | d :: ds, _, h => by
    rw [reps_cons] at h
    obtain ⟨x, r, rfl, _, h2⟩ := h
    simp [Reps.length h2]
theorem Reps.get : ∀ {ds : List D} {xs : List V} {i : Nat} {d : D}, Reps K H ds xs → ds[i]? = some d → ∃ x, xs[i]? = some x ∧ Rep K H d x
  | [], _, _, _, _, e => by simp at e
  | d :: ds, _, i, d', h, e => by
    rw [reps_cons] at h
    obtain ⟨x, r, rfl, h1, h2⟩ := h
    cases i with
    | zero => simp at e; subst e; exact ⟨x, by simp, h1⟩
    | succ i =>
      obtain ⟨y, e2, h3⟩ := Reps.get (i := i) (d := d') h2 (by simpa using e)
      exact ⟨y, by simpa using e2, h3⟩
theorem Reps.get' : ∀ {ds : List D} {xs : List V} {i : Nat} {x : V}, Reps K H ds xs → xs[i]? = some x → ∃ d, ds[i]? = some d ∧ Rep K H d x := fun {ds xs i x} h e => by
  have hl := h.length
  have hi : i < xs.length := (List.getElem?_eq_some_iff.mp e).1
  obtain ⟨y, e2, h2⟩ := h.get (i := i) (d := ds[i]'(by lia)) (by simp)
  rw [e] at e2; cases e2
  exact ⟨_, by simp, h2⟩
theorem Reps.append : ∀ {ds es : List D} {xs ys : List V}, Reps K H ds xs → Reps K H es ys → Reps K H (ds ++ es) (xs ++ ys)
  | [], _, _, _, h, g => by rw [reps_nil] at h; subst h; exact g
  | d :: ds, _, _, _, h, g => by
    rw [reps_cons] at h
    obtain ⟨x, r, rfl, h1, h2⟩ := h
    exact reps_cons.mpr ⟨x, r ++ _, rfl, h1, Reps.append h2 g⟩
theorem Reps.drop : ∀ (n : Nat) {ds : List D} {xs : List V}, Reps K H ds xs → Reps K H (ds.drop n) (xs.drop n)
  | 0, _, _, h => h
  | n + 1, [], _, h => by rw [reps_nil] at h; subst h; exact reps_nil.mpr rfl
  | n + 1, d :: ds, _, h => by
    rw [reps_cons] at h
    obtain ⟨x, r, rfl, h1, h2⟩ := h
    exact Reps.drop n h2
theorem Reps.take : ∀ (n : Nat) {ds : List D} {xs : List V}, Reps K H ds xs → Reps K H (ds.take n) (xs.take n)
  | 0, _, _, h => reps_nil.mpr rfl
  | n + 1, [], _, h => by rw [reps_nil] at h; subst h; exact reps_nil.mpr rfl
  | n + 1, d :: ds, _, h => by
    rw [reps_cons] at h
    obtain ⟨x, r, rfl, h1, h2⟩ := h
    exact reps_cons.mpr ⟨x, r.take n, rfl, h1, Reps.take n h2⟩
theorem Reps.one {d : D} {v : V} (h : Rep K H d v) : Reps K H [d] [v] := reps_cons.mpr ⟨v, [], rfl, h, reps_nil.mpr rfl⟩
theorem Reps.cons {d : D} {v : V} {ds : List D} {xs : List V} (h : Rep K H d v) (t : Reps K H ds xs) : Reps K H (d :: ds) (v :: xs) := reps_cons.mpr ⟨v, xs, rfl, h, t⟩
theorem reps_ints : ∀ (ns : List Int), Reps K H (ns.map D.int) (ns.map V.int)
  | [] => reps_nil.mpr rfl
  | n :: ns => .cons (rep_int.mpr rfl) (reps_ints ns)
end

/-! ## what is owned, all the way down -/
inductive Sh where
  | v (d : D) | l (ds : List D) | la (a : Addr) (ds : List D) | t (ss : List Sh) | ls (ss : List Sh)
/-- a list that is owned within -/
def pl (p : Addr) (xs : List V) : HO := .ext fun h => xs.length ≤ sizeLine ∧ ∃ (its : List Value) (n : Nat), Vals xs its ∧ h.get? p = some { cls := .type "list", data := .seq its.toArray n }
mutual
/-- fp: the lists that are owned, and their items -/
def RepF (K : PySem.W.Frag) (H Hf : Hp) : Sh → V → List (Addr × List V) → Prop
  | .v d, v, fp => Rep K Hf d v ∧ fp = []
  | .l ds, v, fp => ∃ p xs, v = .ref p ∧ H p = some (pl p xs) ∧ Hf p = none ∧ Reps K Hf ds xs ∧ fp = [(p, xs)]
  | .la p ds, v, fp => ∃ xs, v = .ref p ∧ H p = some (pl p xs) ∧ Hf p = none ∧ Reps K Hf ds xs ∧ fp = [(p, xs)]
  | .t ss, v, fp => ∃ a xs, v = .ref a ∧ SqT K Hf a xs ∧ RepFs K H Hf ss xs fp
  | .ls ss, v, fp => ∃ p xs fq, v = .ref p ∧ H p = some (pl p xs) ∧ Hf p = none ∧ RepFs K H Hf ss xs fq ∧ fp = (p, xs) :: fq
def RepFs (K : PySem.W.Frag) (H Hf : Hp) : List Sh → List V → List (Addr × List V) → Prop
  | [], xs, fp => xs = [] ∧ fp = []
  | s :: ss, xs, fp => ∃ x r f1 f2, xs = x :: r ∧ RepF K H Hf s x f1 ∧ RepFs K H Hf ss r f2 ∧ fp = f1 ++ f2
end
def isFz (H : Hp) (q : Addr) : Prop := ∃ xs, H q = some (pl q xs)
mutual
theorem RepF.mv {K : PySem.W.Frag} {H Hf H' Hf' : Hp} (sf : Same Hf Hf') : ∀ (s : Sh) {v : V} {fp : List (Addr × List V)}, (∀ q ∈ fp, H q.1 = some (pl q.1 q.2) → Hf q.1 = none → H' q.1 = some (pl q.1 q.2) ∧ Hf' q.1 = none) → RepF K H Hf s v fp → RepF K H' Hf' s v fp
  | .v d, _, _, _, h => by simp only [RepF] at h ⊢; exact ⟨h.1.mono sf d, h.2⟩
  | .l ds, _, _, hk, h => by
    simp only [RepF] at h ⊢
    obtain ⟨p, xs, e, h1, h2, h3, rfl⟩ := h
    obtain ⟨q1, q2⟩ := hk _ List.mem_cons_self h1 h2
    exact ⟨p, xs, e, q1, q2, h3.mono sf ds, rfl⟩
  | .la p ds, _, _, hk, h => by
    simp only [RepF] at h ⊢
    obtain ⟨xs, e, h1, h2, h3, rfl⟩ := h
    obtain ⟨q1, q2⟩ := hk _ List.mem_cons_self h1 h2
    exact ⟨xs, e, q1, q2, h3.mono sf ds, rfl⟩
  | .t ss, _, _, hk, h => by
    simp only [RepF] at h ⊢
    obtain ⟨a, xs, e, h1, h2⟩ := h
    exact ⟨a, xs, e, same_tup sf h1, RepFs.mv sf ss hk h2⟩
  | .ls ss, _, _, hk, h => by
    simp only [RepF] at h ⊢
    obtain ⟨p, xs, fq, e, h1, h2, h3, rfl⟩ := h
    obtain ⟨q1, q2⟩ := hk _ List.mem_cons_self h1 h2
    exact ⟨p, xs, fq, e, q1, q2, RepFs.mv sf ss (fun q hq => hk q (List.mem_cons_of_mem _ hq)) h3, rfl⟩
theorem RepFs.mv {K : PySem.W.Frag} {H Hf H' Hf' : Hp} (sf : Same Hf Hf') : ∀ (ss : List Sh) {xs : List V} {fp : List (Addr × List V)}, (∀ q ∈ fp, H q.1 = some (pl q.1 q.2) → Hf q.1 = none → H' q.1 = some (pl q.1 q.2) ∧ Hf' q.1 = none) → RepFs K H Hf ss xs fp → RepFs K H' Hf' ss xs fp
  | [], _, _, _, h => by simpa only [RepFs] using h
  | s :: ss, _, _, hk, h => by
    simp only [RepFs] at h ⊢
    obtain ⟨x, r, f1, f2, e, h1, h2, rfl⟩ := h
    exact ⟨x, r, f1, f2, e, RepF.mv sf s (fun q hq => hk q (List.mem_append_left _ hq)) h1, RepFs.mv sf ss (fun q hq => hk q (List.mem_append_right _ hq)) h2, rfl⟩
end

/-! ## slots -/
inductive Sl where
  | un
  | va (d : D)
  | ow (ds : List D)
  | oT (kvs : List (List Key × D))
  | oK (kvs : List (Key × D))
  | aw (a : Addr) (ds : List D)
  | aT (a : Addr) (kvs : List (List Key × D))
  | aK (a : Addr) (kvs : List (Key × D))
  | fo (s : Sh)

def KVR (K : PySem.W.Frag) (H : Hp) {κ : Type} : List (κ × D) → List (κ × V) → Prop := Paired fun a b => a.1 = b.1 ∧ Rep K H a.2 b.2
theorem KVR.mono {K : PySem.W.Frag} {H H' : Hp} {κ : Type} {ks : List (κ × D)} {xs : List (κ × V)} (e : Same H H') (h : KVR K H ks xs) : KVR K H' ks xs :=
  Paired.mapP h fun a b z => ⟨z.1, Rep.mono e _ z.2⟩

def TVR (K : PySem.W.Frag) (H : Hp) : List (List Key × D) → List (List Key × Addr × V) → Prop := Paired fun a b => a.1 = b.1 ∧ SqT K H b.2.1 (a.1.map kV) ∧ Rep K H a.2 b.2.2
theorem TVR.mono {K : PySem.W.Frag} {H H' : Hp} {ks : List (List Key × D)} {xs : List (List Key × Addr × V)} (e : Same H H') (h : TVR K H ks xs) : TVR K H' ks xs :=
  Paired.mapP h fun a b z => ⟨z.1, same_tup e z.2.1, Rep.mono e _ z.2.2⟩

/-- what stands in a slot: an owned thing (a list, a dict) is in no other slot and in nothing frozen -/
def RepS (K : PySem.W.Frag) (fr : Addr → Prop) (H Hf : Hp) : Sl → V → Prop
  | .un, _ => False
  | .va d, v => Rep K Hf d v
  | .ow ds, v => ∃ p xs, v = .ref p ∧ fr p ∧ H p = some (.lst xs) ∧ Hf p = none ∧ Reps K Hf ds xs
  | .oT kvs, v => ∃ p xs, v = .ref p ∧ fr p ∧ H p = some (.dT xs) ∧ Hf p = none ∧ TVR K Hf kvs xs
  | .oK kvs, v => ∃ p xs, v = .ref p ∧ fr p ∧ H p = some (.dK xs) ∧ Hf p = none ∧ KVR K Hf kvs xs
  | .aw a ds, v => ∃ p xs, v = .ref p ∧ (fr p ∧ p = a) ∧ H p = some (.lst xs) ∧ Hf p = none ∧ Reps K Hf ds xs
  | .aT a kvs, v => ∃ p xs, v = .ref p ∧ (fr p ∧ p = a) ∧ H p = some (.dT xs) ∧ Hf p = none ∧ TVR K Hf kvs xs
  | .aK a kvs, v => ∃ p xs, v = .ref p ∧ (fr p ∧ p = a) ∧ H p = some (.dK xs) ∧ Hf p = none ∧ KVR K Hf kvs xs
  | .fo s, v => ∃ fp, RepF K H Hf s v fp ∧ (fp.map (·.1)).Nodup ∧ ∀ a ∈ fp, fr a.1
def Sl.owned : Sl → Bool
  | .ow _ => true | .oT _ => true | .oK _ => true | .aw _ _ => true | .aT _ _ => true | .aK _ _ => true | _ => false

/-- the heaps grow by frozen and by untouched things alone -/
structure Grw (H Hf H' Hf' : Hp) : Prop where
  s : Same H H'
  f : Same Hf Hf'
  b : Same Hf' H'
  n : ∀ b, Hf b = none → H b ≠ none → (∀ xs, H b ≠ some (.tup xs)) → Hf' b = none

theorem Grw.refl {H Hf : Hp} (b : Same Hf H) : Grw H Hf H Hf := ⟨.refl _, .refl _, b, fun _ h _ _ => h⟩
theorem Grw.trans {H Hf H1 Hf1 H2 Hf2 : Hp} (a : Grw H Hf H1 Hf1) (b : Grw H1 Hf1 H2 Hf2) : Grw H Hf H2 Hf2 :=
  ⟨a.s.trans b.s, a.f.trans b.f, b.b, fun c h1 h2 h3 => by
    cases q : H c with
    | none => exact absurd q h2
    | some o =>
      have e := a.s c o q
      exact b.n c (a.n c h1 h2 h3) (by rw [e]; simp) (by intro xs; rw [e, ← q]; exact h3 xs)⟩
/-- a new thing, frozen -/
theorem Grw.new {H Hf : Hp} (b : Same Hf H) {p : Addr} {o : HO} (hp : H p = none) : Grw H Hf (upd H p o) (upd Hf p o) := by
  have hf : Hf p = none := b.free hp
  refine ⟨fun c u h => ?_, fun c u h => ?_, fun c u h => ?_, fun c h1 h2 _ => ?_⟩
  · rw [upd_ne (ne_of_none h hp)]; exact h
  · rw [upd_ne (ne_of_none h hf)]; exact h
  · by_cases e : c = p
    · subst e; rw [upd_same] at h ⊢; exact h
    · rw [upd_ne e] at h ⊢; exact b c u h
  · by_cases e : c = p
    · subst e; exact absurd hp h2
    · rw [upd_ne e]; exact h1
/-- a new thing, not frozen -/
theorem Grw.newO {H Hf : Hp} (b : Same Hf H) {p : Addr} {o : HO} (hp : H p = none) : Grw H Hf (upd H p o) Hf :=
  ⟨(Grw.new b hp (o := o)).s, .refl _, fun c u h => (Grw.new b hp (o := o)).s c u (b c u h), fun _ h _ _ => h⟩

/-! ## places in written lists -/
inductive At {α : Type} : List α → Nat → α → Prop where
  | z {x : α} {l : List α} : At (x :: l) 0 x
  | s {x y : α} {l : List α} {i : Nat} : At l i x → At (y :: l) (i + 1) x
theorem At.get {α : Type} {l : List α} {i : Nat} {x : α} (h : At l i x) : l[i]? = some x := by
  induction h with
  | z => rfl
  | s _ ih => simpa using ih
theorem At.mem {α : Type} {l : List α} {i : Nat} {x : α} (h : At l i x) : x ∈ l := List.mem_of_getElem? h.get
/-- a slot stored: the list behind -/
inductive SSet {α : Type} : List α → Nat → α → List α → Prop where
  | z {x r : α} {l : List α} : SSet (x :: l) 0 r (r :: l)
  | s {r y : α} {l l' : List α} {i : Nat} : SSet l i r l' → SSet (y :: l) (i + 1) r (y :: l')
theorem SSet.eq {α : Type} {l l' : List α} {i : Nat} {r : α} (h : SSet l i r l') : l' = l.set i r := by
  induction h with
  | z => rfl
  | s _ ih => simp [ih]
/-! ## the state of a def's slots -/
structure StR (K : PySem.W.Frag) (H₀ Hf₀ : Hp) (σ : L2.St) (H Hf : Hp) (ρ : List Sl) : Prop where
  bas : Grw H₀ Hf₀ H Hf
  len : σ.length = ρ.length
  at_ : ∀ (i : Nat) (r : Sl), ρ[i]? = some r → r ≠ .un → ∃ v, σ[i]? = some (some v) ∧ RepS K (fun p => H₀ p = none) H Hf r v
  sep : ∀ (i j : Nat) (r r' : Sl) (p : Addr), i ≠ j → ρ[i]? = some r → ρ[j]? = some r' → r.owned = true → r'.owned = true → σ[i]? = some (some (.ref p)) → σ[j]? ≠ some (some (.ref p))
/-- an exception of one's own class C has come to the frames at outer: a the exception, s the state ahead of the call, H its abstract heap, H' the one behind -/
structure ExcS (P : Program) (w : World) (outer : List Env) (H : Hp) (s : Shared) (a C : Addr) (H' : Hp) (s' : Shared) : Prop where
  os : s'.os = s.os
  bare : AllBare s'.gens
  un : Un (frs outer) [] H H' s.heap s'.heap
  hok : HOk P w H' s'.heap
  new : s.heap.get? a = none
  free : H' a = none
  dct : ∃ dx o, s'.heap.get? a = some o ∧ o.dict = some dx ∧ H' dx = some (.xd lineF) ∧ H dx = none
  fly : ∃ (t : Addr) (B : Heap), Heap.FlyingW B outer a (.ref C) (.ref t) s'.heap ∧ (∀ b o, s.heap.get? b = some o → b ∉ frs outer → ∃ o', s'.heap.get? b = some o' ∧ B.get? b = some o') ∧
    ∀ b o, H' b ≠ none → s'.heap.get? b = some o → B.get? b = some o
def CXE (P : Program) (w : World) : CXT := fun outer H s E e s' => ∃ a C H', e = .ref a ∧ ExcS P w outer H s a C H' s' ∧ E (.ref C) (some a) H'
/-- an exception a of the class at C was made, in the body of X: s the state ahead of it -/
def MadeX (X : Cx) (pins : List (Addr × Obj)) (σ : L2.St) (H : Hp) (s : Shared) (a C : Addr) (H' : Hp) (s' : Shared) : Prop :=
  Inv X pins σ H' s' ∧ Same H H' ∧ s.heap.get? a = none ∧ ∃ t dx, H' a = some (.ext (madP a C (some dx) t)) ∧ H' dx = some (.xd lineF) ∧ H dx = none
/-! ## the context of a def's body -/
set_option genInjectivity false in
structure Ctx (P : Program) (w : World) (K : PySem.W.Frag) (mg : Str → Option Value) (base : Heap) (k : Nat) (N : List Str) (sc : Scope) (bk : Bool) where
  X : Cx
  eP : X.prog = P
  ew : X.w = w
  eK : X.K = K
  emg : X.mg = mg
  eb : X.base = base
  eN : X.N = N
  esc : X.env.scope = sc
  calm : X.calm = true
  top : bk = false → X.stack = X.env :: X.outer ∧ X.env.frame = some X.env.locals ∧ X.ex = []
  cb : bk = false → ∀ (pins : List (Addr × Obj)) (σ : L2.St) (H : Hp) (s : Shared), Inv X pins σ H s → ∀ (x : Str) (c : Addr), X.env.cells.lookup x = some c → X.s₀.heap.objs.size ≤ c
  fn : ∀ x, bk = false ∨ sc.names.lookup x = some .local → X.fn x = true ∨ X.env.scope.names.lookup x = some .local
  room : Room k X.A
  nd : N.Nodup
  vis : ∀ x ∈ N, Loc sc x
  Hf : Hp
  /-- the heap at the entry, without what was handed over -/
  B : Hp
  /-- what is wanted where an exception of the class comes, by the slots -/
  RX : Addr → List Sl → Prop
  exc : ∀ (C a : Addr) (pins : List (Addr × Obj)) (σ : L2.St) (H Hf' : Hp) (ρ : List Sl) (s : Shared) (H' : Hp) (s' : Shared), Inv X pins σ H s → StR X.K B Hf σ H Hf' ρ → RX C ρ → ExcS X.prog X.w X.stack H s a C H' s' → Same H H' → X.xe (.ref a) s'
  /-- .. where one is raised here -/
  RM : Addr → List Sl → Prop
  mde : ∀ (C a : Addr) (pins : List (Addr × Obj)) (σ : L2.St) (H Hf' : Hp) (ρ : List Sl) (s : Shared) (H' : Hp) (s' : Shared), Inv X pins σ H s → StR X.K B Hf σ H Hf' ρ → RM C ρ → MadeX X pins σ H s a C H' s' → X.xe (.ref a) s'

def Sl.isF : Sl → Bool | .fo _ => true | _ => false
/-- one owned thing -/
abbrev OwX {α : Type} (fr : Addr → Prop) (H Hf : Hp) (o : α → HO) (R : α → Prop) (v : V) : Prop := ∃ (p : Addr) (xs : α), v = .ref p ∧ fr p ∧ H p = some (o xs) ∧ Hf p = none ∧ R xs
theorem OwX.mvx {α : Type} {fr : Addr → Prop} {H Hf H' Hf' : Hp} {o : α → HO} {R R' : α → Prop} {v : V} (h : OwX fr H Hf o R v) (hk : ∀ p, v = .ref p → ∀ u, (∀ ys, u ≠ .tup ys) → H p = some u → Hf p = none → H' p = some u ∧ Hf' p = none) (ho : ∀ xs ys, o xs ≠ .tup ys) (hR : ∀ xs, R xs → R' xs) : OwX fr H' Hf' o R' v := by
  obtain ⟨p, xs, e, f, h1, h2, h3⟩ := h
  exact ⟨p, xs, e, f, (hk p e _ (ho xs) h1 h2).1, (hk p e _ (ho xs) h1 h2).2, hR xs h3⟩
theorem OwX.wkx {α : Type} {fr fr' : Addr → Prop} {H Hf : Hp} {o : α → HO} {R : α → Prop} {v : V} (h : OwX fr H Hf o R v) (hf : ∀ p, fr p → fr' p) : OwX fr' H Hf o R v :=
  let ⟨p, xs, e, f, h⟩ := h; ⟨p, xs, e, hf p f, h⟩
/-- the heaps are others, but at B, where nothing of the slot stands -/
theorem RepS.mv {K : PySem.W.Frag} {fr : Addr → Prop} {H Hf H' Hf' : Hp} {B : Addr → Prop} (sf : Same Hf Hf') (hk : ∀ q o, ¬ B q → H q = some o → (∀ xs, o ≠ .tup xs) → Hf q = none → H' q = some o ∧ Hf' q = none) : ∀ {r : Sl} {v : V},
    (r.isF = true → ∀ q, B q → ¬ isFz H q) → (r.owned = true → ∀ q, v = .ref q → ¬ B q) → RepS K fr H Hf r v → RepS K fr H' Hf' r v
  | .un, _, _, _, h => h
  | .va d, _, _, _, h => Rep.mono sf d h
  | .ow ds, _, _, hv, h => OwX.mvx h (fun p e o z ho hf => hk p o (hv rfl p e) ho z hf) (fun _ _ z => by cases z) fun _ h => h.mono sf
  | .oT kvs, _, _, hv, h => OwX.mvx h (fun p e o z ho hf => hk p o (hv rfl p e) ho z hf) (fun _ _ z => by cases z) fun _ h => h.mono sf
  | .oK kvs, _, _, hv, h => OwX.mvx h (fun p e o z ho hf => hk p o (hv rfl p e) ho z hf) (fun _ _ z => by cases z) fun _ h => h.mono sf
  | .aw a ds, _, _, hv, h => OwX.mvx h (fun p e o z ho hf => hk p o (hv rfl p e) ho z hf) (fun _ _ z => by cases z) fun _ h => h.mono sf
  | .aT a kvs, _, _, hv, h => OwX.mvx h (fun p e o z ho hf => hk p o (hv rfl p e) ho z hf) (fun _ _ z => by cases z) fun _ h => h.mono sf
  | .aK a kvs, _, _, hv, h => OwX.mvx h (fun p e o z ho hf => hk p o (hv rfl p e) ho z hf) (fun _ _ z => by cases z) fun _ h => h.mono sf
  | .fo s, _, hB, _, ⟨fp, h1, h2, h3⟩ => ⟨fp, RepF.mv sf s (fun q _ e1 e2 => hk q.1 _ (fun b => hB rfl q.1 b ⟨q.2, e1⟩) e1 (by intro ys z; cases z) e2) h1, h2, h3⟩
theorem RepS.grw {K : PySem.W.Frag} {fr : Addr → Prop} {H Hf H' Hf' : Hp} (g : Grw H Hf H' Hf') {r : Sl} {v : V} (h : RepS K fr H Hf r v) : RepS K fr H' Hf' r v :=
  RepS.mv (B := fun _ => False) g.f (fun q o _ e1 e2 e3 => ⟨g.s _ _ e1, g.n q e3 (by rw [e1]; simp) fun xs z => e2 xs (by rw [e1] at z; exact Option.some.inj z)⟩) (fun _ _ z => z.elim) (fun _ _ _ z => z) h
theorem RepS.weak {K : PySem.W.Frag} {fr fr' : Addr → Prop} {H Hf : Hp} (hf : ∀ p, fr p → fr' p) : ∀ {r : Sl} {v : V}, RepS K fr H Hf r v → RepS K fr' H Hf r v
  | .un, _, h => h
  | .va d, _, h => h
  | .ow ds, _, h => OwX.wkx h hf
  | .oT ds, _, h => OwX.wkx h hf
  | .oK ds, _, h => OwX.wkx h hf
  | .aw a ds, _, h => OwX.wkx h fun p f => ⟨hf p f.1, f.2⟩
  | .aT a ds, _, h => OwX.wkx h fun p f => ⟨hf p f.1, f.2⟩
  | .aK a ds, _, h => OwX.wkx h fun p f => ⟨hf p f.1, f.2⟩
  | .fo s, _, ⟨fp, h1, h2, h3⟩ => ⟨fp, h1, h2, fun a ha => hf _ (h3 a ha)⟩

section
variable {P : Program} {w : World} {K : PySem.W.Frag} {mg : Str → Option Value} {base : Heap} {k : Nat} {N : List Str} {sc : Scope} {bk : Bool}
def Ctx.fr (c : Ctx P w K mg base k N sc bk) (p : Addr) : Prop := c.B p = none
abbrev StRep (c : Ctx P w K mg base k N sc bk) (σ : L2.St) (H Hf : Hp) (ρ : List Sl) : Prop := StR c.X.K c.B c.Hf σ H Hf ρ

variable {σ : L2.St} {H Hf H' Hf' H₀ Hf₀ : Hp} {ρ : List Sl}
theorem StR.grw (S : StR K H₀ Hf₀ σ H Hf ρ) (g : Grw H Hf H' Hf') : StR K H₀ Hf₀ σ H' Hf' ρ :=
  ⟨S.bas.trans g, S.len, fun i r h hr => let ⟨v, e, q⟩ := S.at_ i r h hr; ⟨v, e, q.grw g⟩, S.sep⟩
theorem StR.sb (S : StR K H₀ Hf₀ σ H Hf ρ) : Same Hf H := S.bas.b
theorem StR.va (S : StR K H₀ Hf₀ σ H Hf ρ) {i : Nat} {d : D} (h : ρ[i]? = some (.va d)) : ∃ v, σ[i]? = some (some v) ∧ Rep K Hf d v := S.at_ i _ h (by simp)
/-- a slot is stored -/
theorem StR.set (S : StR K H₀ Hf₀ σ H Hf ρ) {H1 Hf1 : Hp} (g : Grw H Hf H1 Hf1) {i : Nat} {r : Sl} {v : V} (hr : RepS K (fun p => H p = none) H1 Hf1 r v) :
    StR K H₀ Hf₀ (σ.set i (some v)) H1 Hf1 (ρ.set i r) := by
  have S1 := S.grw g
  have fr0 : ∀ p, H p = none → H₀ p = none := fun p h => S.bas.s.free h
  have fresh : ∀ p, r.owned = true → v = .ref p → H p = none := fun p ho e => by
    subst e
    cases r with
    | un => cases ho
    | va d => cases ho
    | ow ds => obtain ⟨p', xs, e, h, _⟩ := hr; cases e; exact h
    | oT ds => obtain ⟨p', xs, e, h, _⟩ := hr; cases e; exact h
    | oK ds => obtain ⟨p', xs, e, h, _⟩ := hr; cases e; exact h
    | aw a ds => obtain ⟨p', xs, e, h, _⟩ := hr; cases e; exact h.1
    | aT a ds => obtain ⟨p', xs, e, h, _⟩ := hr; cases e; exact h.1
    | aK a ds => obtain ⟨p', xs, e, h, _⟩ := hr; cases e; exact h.1
    | fo s => cases ho
  have old : ∀ (j : Nat) (r' : Sl) (p : Addr), ρ[j]? = some r' → r'.owned = true → σ[j]? = some (some (.ref p)) → H p ≠ none := fun j r' p h ho hs => by
    obtain ⟨v', e, q⟩ := S.at_ j r' h (by rintro rfl; cases ho)
    rw [hs] at e; cases e
    cases r' with
    | un => cases ho
    | va d => cases ho
    | ow ds => obtain ⟨p', xs, e, _, h, _⟩ := q; cases e; rw [h]; simp
    | oT ds => obtain ⟨p', xs, e, _, h, _⟩ := q; cases e; rw [h]; simp
    | oK ds => obtain ⟨p', xs, e, _, h, _⟩ := q; cases e; rw [h]; simp
    | aw a ds => obtain ⟨p', xs, e, _, h, _⟩ := q; cases e; rw [h]; simp
    | aT a ds => obtain ⟨p', xs, e, _, h, _⟩ := q; cases e; rw [h]; simp
    | aK a ds => obtain ⟨p', xs, e, _, h, _⟩ := q; cases e; rw [h]; simp
    | fo s => cases ho
  refine ⟨S1.bas, by simp [S.len], fun j r' hj hu => ?_, fun j j' r1 r2 p hne h1 h2 o1 o2 e1 e2 => ?_⟩
  · by_cases q : j = i
    · subst q
      have hi : j < ρ.length := by
        have := (List.getElem?_eq_some_iff.mp hj).1
        simpa using this
      rw [List.getElem?_set_self hi] at hj; cases hj
      exact ⟨v, List.getElem?_set_self (by rw [S.len]; exact hi), hr.weak fr0⟩
    · rw [List.getElem?_set_ne (Ne.symm q)] at hj ⊢
      exact S1.at_ j r' hj hu
  · have hlt : ∀ {j : Nat} {r : Sl}, (ρ.set i r)[j]? = some r → j < ρ.length := fun {j r} h => by
      have := (List.getElem?_eq_some_iff.mp h).1
      simpa using this
    by_cases q1 : j = i
    · subst q1
      have hi : j < ρ.length := by have := (List.getElem?_eq_some_iff.mp h1).1; simpa using this
      rw [List.getElem?_set_self hi] at h1; cases h1
      rw [List.getElem?_set_self (by rw [S.len]; exact hi)] at e1
      rw [List.getElem?_set_ne hne] at h2 e2
      exact old j' r2 p h2 o2 e2 (fresh p o1 (by simpa using e1))
    · by_cases q2 : j' = i
      · subst q2
        have hi : j' < ρ.length := by have := (List.getElem?_eq_some_iff.mp h2).1; simpa using this
        rw [List.getElem?_set_self hi] at h2; cases h2
        rw [List.getElem?_set_self (by rw [S.len]; exact hi)] at e2
        rw [List.getElem?_set_ne (Ne.symm hne)] at h1 e1
        exact old j r1 p h1 o1 e1 (fresh p o2 (by simpa using e2))
      · rw [List.getElem?_set_ne (Ne.symm q1)] at h1 e1
        rw [List.getElem?_set_ne (Ne.symm q2)] at h2 e2
        exact S.sep j j' r1 r2 p hne h1 h2 o1 o2 e1 e2
/-- fewer slots are told -/
theorem StR.weak {ρ' : List Sl} (S : StR K H₀ Hf₀ σ H Hf ρ) (hl : ρ'.length = ρ.length) (h : ∀ (i : Nat) (r : Sl), ρ'[i]? = some r → r ≠ .un → ρ[i]? = some r) : StR K H₀ Hf₀ σ H Hf ρ' :=
  ⟨S.bas, by rw [S.len, hl], fun i r e hu => S.at_ i r (h i r e hu) hu, fun i j r r' p hne h1 h2 o1 o2 => S.sep i j r r' p hne (h i r h1 (by rintro rfl; cases o1)) (h j r' h2 (by rintro rfl; cases o2)) o1 o2⟩
end
section
variable {P : Program} {w : World} {K : PySem.W.Frag} {mg : Str → Option Value} {base : Heap} {k : Nat} {N : List Str} {sc : Scope} {bk : Bool}
def bE (X : Cx) (e : Expr) : TE := fun σ H Q => ∀ pins s, Inv X pins σ H s → wpAny (model X.prog X.w) X.A (eval e X.env) (EP X pins σ Q) X.xe s
theorem pbE {X : Cx} {e : Expr} : PE X e (bE X e) := fun pins s σ H Q I h => h pins s I
theorem bE_of {X : Cx} {e : Expr} {t : TE} (h : PE X e t) {σ : L2.St} {H : Hp} {Q : VK} (q : t σ H Q) : bE X e σ H Q := fun pins s I => h pins s σ H Q I q
def bT (X : Cx) (e : Expr) : TT := fun σ H Q => ∀ pins s, Inv X pins σ H s → wpAny (model X.prog X.w) X.A (isTrue e X.env (eval e X.env)) (TP X pins σ Q) X.xe s
theorem pbT {X : Cx} {e : Expr} : PT X e (bT X e) := fun pins s σ H Q I h => h pins s I
theorem bT_of {X : Cx} {e : Expr} {t : TT} (h : PT X e t) {σ : L2.St} {H : Hp} {Q : Bool → Hp → Prop} (q : t σ H Q) : bT X e σ H Q := fun pins s I => h pins s σ H Q I q
def bA (X : Cx) (es : List Expr) : TA := fun σ H Q => ∀ pos pins s, Inv X pins σ H s → wpAny (model X.prog X.w) X.A (spliced (backTo pos (starEach es X.env))) (AP X pins σ Q) X.xe s
theorem pbA {X : Cx} {es : List Expr} : PA X es (bA X es) := fun pos pins s σ H Q I h => h pos pins s I
theorem bA_of {X : Cx} {es : List Expr} {t : TA} (h : PA X es t) {σ : L2.St} {H : Hp} {Q : List V → Hp → Prop} (q : t σ H Q) : bA X es σ H Q := fun pos pins s I => h pos pins s σ H Q I q
def bS (X : Cx) (st : Stmt) : TS := fun D σ H => ∀ pins s, Inv X pins σ H s → wpAny (model X.prog X.w) X.A (exec st X.env) (SP X pins D) X.xe s
theorem pbS {X : Cx} {st : Stmt} : PS X st (bS X st) := fun pins s σ H D I h => h pins s I
theorem bS_of {X : Cx} {st : Stmt} {t : TS} (h : PS X st t) {σ : L2.St} {H : Hp} {D : Ends} (q : t D σ H) : bS X st D σ H := fun pins s I => h pins s σ H D I q
def bSs (X : Cx) (st : List Stmt) : TS := fun D σ H => ∀ pins s, Inv X pins σ H s → wpAny (model X.prog X.w) X.A (execs st X.env) (SP X pins D) X.xe s
theorem pbSs {X : Cx} {st : List Stmt} : PSs X st (bSs X st) := fun pins s σ H D I h => h pins s I
theorem bSs_of {X : Cx} {st : List Stmt} {t : TS} (h : PSs X st t) {σ : L2.St} {H : Hp} {D : Ends} (q : t D σ H) : bSs X st D σ H := fun pins s I => h pins s σ H D I q
def bG (X : Cx) (tg : Expr) : TG := fun v σ H Q => ∀ pins s u, Inv X pins σ H s → RelV v u → wpAny (model X.prog X.w) X.A (assign tg X.env u) (fun _ s' => ∃ σ' H', Inv X pins σ' H' s' ∧ Q σ' H') X.xe s
theorem pbG {X : Cx} {tg : Expr} : PG X tg (bG X tg) := fun pins s σ H v u Q I r h => h pins s u I r
theorem bG_of {X : Cx} {tg : Expr} {t : TG} (h : PG X tg t) {v : V} {σ : L2.St} {H : Hp} {Q : L2.St → Hp → Prop} (q : t v σ H Q) : bG X tg v σ H Q := fun pins s u I r => h pins s σ H v u Q I r q

/-! ## the judgements -/
variable (c : Ctx P w K mg base k N sc bk)
/-- an expression's value: what it is (P), new and not yet frozen where it is an owned thing -/
def EvX (e : Expr) (ρ : List Sl) (R : Sl → Prop) : Prop :=
  ∀ (σ : L2.St) (H Hf : Hp) (Q : VK), StRep c σ H Hf ρ → (∀ r v H' Hf', R r → RepS c.X.K (fun p => H p = none) H' Hf' r v → Grw H Hf H' Hf' → Q v H') → bE c.X e σ H Q
def EvE (e : Expr) (ρ : List Sl) (R : D → Prop) : Prop :=
  ∀ (σ : L2.St) (H Hf : Hp) (Q : VK), StRep c σ H Hf ρ → (∀ d v H' Hf', R d → Rep c.X.K Hf' d v → Grw H Hf H' Hf' → Q v H') → bE c.X e σ H Q
def EvT (e : Expr) (ρ : List Sl) (R : Bool → Prop) : Prop :=
  ∀ (σ : L2.St) (H Hf : Hp) (Q : Bool → Hp → Prop), StRep c σ H Hf ρ → (∀ b H' Hf', R b → Grw H Hf H' Hf' → Q b H') → bT c.X e σ H Q
def EvA (es : List Expr) (ρ : List Sl) (R : List D → Prop) : Prop :=
  ∀ (σ : L2.St) (H Hf : Hp) (Q : List V → Hp → Prop), StRep c σ H Hf ρ → (∀ ds vs H' Hf', R ds → Reps c.X.K Hf' ds vs → Grw H Hf H' Hf' → Q vs H') → bA c.X es σ H Q
/-- what is wanted behind a statement -/
structure Pt where
  rt : Sl → Prop
  bk : List Sl → Prop := fun _ => False
  ct : List Sl → Prop := fun _ => False
structure PtOk (nx : List Sl → Prop) (p : Pt) (D : Ends) : Prop where
  nx : ∀ σ H Hf ρ, StRep c σ H Hf ρ → nx ρ → D.nx σ H
  rt : ∀ r v H Hf, Grw c.B c.Hf H Hf → RepS c.X.K c.fr H Hf r v → p.rt r → D.rt v H
  bk : ∀ σ H Hf ρ, StRep c σ H Hf ρ → p.bk ρ → D.bk σ H
  ct : ∀ σ H Hf ρ, StRep c σ H Hf ρ → p.ct ρ → D.ct σ H
def EvS (st : Stmt) (ρ : List Sl) (nx : List Sl → Prop) (p : Pt) : Prop :=
  ∀ (σ : L2.St) (H Hf : Hp) (D : Ends), StRep c σ H Hf ρ → PtOk c nx p D → bS c.X st D σ H
def EvSs (st : List Stmt) (ρ : List Sl) (nx : List Sl → Prop) (p : Pt) : Prop :=
  ∀ (σ : L2.St) (H Hf : Hp) (D : Ends), StRep c σ H Hf ρ → PtOk c nx p D → bSs c.X st D σ H
/-- a target that takes a frozen value -/
def EvG (tg : Expr) (d : D) (ρ : List Sl) (R : List Sl → Prop) : Prop :=
  ∀ (σ : L2.St) (H Hf : Hp) (v : V) (Q : L2.St → Hp → Prop), StRep c σ H Hf ρ → Rep c.X.K Hf d v → (∀ σ' H' Hf' ρ', StRep c σ' H' Hf' ρ' → Grw H Hf H' Hf' → R ρ' → Q σ' H') → bG c.X tg v σ H Q

variable {c}
/-- an owned value, frozen -/
def Sl.fz : Sl → Option D
  | .va d => some d
  | .ow ds => some (.lst ds)
  | _ => none
def FzP (R : D → Prop) (r : Sl) : Prop := ∃ d, r.fz = some d ∧ R d
theorem fz_grw {K : PySem.W.Frag} {H Hf H' Hf' : Hp} {r : Sl} {v : V} {d : D} (e : r.fz = some d) (h : RepS K (fun p => H p = none) H' Hf' r v) (g : Grw H Hf H' Hf') :
    ∃ Hf2, Rep K Hf2 d v ∧ Grw H Hf H' Hf2 := by
  cases r with
  | un => cases e
  | va d' => cases e; exact ⟨Hf', h, g⟩
  | oT _ => cases e
  | oK _ => cases e
  | aw _ _ => cases e
  | aT _ _ => cases e
  | aK _ _ => cases e
  | fo _ => cases e
  | ow ds =>
    cases e
    obtain ⟨p, xs, rfl, hp, h1, h2, h3⟩ := h
    have sf : Same Hf' (upd Hf' p (.lst xs)) := fun b o e => by rw [upd_ne (ne_of_none e h2)]; exact e
    have sb : Same (upd Hf' p (.lst xs)) H' := fun b o e => by
      by_cases q : b = p
      · subst q; rw [upd_same] at e; rw [h1]; exact e
      · rw [upd_ne q] at e; exact g.b b o e
    refine ⟨upd Hf' p (.lst xs), rep_lst.mpr ⟨p, xs, rfl, .inl (.inl upd_same), h3.mono sf⟩, g.s, g.f.trans sf, sb, fun b q1 q2 q3 => ?_⟩
    have e := g.n b q1 q2 q3
    by_cases q : b = p
    · subst q; exact absurd hp q2
    · rw [upd_ne q]; exact e
theorem e_x {e : Expr} {ρ : List Sl} {R : D → Prop} (h : EvX c e ρ (FzP R)) : EvE c e ρ R := fun σ H Hf Q S q =>
  h σ H Hf Q S fun r v H' Hf' ⟨d, e1, rd⟩ rs g => let ⟨Hf2, h1, g2⟩ := fz_grw e1 rs g; q d v H' Hf2 rd h1 g2
theorem x_e {e : Expr} {ρ : List Sl} {R : Sl → Prop} (h : EvE c e ρ fun d => R (.va d)) : EvX c e ρ R := fun σ H Hf Q S q =>
  h σ H Hf Q S fun d v H' Hf' rd h1 g => q (.va d) v H' Hf' rd h1 g
theorem EvE.imp {e : Expr} {ρ : List Sl} {R R' : D → Prop} (h : EvE c e ρ R) (hi : ∀ d, R d → R' d) : EvE c e ρ R' := fun σ H Hf Q S q => h σ H Hf Q S fun d v H' Hf' rd => q d v H' Hf' (hi d rd)
theorem EvX.imp {e : Expr} {ρ : List Sl} {R R' : Sl → Prop} (h : EvX c e ρ R) (hi : ∀ d, R d → R' d) : EvX c e ρ R' := fun σ H Hf Q S q => h σ H Hf Q S fun d v H' Hf' rd => q d v H' Hf' (hi d rd)
theorem EvT.imp {e : Expr} {ρ : List Sl} {R R' : Bool → Prop} (h : EvT c e ρ R) (hi : ∀ d, R d → R' d) : EvT c e ρ R' := fun σ H Hf Q S q => h σ H Hf Q S fun d H' Hf' rd => q d H' Hf' (hi d rd)

/-! ## reading an owned thing without keeping it -/

/-! ## names, constants -/
theorem e_var {x : Str} {pos : Pos} {ρ : List Sl} {R : D → Prop} {i : Nat} {d : D} (hN : At N i x) (hs : At ρ i (.va d)) (hR : R d)
    (hd : (x == ("__debug__" : Str)) = false := by decide) (hcd : (x == ("__classdict__" : Str)) = false := by decide) :
    EvE c (.Name x pos) ρ R := fun σ H Hf Q S q => by
  obtain ⟨v, e, r⟩ := S.va hs.get
  exact bE_of (pe_var (X := c.X) (i := i) (by rw [c.eN]; exact hN.get) (by rw [c.esc]; rcases c.vis x hN.mem with h | h; exact .inl h; exact .inr (.inl h)) hd hcd) ⟨v, e, q d v H Hf hR r (.refl S.sb)⟩
theorem e_int {i : Int} {j : Nat} {pos : Pos} {ρ : List Sl} {R : D → Prop} (hR : R (.int i)) : EvE c (.Constant (.int i) j pos) ρ R := fun σ H Hf Q S q =>
  bE_of pe_int (q _ _ H Hf hR (rep_int.mpr rfl) (.refl S.sb))
theorem e_bl {i : Bool} {j : Nat} {pos : Pos} {ρ : List Sl} {R : D → Prop} (hR : R (.bl i)) : EvE c (.Constant (.bool i) j pos) ρ R := fun σ H Hf Q S q =>
  bE_of pe_bl (q _ _ H Hf hR (rep_bl.mpr rfl) (.refl S.sb))
theorem e_non {j : Nat} {pos : Pos} {ρ : List Sl} {R : D → Prop} (hR : R .non) : EvE c (.Constant .none j pos) ρ R := fun σ H Hf Q S q =>
  bE_of pe_non (q _ _ H Hf hR (rep_non.mpr rfl) (.refl S.sb))
theorem e_str {i : Str} {j : Nat} {pos : Pos} {ρ : List Sl} {R : D → Prop} (hR : R (.str i)) : EvE c (.Constant (.str i) j pos) ρ R := fun σ H Hf Q S q =>
  bE_of pe_str (q _ _ H Hf hR (rep_str.mpr rfl) (.refl S.sb))
/-- a module's int -/
theorem e_gint {x : Str} {pos : Pos} {ρ : List Sl} {R : D → Prop} {i : Int} {t : Tok} (hm : mg x = some (.int i t)) (hR : R (.int i)) (hg : sc.names.lookup x = some .globalImplicit := by with_unfolding_all rfl) (hd : (x == ("__debug__" : Str)) = false := by decide) :
    EvE c (.Name x pos) ρ R := fun σ H Hf Q S q =>
  bE_of (pe_glob (X := c.X) (v := .int i) (u := .int i t) (by unfold Gl Env.kindOf; rw [c.esc]; exact hg) (by rw [c.emg]; exact hm) ⟨t, rfl⟩ hd) (q _ _ H Hf hR (rep_int.mpr rfl) (.refl S.sb))

/-! ## operations on two values -/
/-- a rule by values, told of data -/
def OpD (K : PySem.W.Frag) (r : R2) (p : D → D → (Sl → Prop) → Prop) : Prop :=
  ∀ (x y : D) (v u : V) (H Hf : Hp) (Q : VK) (R : Sl → Prop), Same Hf H → Rep K Hf x v → Rep K Hf y u → p x y R →
    (∀ z v' H' Hf', R z → RepS K (fun p => H p = none) H' Hf' z v' → Grw H Hf H' Hf' → Q v' H') → r v u H Q
theorem x_op {a b : Expr} {op : Operator} {pos : Pos} {ρ : List Sl} {R : Sl → Prop} {r : R2} {p : D → D → (Sl → Prop) → Prop} (ho : OpR c.X (binaryOp op) r) (hd : OpD c.X.K r p)
    (h : EvE c a ρ fun x => EvE c b ρ fun y => p x y R) : EvX c (.BinOp a op b pos) ρ R := fun σ H Hf Q S q =>
  bE_of (pe_op ho pbE pbE) (h σ H Hf _ S fun x v1 H1 Hf1 h1 r1 g1 => h1 σ H1 Hf1 _ (S.grw g1) fun y v2 H2 Hf2 h2 r2 g2 =>
    hd x y v1 v2 H2 Hf2 Q R g2.b (Rep.mono g2.f x r1) r2 h2 fun z v' H' Hf' hz rz g3 =>
      q z v' H' Hf' hz (rz.weak fun p hp => (g1.trans g2).s.free hp) ((g1.trans g2).trans g3))
/-- ints in, an int out -/
theorem opd_I {K : PySem.W.Frag} {C : Int → Int → Prop} {f : Int → Int → Int} : OpD K (rI C fun i j => .int (f i j)) fun x y R => ∃ i j, x = .int i ∧ y = .int j ∧ C i j ∧ R (.va (.int (f i j))) := by
  rintro x y v u H Hf Q R s rx ry ⟨i, j, rfl, rfl, hC, hR⟩ q
  rw [rep_int] at rx ry
  exact ⟨i, j, rx, ry, hC, q (.va (.int (f i j))) _ H Hf hR (show Rep K Hf (.int (f i j)) _ from rep_int.mpr rfl) (.refl s)⟩
theorem opd_I0 {K : PySem.W.Frag} {f : Int → Int → Int} : OpD K (rI0 fun i j => .int (f i j)) fun x y R => ∃ i j, x = .int i ∧ y = .int j ∧ R (.va (.int (f i j))) := by
  rintro x y v u H Hf Q R s rx ry ⟨i, j, rfl, rfl, hR⟩ q
  rw [rep_int] at rx ry
  exact ⟨i, j, rx, ry, q (.va (.int (f i j))) _ H Hf hR (show Rep K Hf (.int (f i j)) _ from rep_int.mpr rfl) (.refl s)⟩
theorem e_ofx {e : Expr} {ρ : List Sl} {R : D → Prop} (h : EvX c e ρ fun r => ∃ d, r = .va d ∧ R d) : EvE c e ρ R := e_x (h.imp fun r ⟨d, e, hr⟩ => ⟨d, by subst e; rfl, hr⟩)
/-- the kinds that == tells apart as data does -/
def scalD : D → D → Bool
  | .non, .non => true | .non, .int _ => true | .int _, .non => true | .non, .bl _ => true | .bl _, .non => true | .non, .str _ => true | .str _, .non => true
  | .int _, .int _ => true | .bl _, .bl _ => true | .str _, .str _ => true | .int _, .str _ => true | .str _, .int _ => true | .bl _, .str _ => true | .str _, .bl _ => true
  | _, _ => false
noncomputable instance : DecidableEq D := fun _ _ => Classical.propDecidable _
/-- data that == compares to any depth -/
inductive EqO : Nat → D → D → Prop where
  | sc {n : Nat} {x y : D} (h : scalD x y = true) : EqO n x y
  | tup {n : Nat} {ds es : List D} (h : ∀ (i : Nat) (d e : D), ds[i]? = some d → es[i]? = some e → EqO n d e) : EqO (n + 1) (.tup ds) (.tup es)
  | lst {n : Nat} {ds es : List D} (h : ∀ (i : Nat) (d e : D), ds[i]? = some d → es[i]? = some e → EqO n d e) : EqO (n + 1) (.lst ds) (.lst es)
  | ln {n : Nat} {ds : List D} : EqO n (.lst ds) .non
  | nl {n : Nat} {ds : List D} : EqO n .non (.lst ds)
  | tn {n : Nat} {ds : List D} : EqO n (.tup ds) .non
  | nt {n : Nat} {ds : List D} : EqO n .non (.tup ds)
/-- the items of two rows, side by side -/
def EqIt (ds es : List D) : Prop := ∀ (i : Nat) (d e : D), ds[i]? = some d → es[i]? = some e → EqO 40 d e
def EqOk (x y : D) : Prop := scalD x y = true ∨ ∃ ds es, ((x = .tup ds ∧ y = .tup es) ∨ (x = .lst ds ∧ y = .lst es)) ∧ EqIt ds es
section
variable {a b : Expr} {pos : Pos} {ρ : List Sl} {R : D → Prop}
structure Sd (A B : Prop) : Prop where
  s : A
  r : B
/-- two ways -/
structure If2 (A B : Prop) (x : Bool) : Prop where
  t : x = true → A
  f : x = false → B
theorem if2 {A B : Prop} {x : Bool} (h1 : x = true → A) (h2 : x = false → B) : If2 A B x := ⟨h1, h2⟩
theorem if2_t {A B : Prop} (h1 : A) : If2 A B true := ⟨fun _ => h1, fun h => by cases h⟩
theorem if2_f {A B : Prop} (h1 : B) : If2 A B false := ⟨fun h => (by cases h), fun _ => h1⟩
theorem if2_dec {A B p : Prop} {i : Decidable p} (h1 : p → A) (h2 : ¬ p → B) : If2 A B (@decide p i) := ⟨fun h => h1 (of_decide_eq_true h), fun h => h2 (of_decide_eq_false h)⟩
theorem if2_not {A B : Prop} {x : Bool} (h : If2 B A x) : If2 A B (!x) := ⟨fun e => h.f (by simpa using e), fun e => h.t (by simpa using e)⟩
/-- == of two data -/
def EqP (x y : D) (T : Bool → Prop) : Prop := EqOk x y ∧ T (decide (x = y))
theorem eqp_int {i j : Int} {T : Bool → Prop} (h : T (decide (i = j))) : EqP (.int i) (.int j) T := ⟨.inl rfl, by
  have e : decide (D.int i = D.int j) = decide (i = j) := by simp
  rw [e]; exact h⟩
theorem eqp_str {i j : Str} {T : Bool → Prop} (h : T (decide (i = j))) : EqP (.str i) (.str j) T := ⟨.inl rfl, by
  have e : decide (D.str i = D.str j) = decide (i = j) := by simp
  rw [e]; exact h⟩
theorem eqp_tup {ds es : List D} {T : Bool → Prop} (h : Sd (EqIt ds es) (T (decide (ds = es)))) : EqP (.tup ds) (.tup es) T := ⟨.inr ⟨ds, es, .inl ⟨rfl, rfl⟩, h.s⟩, by
  have e : decide (D.tup ds = D.tup es) = decide (ds = es) := by simp
  rw [e]; exact h.r⟩
theorem eqp_lst {ds es : List D} {T : Bool → Prop} (h : Sd (EqIt ds es) (T (decide (ds = es)))) : EqP (.lst ds) (.lst es) T := ⟨.inr ⟨ds, es, .inr ⟨rfl, rfl⟩, h.s⟩, by
  have e : decide (D.lst ds = D.lst es) = decide (ds = es) := by simp
  rw [e]; exact h.r⟩
/-- two ints -/
def I2 (k : Int → Int → Prop) : D → D → Prop := fun x y => ∃ i j, x = .int i ∧ y = .int j ∧ k i j
theorem i2 {k : Int → Int → Prop} {i j : Int} (h : k i j) : I2 k (.int i) (.int j) := ⟨i, j, rfl, rfl, h⟩
/-- one int -/
def I1 (k : Int → Prop) : D → Prop := fun x => ∃ i, x = .int i ∧ k i
theorem i1 {k : Int → Prop} {i : Int} (h : k i) : I1 k (.int i) := ⟨i, rfl, h⟩
/-- a bool -/
def B1 (k : Bool → Prop) : D → Prop := fun x => ∃ i, x = .bl i ∧ k i
theorem b1 {k : Bool → Prop} {i : Bool} (h : k i) : B1 k (.bl i) := ⟨i, rfl, h⟩
theorem e_sub (h : EvE c a ρ fun x => EvE c b ρ fun y => I2 (fun i j => R (.int (i - j))) x y) : EvE c (.BinOp a .Sub b pos) ρ R :=
  e_ofx (x_op op_sub opd_I0 (h.imp fun x hx => hx.imp fun y ⟨i, j, e1, e2, r⟩ => ⟨i, j, e1, e2, _, rfl, r⟩))
def MulOk (i j : Int) : Prop := IntMulOk i j
def DivOk (j : Int) : Prop := 0 < j ∧ j.natAbs.log2 < 9000
theorem op_mulG : OpR c.X (binaryOp .Mult) (rI MulOk fun i j => .int (i * j)) := opI fun _ _ _ _ _ _ _ hc q => mul_int q hc
theorem op_fdivG : OpR c.X (binaryOp .FloorDiv) (rI (fun _ j => DivOk j) fun i j => .int (i / j)) := opI fun i j _ _ _ _ _ hc q => by
  have h1 : (0 : Int) < j := hc.1
  exact floordiv_int (by lia) (by rw [Int.fdiv_eq_ediv_of_nonneg i (by lia)]; exact q) (.inl (PyProof.noPylong_of_log2 hc.2))
theorem e_mul (h : EvE c a ρ fun x => EvE c b ρ fun y => I2 (fun i j => Sd (MulOk i j) (R (.int (i * j)))) x y) : EvE c (.BinOp a .Mult b pos) ρ R :=
  e_ofx (x_op op_mulG opd_I (h.imp fun x hx => hx.imp fun y ⟨i, j, e1, e2, ⟨hc, r⟩⟩ => ⟨i, j, e1, e2, hc, _, rfl, r⟩))
theorem e_fdiv (h : EvE c a ρ fun x => EvE c b ρ fun y => I2 (fun i j => Sd (DivOk j) (R (.int (i / j)))) x y) : EvE c (.BinOp a .FloorDiv b pos) ρ R :=
  e_ofx (x_op op_fdivG opd_I (h.imp fun x hx => hx.imp fun y ⟨i, j, e1, e2, ⟨hc, r⟩⟩ => ⟨i, j, e1, e2, hc, _, rfl, r⟩))
theorem e_mod (h : EvE c a ρ fun x => EvE c b ρ fun y => I2 (fun i j => Sd (0 < j) (R (.int (i % j)))) x y) : EvE c (.BinOp a .Mod b pos) ρ R :=
  e_ofx (x_op op_mod opd_I (h.imp fun x hx => hx.imp fun y ⟨i, j, e1, e2, ⟨hc, r⟩⟩ => ⟨i, j, e1, e2, hc, _, rfl, r⟩))
theorem e_pow (h : EvE c a ρ fun x => EvE c b ρ fun y => I2 (fun i j => Sd (CPow i j) (R (.int (i ^ j.toNat)))) x y) : EvE c (.BinOp a .Pow b pos) ρ R :=
  e_ofx (x_op op_pow opd_I (h.imp fun x hx => hx.imp fun y ⟨i, j, e1, e2, ⟨hc, r⟩⟩ => ⟨i, j, e1, e2, hc, _, rfl, r⟩))
/-- a comparison by values, a bool out -/
def CmpD (K : PySem.W.Frag) (r : R2) (p : D → D → (Bool → Prop) → Prop) : Prop :=
  ∀ (x y : D) (v u : V) (H Hf : Hp) (Q : VK) (R : Bool → Prop), Same Hf H → Rep K Hf x v → Rep K Hf y u → p x y R → (∀ b, R b → Q (.bl b) H) → r v u H Q
theorem e_cmp {op : CmpOp} {r : R2} {p : D → D → (Bool → Prop) → Prop} (ho : OpR c.X (compareOp op) r) (hd : CmpD c.X.K r p) (h : EvE c a ρ fun x => EvE c b ρ fun y => p x y fun z => R (.bl z))
    (hm : behindInMarks op b = false) : EvE c (.Compare a [op] [b] pos) ρ R := fun σ H Hf Q S q =>
  bE_of (pe_cmpR ho pbE pbE hm) (h σ H Hf _ S fun x v1 H1 Hf1 h1 r1 g1 => h1 σ H1 Hf1 _ (S.grw g1) fun y v2 H2 Hf2 h2 r2 g2 =>
    hd x y v1 v2 H2 Hf2 Q _ g2.b (Rep.mono g2.f x r1) r2 h2 fun z hz => q _ _ H2 Hf2 hz (rep_bl.mpr rfl) (g1.trans g2))
theorem t_cmp {op : CmpOp} {r : R2} {p : D → D → (Bool → Prop) → Prop} {T : Bool → Prop} (ho : OpR c.X (compareOp op) r) (hd : CmpD c.X.K r p) (h : EvE c a ρ fun x => EvE c b ρ fun y => p x y T)
    (hm : behindInMarks op b = false) : EvT c (.Compare a [op] [b] pos) ρ T := fun σ H Hf Q S q =>
  bT_of (pt_cmpR ho pbE pbE hm) (h σ H Hf _ S fun x v1 H1 Hf1 h1 r1 g1 => h1 σ H1 Hf1 _ (S.grw g1) fun y v2 H2 Hf2 h2 r2 g2 =>
    hd x y v1 v2 H2 Hf2 _ T g2.b (Rep.mono g2.f x r1) r2 h2 fun z hz => ⟨z, rfl, q _ H2 Hf2 hz (g1.trans g2)⟩)
theorem cmp_I {K : PySem.W.Frag} {f : Int → Int → Bool} : CmpD K (rI0 fun i j => .bl (f i j)) fun x y R => I2 (fun i j => R (f i j)) x y := by
  rintro x y v u H Hf Q R s rx ry ⟨i, j, rfl, rfl, hR⟩ q
  rw [rep_int] at rx ry
  exact ⟨i, j, rx, ry, q _ hR⟩
theorem scal_of {x y : D} {v u : V} {K : PySem.W.Frag} {H : Hp} (h : scalD x y = true) (rx : Rep K H x v) (ry : Rep K H y u) : scal v u = true ∧ decide (v = u) = decide (x = y) := by
  cases x <;> cases y <;> simp [scalD] at h <;> simp only [rep_int, rep_bl, rep_non, rep_str] at rx ry <;> subst rx <;> subst ry <;> simp [scal]
variable {T : Bool → Prop}
theorem t_lt (h : EvE c a ρ fun x => EvE c b ρ fun y => I2 (fun i j => T (decide (i < j))) x y) : EvT c (.Compare a [.Lt] [b] pos) ρ T := t_cmp op_lt cmp_I h (nomark b)
theorem t_gt (h : EvE c a ρ fun x => EvE c b ρ fun y => I2 (fun i j => T (decide (j < i))) x y) : EvT c (.Compare a [.Gt] [b] pos) ρ T := t_cmp op_gt cmp_I h (nomark b)
theorem t_ge (h : EvE c a ρ fun x => EvE c b ρ fun y => I2 (fun i j => T (decide (j ≤ i))) x y) : EvT c (.Compare a [.GtE] [b] pos) ρ T := t_cmp op_ge cmp_I h (nomark b)
end
end
section
variable {P : Program} {w : World} {K : PySem.W.Frag} {mg : Str → Option Value} {base : Heap} {k : Nat} {N : List Str} {sc : Scope} {bk : Bool} {c : Ctx P w K mg base k N sc bk}
variable {a b e : Expr} {es rest : List Expr} {pos : Pos} {ρ : List Sl} {R : D → Prop} {T : Bool → Prop}
def bW (X : Cx) (e : Expr) : TT := fun σ H Q => ∀ whole pins s, Inv X pins σ H s → wpAny (model X.prog X.w) X.A (isTrue e X.env whole) (TP X pins σ Q) X.xe s
theorem pbW {X : Cx} {e : Expr} : PW X e (bW X e) := fun whole pins s σ H Q I h => h whole pins s I
theorem bW_of {X : Cx} {e : Expr} {t : TT} (h : PW X e t) {σ : L2.St} {H : Hp} {Q : Bool → Hp → Prop} (q : t σ H Q) : bW X e σ H Q := fun whole pins s I => h whole pins s σ H Q I q
def EvW (c : Ctx P w K mg base k N sc bk) (e : Expr) (ρ : List Sl) (R : Bool → Prop) : Prop :=
  ∀ (σ : L2.St) (H Hf : Hp) (Q : Bool → Hp → Prop), StRep c σ H Hf ρ → (∀ b H' Hf', R b → Grw H Hf H' Hf' → Q b H') → bW c.X e σ H Q
theorem t_w (h : EvW c e ρ T) : EvT c e ρ T := fun σ H Hf Q S q pins s I => h σ H Hf Q S q _ pins s I
theorem w_and1 (h : EvT c a ρ T) : EvW c (.BoolOp .And [a] pos) ρ T := fun σ H Hf Q S q => bW_of (pw_and1 pbT) (h σ H Hf Q S q)
theorem w_or1 (h : EvT c a ρ T) : EvW c (.BoolOp .Or [a] pos) ρ T := fun σ H Hf Q S q => bW_of (pw_or1 pbT) (h σ H Hf Q S q)
theorem w_and (h : EvT c a ρ (If2 (EvW c (.BoolOp .And (b :: rest) pos) ρ T) (T false))) : EvW c (.BoolOp .And (a :: b :: rest) pos) ρ T := fun σ H Hf Q S q =>
  bW_of (pw_and pbT pbW) (h σ H Hf _ S fun x H' Hf' hx g => by
    cases x with
    | true => exact hx.t rfl σ H' Hf' Q (S.grw g) fun y H2 Hf2 hy g2 => q y H2 Hf2 hy (g.trans g2)
    | false => exact q false H' Hf' (hx.f rfl) g)
theorem w_or (h : EvT c a ρ (If2 (T true) (EvW c (.BoolOp .Or (b :: rest) pos) ρ T))) : EvW c (.BoolOp .Or (a :: b :: rest) pos) ρ T := fun σ H Hf Q S q =>
  bW_of (pw_or pbT pbW) (h σ H Hf _ S fun x H' Hf' hx g => by
    cases x with
    | false => exact hx.f rfl σ H' Hf' Q (S.grw g) fun y H2 Hf2 hy g2 => q y H2 Hf2 hy (g.trans g2)
    | true => exact q true H' Hf' (hx.t rfl) g)
theorem t_not (h : EvT c a ρ fun x => T (!x)) : EvT c (.UnaryOp .Not a pos) ρ T := fun σ H Hf Q S q =>
  bT_of (pt_not pbT) (h σ H Hf _ S fun x H' Hf' hx g => q _ H' Hf' hx g)
theorem e_one {op : BoolOp} (h : EvE c a ρ R) : EvE c (.BoolOp op [a] pos) ρ R := fun σ H Hf Q S q => bE_of (pe_one pbE) (h σ H Hf Q S q)
theorem e_and (h : EvE c a ρ (B1 (If2 (EvE c (.BoolOp .And (b :: rest) pos) ρ R) (R (.bl false))))) : EvE c (.BoolOp .And (a :: b :: rest) pos) ρ R := fun σ H Hf Q S q =>
  bE_of (pe_and pbE pbE) (h σ H Hf _ S fun x v H' Hf' ⟨k, e, h1⟩ r g => by
    subst e
    rw [rep_bl] at r
    refine ⟨k, r, ?_⟩
    cases k with
    | true => rw [if_pos rfl]; exact h1.t rfl σ H' Hf' Q (S.grw g) fun y v2 H2 Hf2 hy r2 g2 => q y v2 H2 Hf2 hy r2 (g.trans g2)
    | false => rw [if_neg Bool.false_ne_true]; exact q _ _ H' Hf' (h1.f rfl) (rep_bl.mpr rfl) g)
theorem e_not (h : EvE c a ρ (B1 fun k => R (.bl (!k)))) : EvE c (.UnaryOp .Not a pos) ρ R := fun σ H Hf Q S q =>
  bE_of (pe_not pbE) (h σ H Hf _ S fun x v H' Hf' ⟨k, e, h1⟩ r g => by
    subst e; rw [rep_bl] at r
    exact ⟨k, r, q _ _ H' Hf' h1 (rep_bl.mpr rfl) g⟩)
/-- an expression as a test: its value a bool -/
theorem t_val (h : EvE c e ρ (B1 T)) (he : ∀ (env : Env) whole, isTrue e env whole = (do let v ← whole; standAt e.pos; holding [v] (truthy v)) := by intro _ _; with_unfolding_all rfl) : EvT c e ρ T := fun σ H Hf Q S q =>
  bT_of (pt_val pbE (he _)) (h σ H Hf _ S fun x v H' Hf' ⟨k, e, h1⟩ r g => by
    subst e; rw [rep_bl] at r
    exact ⟨k, r, q k H' Hf' h1 g⟩)

/-! ## argument lists, displays -/
theorem a_nil {R : List D → Prop} (h : R []) : EvA c [] ρ R := fun σ H Hf Q S q => bA_of pa_nil (q [] [] H Hf h (reps_nil.mpr rfl) (.refl S.sb))
theorem a_cons {R : List D → Prop} (h : EvE c e ρ fun d => EvA c es ρ fun ds => R (d :: ds)) (hs : ∀ env, starEach (e :: es) env = (false, eval e env) :: starEach es env := by intro _; with_unfolding_all rfl) : EvA c (e :: es) ρ R := fun σ H Hf Q S q =>
  bA_of (pa_cons pbE pbA (hs _)) (h σ H Hf _ S fun d v H1 Hf1 h1 r1 g1 => h1 σ H1 Hf1 _ (S.grw g1) fun ds vs H2 Hf2 h2 r2 g2 => q _ _ H2 Hf2 h2 (.cons (Rep.mono g2.f d r1) r2) (g1.trans g2))
theorem e_tup {j : Nat} (h : EvA c es ρ fun ds => Sd (ds.length ≤ sizeLine) (R (.tup ds))) : EvE c (.Tuple es j pos) ρ R := fun σ H Hf Q S q =>
  bE_of (pe_tup pbA) (h σ H Hf _ S fun ds vs H' Hf' ⟨hl, hR⟩ r g => ⟨by rw [← r.length]; exact hl, fun p hp => by
    have g2 := Grw.new g.b hp (o := .tup vs)
    exact q _ _ _ _ hR (rep_tup.mpr ⟨p, vs, rfl, .inl (.inl upd_same), r.mono g2.f⟩) (g.trans g2)⟩)
theorem x_lst {R : Sl → Prop} (h : EvA c es ρ fun ds => Sd (ds.length ≤ sizeLine) (R (.ow ds))) : EvX c (.List es pos) ρ R := fun σ H Hf Q S q =>
  bE_of (pe_lst pbA) (h σ H Hf _ S fun ds vs H' Hf' ⟨hl, hR⟩ r g => ⟨by rw [← r.length]; exact hl, fun p hp => by
    have g2 := Grw.newO g.b hp (o := .lst vs)
    exact q _ _ _ _ hR ⟨p, vs, rfl, g.s.free hp, upd_same, g.b.free hp, r⟩ (g.trans g2)⟩)

/-! ## statements -/
variable {st : Stmt} {sts : List Stmt} {nx : List Sl → Prop} {p : Pt}
theorem ss_nil (h : nx ρ) : EvSs c [] ρ nx p := fun σ H Hf D S o => bSs_of pss_nil (o.nx σ H Hf ρ S h)
theorem ss_cons (h : EvS c st ρ (fun ρ' => EvSs c sts ρ' nx p) p) : EvSs c (st :: sts) ρ nx p := fun σ H Hf D S o =>
  bSs_of (pss_cons pbS pbSs) (h σ H Hf { D with nx := bSs c.X sts D } S ⟨fun σ' H' Hf' ρ' S' q => q σ' H' Hf' D S' o, o.rt, o.bk, o.ct⟩)
theorem s_ret (h : EvX c e ρ p.rt) : EvS c (.Return (some e) pos) ρ nx p := fun σ H Hf D S o =>
  bS_of (ps_ret pbE) (h σ H Hf _ S fun r v H' Hf' hr rs g => o.rt r v H' Hf' (S.bas.trans g) (rs.weak fun p hp => S.bas.s.free hp) hr)
/-- an owned thing is handed back -/
theorem s_ret_ow {x : Str} {pos2 : Pos} {i : Nat} {r : Sl} (hN : At N i x) (hi : At ρ i r) (hu : r.owned = true) (h : p.rt r)
    (hd : (x == ("__debug__" : Str)) = false := by decide) (hcd : (x == ("__classdict__" : Str)) = false := by decide) :
    EvS c (.Return (some (.Name x pos2)) pos) ρ nx p := fun σ H Hf D S o => by
  obtain ⟨v, e, rs⟩ := S.at_ i r hi.get (by rintro rfl; cases hu)
  exact bS_of (ps_ret (pe_var (X := c.X) (i := i) (by rw [c.eN]; exact hN.get) (by rw [c.esc]; rcases c.vis x hN.mem with h | h; exact .inl h; exact .inr (.inl h)) hd hcd)) ⟨v, e, o.rt r v H Hf S.bas rs h⟩
theorem s_if {A B : List Stmt} {t : Expr} (h : EvT c t ρ (If2 (EvSs c A ρ nx p) (EvSs c B ρ nx p))) : EvS c (.If t A B pos) ρ nx p := fun σ H Hf D S o =>
  bS_of (ps_if pbT pbSs pbSs) (h σ H Hf _ S fun x H' Hf' hx g => by
    cases x with
    | true => rw [if_pos rfl]; exact hx.t rfl σ H' Hf' D (S.grw g) o
    | false => rw [if_neg Bool.false_ne_true]; exact hx.f rfl σ H' Hf' D (S.grw g) o)
theorem s_expr (h : EvE c e ρ fun _ => nx ρ) (hs : ∀ env, swapsWith e none pos.line env = pure false := by intro _; with_unfolding_all rfl) : EvS c (.Expr e pos) ρ nx p := fun σ H Hf D S o =>
  bS_of (ps_expr pbE (hs _)) (h σ H Hf _ S fun d v H' Hf' hx r g => o.nx σ H' Hf' ρ (S.grw g) hx)
/-- what is wanted of the slots behind a store -/
def Nx (ρ : List Sl) (i : Nat) (R : List Sl → Prop) (r : Sl) : Prop := ∃ ρ', SSet ρ i r ρ' ∧ R ρ'
theorem nxt {ρ ρ' : List Sl} {i : Nat} {R : List Sl → Prop} {r : Sl} (h : SSet ρ i r ρ') (hr : R ρ') : Nx ρ i R r := ⟨ρ', h, hr⟩
theorem s_set {x : Str} {pos2 : Pos} {i : Nat} (hN : At N i x) (h : EvX c e ρ (Nx ρ i nx))
    (hs : ∀ env, swapsWith e (some (.Name x pos2)) pos.line env = pure false := by intro _; with_unfolding_all rfl) (hf : bk = false ∨ sc.names.lookup x = some .local := by first | exact .inl rfl | exact .inr (by with_unfolding_all rfl)) : EvS c (.Assign [.Name x pos2] e pos) ρ nx p := fun σ H Hf D S o =>
  bS_of (ps_set (X := c.X) (i := i) (by rw [c.eN]; exact c.nd) (by rw [c.eN]; exact hN.get) (by rw [c.esc]; exact c.vis x hN.mem) pbE (hs _) (c.fn x hf)) (h σ H Hf _ S fun r v H' Hf' ⟨ρ', hs, hx⟩ rs g => o.nx _ H' Hf' _ (hs.eq ▸ S.set g rs) hx)

/-! ## targets -/
theorem g_name {x : Str} {d : D} {R : List Sl → Prop} {i : Nat} (hN : At N i x) (h : Nx ρ i R (.va d)) (hf : bk = false ∨ sc.names.lookup x = some .local := by first | exact .inl rfl | exact .inr (by with_unfolding_all rfl)) : EvG c (.Name x pos) d ρ R := fun σ H Hf v Q S r q => by
  obtain ⟨ρ', hs, h⟩ := h
  exact bG_of (pg_name (X := c.X) (i := i) (by rw [c.eN]; exact c.nd) (by rw [c.eN]; exact hN.get) (by rw [c.esc]; exact c.vis x hN.mem) (c.fn x hf)) (q _ H Hf _ (hs.eq ▸ S.set (.refl S.sb) (r := .va d) r) (.refl S.sb) h)
/-- several targets at once -/
def EvGs (c : Ctx P w K mg base k N sc bk) (ts : List Expr) (ds : List D) (ρ : List Sl) (R : List Sl → Prop) : Prop :=
  ∀ (σ : L2.St) (H Hf : Hp) (vs : List V) (Q : L2.St → Hp → Prop), StRep c σ H Hf ρ → Reps c.X.K Hf ds vs → (∀ σ' H' Hf' ρ', StRep c σ' H' Hf' ρ' → Grw H Hf H' Hf' → R ρ' → Q σ' H') →
    ∀ pins s us, Inv c.X pins σ H s → Vals vs us → wpAny (model c.X.prog c.X.w) c.X.A (assignInOrder ((assignEach ts c.X.env).map (·.2)) us) (fun _ s' => ∃ σ' H', Inv c.X pins σ' H' s' ∧ Q σ' H') c.X.xe s
theorem gs_nil {R : List Sl → Prop} (h : R ρ) : EvGs c [] [] ρ R := fun σ H Hf vs Q S r q pins s us I rv => by
  rw [reps_nil] at r; subst r
  exact pgs_nil pins s σ H [] us Q I rv ⟨rfl, q σ H Hf ρ S (.refl S.sb) h⟩
/-- names alone as targets keep what is frozen -/
theorem gs_name {x : Str} {d : D} {ds : List D} {ts : List Expr} {R : List Sl → Prop} {i : Nat} (hN : At N i x) (h : Nx ρ i (fun ρ' => EvGs c ts ds ρ' R) (.va d))
    (hs : ∀ env, (assignEach (.Name x pos :: ts) env).map (·.2) = assign (.Name x pos) env :: (assignEach ts env).map (·.2) := by intro _; with_unfolding_all rfl) (hf : bk = false ∨ sc.names.lookup x = some .local := by first | exact .inl rfl | exact .inr (by with_unfolding_all rfl)) : EvGs c (.Name x pos :: ts) (d :: ds) ρ R := fun σ H Hf vs Q S r q pins s us I rv => by
  obtain ⟨ρ', hs', h⟩ := h
  rw [reps_cons] at r
  obtain ⟨v, vr, rfl, r1, r2⟩ := r
  have hp : PGs c.X ts (fun vs' σ' H' Q' => ∀ pins s us, Inv c.X pins σ' H' s → Vals vs' us → wpAny (model c.X.prog c.X.w) c.X.A (assignInOrder ((assignEach ts c.X.env).map (·.2)) us) (fun _ s' => ∃ σ'' H'', Inv c.X pins σ'' H'' s' ∧ Q' σ'' H'') c.X.xe s) :=
    fun pins s σ H vs us Q I r h => h pins s us I r
  refine pgs_cons (pg_name (X := c.X) (i := i) (by rw [c.eN]; exact c.nd) (by rw [c.eN]; exact hN.get) (by rw [c.esc]; exact c.vis x hN.mem) (c.fn x hf)) hp (hs _) pins s σ H _ us Q I rv ⟨v, vr, rfl, ?_⟩
  have S1 := S.set (i := i) (.refl S.sb) (r := .va d) (v := v) r1
  rw [← hs'.eq] at S1
  exact h _ H Hf vr Q S1 r2 q
theorem g_tup {ts : List Expr} {j : Nat} {d : D} {ds : List D} {R : List Sl → Prop} (he : d = .tup ds) (hl : ds.length = ts.length) (h : EvGs c ts ds ρ R)
    (hn : ∀ env, (assignEach ts env).length = ts.length := by intro _; with_unfolding_all rfl) (hst : ∀ env, (assignEach ts env).findIdx? (·.1) = none := by intro _; with_unfolding_all rfl) : EvG c (.Tuple ts j pos) d ρ R := fun σ H Hf v Q S r q => by
  subst he
  rw [rep_tup] at r
  obtain ⟨a, xs, rfl, h1, h2⟩ := r
  have hp : PGs c.X ts (fun vs' σ' H' Q' => ∀ pins s us, Inv c.X pins σ' H' s → Vals vs' us → wpAny (model c.X.prog c.X.w) c.X.A (assignInOrder ((assignEach ts c.X.env).map (·.2)) us) (fun _ s' => ∃ σ'' H'', Inv c.X pins σ'' H'' s' ∧ Q' σ'' H'') c.X.xe s) :=
    fun pins s σ H vs us Q I r h => h pins s us I r
  refine bG_of (pg_tup (X := c.X) (k := j) (n := ts.length) c.calm hp (hn _) (hst _)) ⟨a, xs, rfl, same_tup S.sb h1, by rw [← h2.length, hl], ?_⟩
  exact h σ H Hf xs Q S h2 fun σ' H' Hf' ρ' S' g' hR => q σ' H' Hf' ρ' S' g' hR

/-! ## while -/
end

theorem sz_small {n : Nat} (h : n ≤ 1000) : n ≤ sizeLine := Nat.le_of_lt (small1000 h)
theorem dv_small {j : Int} (h : 0 < j) (h2 : j.natAbs.log2 < 9000) : DivOk j := ⟨h, h2⟩
/-! ## contracts -/
inductive Res where
  | ok (r : Sl)
  | ex (C : Addr)
/-- what a def tells of data handed in; all that stood stays -/
abbrev Fn := List D → Res → Prop
def spF (K : PySem.W.Frag) (F : Fn) : Sp := fun vs H Q E => ∃ Hf ds r, Same Hf H ∧ Reps K Hf ds vs ∧ F ds r ∧ match r with
  | .ok sl => ∀ v H' Hf', Grw H Hf H' Hf' → RepS K (fun p => H p = none) H' Hf' sl v → Q v H'
  | .ex C => ∀ a H', Same H H' → E (.ref C) (some a) H'
structure Cal (P : Program) (w : World) (K : PySem.W.Frag) (mg : Str → Option Value) (base : Heap) (k : Nat) (x : Str) (F : Fn) : Prop where
  ex : ∃ f fd ps, mg x = some (.ref f) ∧ PySem.W.keepIn K (.ref f) = true ∧ Binds K fd ps [] ∧ FnOk P w K mg base (CXE P w) k f fd ps (spF K F)

section
variable {P : Program} {w : World} {K : PySem.W.Frag} {mg : Str → Option Value} {base : Heap} {k : Nat} {N : List Str} {sc : Scope} {bk : Bool} {c : Ctx P w K mg base k N sc bk}
variable {a b e : Expr} {es rest : List Expr} {pos : Pos} {ρ : List Sl} {R : D → Prop} {T : Bool → Prop}
def RsP (c : Ctx P w K mg base k N sc bk) (ρ : List Sl) (R : Sl → Prop) : Res → Prop
  | .ok sl => R sl
  | .ex C => c.RX C ρ
theorem run_cal {x : Str} {F : Fn} {j : Nat} (h : Cal P w K mg base j x F) (hj : j ≤ k) : ∃ f, mg x = some (.ref f) ∧ PySem.W.keepIn K (.ref f) = true ∧
    ∀ (pins : List (Addr × Obj)) (σ : L2.St) (H Hf : Hp) (s : Shared) (us : List Value) (vs : List V) (ds : List D) (r : Res) (Q : VK), Inv c.X pins σ H s → StRep c σ H Hf ρ → Vals vs us → Reps c.X.K Hf ds vs → F ds r →
      (∀ sl v H' Hf', r = .ok sl → RepS c.X.K (fun p => H p = none) H' Hf' sl v → Grw H Hf H' Hf' → Q v H') → (∀ C, r = .ex C → c.RX C ρ) → wpAny (model c.X.prog c.X.w) c.X.A (call (.ref f) us) (EP c.X pins σ Q) c.X.xe s := by
  obtain ⟨f, fd, ps, hm, hk, hb, hF⟩ := h.ex
  refine ⟨f, hm, hk, fun pins σ H Hf s us vs ds r Q I S rv rs hr q hx => ?_⟩
  have hF' : FnOk c.X.prog c.X.w c.X.K c.X.mg c.X.base (CXE c.X.prog c.X.w) k f fd ps (spF c.X.K F) := by rw [c.eP, c.ew, c.eK, c.emg, c.eb]; exact hF.mono hj
  have hsp : spF c.X.K F vs H Q (fun cv ao H' => ∃ C, r = .ex C ∧ cv = .ref C ∧ Same H H') := by
    refine ⟨Hf, ds, r, S.bas.b, rs, hr, ?_⟩
    cases r with
    | ok sl => exact fun v H' Hf' g rs2 => q sl v H' Hf' rfl rs2 g
    | ex C => exact fun a H' s2 => ⟨C, rfl, rfl, s2⟩
  have hl : us.length = ps.length := by rw [← rv.length]; exact hF'.len _ _ _ _ hsp
  have hb' : Binds c.X.K fd ps [] := by rw [c.eK]; exact hb
  have hb2 := hb' s us I.kIn (by simpa using hl)
  rw [List.append_nil] at hb2
  refine wpAny_call (codeAny_mono (hF'.run c.X.A c.X.stack s H ⟨us, []⟩ us vs Q _ c.room I.env0 hb2 rv hsp) fun r' s' hq => ?_)
  cases r' with
  | error e =>
    obtain ⟨a, C, H', rfl, hE, C', e1, e2, sm⟩ := hq
    cases e2
    exact c.exc C a pins σ H Hf ρ s H' s' I S (hx C e1) hE sm
  | ok fl =>
    cases fl with
    | ret u => exact I.after hq
    | next => exact False.elim hq
    | brk => exact False.elim hq
    | cont => exact False.elim hq
theorem x_call {x : Str} {p : Pos} {F : Fn} {j : Nat} {R : Sl → Prop} (h : Cal P w K mg base j x F) (hj : j ≤ k)
    (ha : EvA c (e :: es) ρ fun ds => ∃ r, F ds r ∧ RsP c ρ R r)
    (hg : sc.names.lookup x = some .globalImplicit := by with_unfolding_all rfl) (hdb : (x == ("__debug__" : Str)) = false := by decide) (he : ∀ env, starEach (e :: es) env = (false, eval e env) :: starEach es env := by intro _; with_unfolding_all rfl)
    (hpl : ∀ env, (backTo pos (starEach es env)).any (·.1) = false := by intro _; with_unfolding_all rfl) : EvX c (.Call (.Name x p) (e :: es) [] pos) ρ R := fun σ H Hf Q S q pins s I => by
  obtain ⟨f, hm, hk, run⟩ := run_cal (c := c) (ρ := ρ) h hj
  refine wpAny_Call_Name_kw (ld_glob I (by unfold Gl Env.kindOf; rw [c.esc]; exact hg) (by rw [c.emg]; exact hm) ?_ hdb)
  refine PySem.W.callWith_K (h₀ := c.X.base) I.ok.mod.kin (by rw [c.eK]; exact hk) (thn (ha σ H Hf (fun vs H1 => ∃ Hf1 ds, (∃ r, F ds r ∧ RsP c ρ R r) ∧ Reps c.X.K Hf1 ds vs ∧ Grw H Hf H1 Hf1) S (fun ds vs H1 Hf1 hr rs g => ⟨Hf1, ds, hr, rs, g⟩) pos pins s I) fun us s1 hh => z2 hh fun vs H1 hh => w3 hh fun I1 rv hh => z2 hh fun Hf1 ds hh => w3 hh fun hh rs g => hh.elim fun r hh => w2 hh fun hF hR => ⟨I1.kIn, ?_⟩) (he _) (hpl _)
  refine run pins σ H1 Hf1 s1 us vs ds r Q I1 (S.grw g) rv rs hF (fun sl v H' Hf' e1 rs2 g2 => ?_) fun C e1 => ?_
  · subst e1
    exact q sl v H' Hf' hR (rs2.weak fun p hp => g.s.free hp) (g.trans g2)
  · subst e1
    exact hR
theorem x_call0 {x : Str} {p : Pos} {F : Fn} {j : Nat} {R : Sl → Prop} (h : Cal P w K mg base j x F) (hj : j ≤ k) (ha : ∃ r, F [] r ∧ RsP c ρ R r)
    (hg : sc.names.lookup x = some .globalImplicit := by with_unfolding_all rfl) (hdb : (x == ("__debug__" : Str)) = false := by decide) : EvX c (.Call (.Name x p) [] [] pos) ρ R := fun σ H Hf Q S q pins s I => by
  obtain ⟨f, hm, hk, run⟩ := run_cal (c := c) (ρ := ρ) h hj
  refine wpAny_Call_Name_kw (ld_glob I (by unfold Gl Env.kindOf; rw [c.esc]; exact hg) (by rw [c.emg]; exact hm) ?_ hdb)
  obtain ⟨r, hF, hR⟩ := ha
  refine PySem.W.callWith_K0 I.kIn (by rw [c.eK]; exact hk) ?_
  refine run pins σ H Hf s [] [] [] r Q I S .nil (reps_nil.mpr rfl) hF (fun sl v H' Hf' e1 rs2 g2 => ?_) fun C e1 => ?_
  · subst e1
    exact q sl v H' Hf' hR rs2 g2
  · subst e1
    exact hR
/-- a def that tells a frozen value f of its arguments -/
theorem e_call {x : Str} {p : Pos} {F : Fn} {j : Nat} (h : Cal P w K mg base j x F) (hj : j ≤ k)
    (ha : EvA c (e :: es) ρ fun ds => ∃ r, F ds r ∧ RsP c ρ (FzP R) r)
    (hg : sc.names.lookup x = some .globalImplicit := by with_unfolding_all rfl) (hdb : (x == ("__debug__" : Str)) = false := by decide) (he : ∀ env, starEach (e :: es) env = (false, eval e env) :: starEach es env := by intro _; with_unfolding_all rfl)
    (hpl : ∀ env, (backTo pos (starEach es env)).any (·.1) = false := by intro _; with_unfolding_all rfl) : EvE c (.Call (.Name x p) (e :: es) [] pos) ρ R := e_x (x_call h hj ha hg hdb he hpl)

/-! ## the slots at the entry -/
def start0 (N : List Str) (ds : List D) : List Sl := ds.map .va ++ List.replicate (N.length - ds.length) .un
theorem st_start {K : PySem.W.Frag} {H₀ Hf₀ : Hp} {N : List Str} {vs : List V} {ds : List D} (r : Reps K Hf₀ ds vs) (sb : Same Hf₀ H₀) : StR K H₀ Hf₀ (L2.start N vs) H₀ Hf₀ (start0 N ds) := by
  have hl := r.length
  refine ⟨.refl sb, by simp [L2.start, start0, hl], fun i r' h hu => ?_, fun i j r1 r2 p hne h1 h2 o1 o2 => ?_⟩
  · by_cases q : i < ds.length
    · have e : (start0 N ds)[i]? = some (.va ds[i]) := by
        unfold start0
        rw [List.getElem?_append_left (by simpa using q)]; simp [q]
      rw [e] at h; cases h
      obtain ⟨x, e2, rx⟩ := r.get (i := i) (d := ds[i]) (by simp)
      refine ⟨x, ?_, rx⟩
      unfold L2.start
      rw [List.getElem?_append_left (by simp; lia)]
      simp [e2]
    · unfold start0 at h
      rw [List.getElem?_append_right (by simp; lia)] at h
      have := List.mem_of_getElem? h
      exact absurd (List.eq_of_mem_replicate this) hu
  · exfalso
    unfold start0 at h1
    by_cases q : i < (ds.map Sl.va).length
    · rw [List.getElem?_append_left q] at h1
      rw [List.getElem?_map] at h1
      cases z : ds[i]? with
      | none => rw [z] at h1; cases h1
      | some d => rw [z] at h1; cases h1; cases o1
    · rw [List.getElem?_append_right (by lia)] at h1
      have e3 := List.eq_of_mem_replicate (List.mem_of_getElem? h1)
      subst e3; cases o1

abbrev FS (N P : List Str) (st : Stmt) : Prop := (defScope st).kind = .function ∧ (defScope st).isCoroutine = false ∧ (defScope st).isGenerator = false ∧ N.Nodup ∧ N.take P.length = P ∧ (∀ x ∈ P, (defScope st).names.lookup x = some .local ∨ (defScope st).names.lookup x = some .cell) ∧ (∀ y ∈ (defScope st).names, y.2 ≠ .free) ∧ ∀ x ∈ N, (defScope st).names.lookup x = some .local ∨ (defScope st).names.lookup x = some .cell
theorem fs_ok {N P : List Str} {st : Stmt} (h : FS N P st) : FnScope N P (defScope st) ∧ ∀ x ∈ N, Loc (defScope st) x := ⟨⟨h.1, h.2.1, h.2.2.1, h.2.2.2.1, h.2.2.2.2.1, h.2.2.2.2.2.1, h.2.2.2.2.2.2.1⟩, h.2.2.2.2.2.2.2⟩
/-- THE RULE for a def that raises nothing -/
theorem fn_q {x qual : Str} {st : Stmt} {f : Addr} {fd : FuncData} {ps : List Str} {k : Nat} {F : Fn} (Fu : Fun K x qual st f fd) (SV : FS N ps st) (ar : ∀ ds r, F ds r → ds.length = ps.length)
    (hok : ∀ ds r, F ds r → ∃ sl, r = .ok sl)
    (body : ∀ (c : Ctx P w K mg base k N (defScope st) false), c.X.xe = (fun _ _ => False) → ∀ ds sl, F ds (.ok sl) → EvSs c (defBody st) (start0 N ds) (fun _ => sl = .va .non) { rt := fun r => r = sl }) :
    FnOk P w K mg base (CXE P w) (k + 1) f fd ps (spF K F) := by
  obtain ⟨Sc, Vi⟩ := fs_ok SV
  obtain ⟨oc, od, kV, doc, pm, an, cdv, ct, osl, rfl, lk, hcd⟩ := Fu.ex
  refine fn_of lk hcd Sc (fun vs H Q E ⟨Hf, ds, r, _, rs, hF, _⟩ => by rw [← rs.length]; exact ar _ _ hF) fun A outer s H vs Q E hr ⟨Hf, ds, r, sb, rs, hF, hq⟩ => ?_
  obtain ⟨sl, rfl⟩ := hok _ _ hF
  let X : Cx := (cxOf (CXE P w) P w K mg base N qual (defScope st) f cdv A outer s H E).nox
  let c : Ctx P w K mg base k N (defScope st) false :=
    { X := X, eP := rfl, ew := rfl, eK := rfl, emg := rfl, eb := rfl, eN := rfl, esc := rfl, calm := rfl, top := fun _ => ⟨rfl, rfl, rfl⟩, cb := fun _ _ _ _ _ I x c h => I.ok.cab x c rfl h, fn := fun _ _ => .inl rfl, B := H, room := hr, nd := Sc.nd, vis := Vi, Hf := Hf, RX := fun _ _ => False,
      exc := fun _ _ _ _ _ _ _ _ _ _ _ _ h _ _ => h.elim, RM := fun _ _ => False, mde := fun _ _ _ _ _ _ _ _ _ _ _ _ h _ => h.elim }
  refine ⟨_, PSs.nox (t := bSs X (defBody st)) (pbSs (X := X)), ?_⟩
  refine body c rfl ds sl hF (L2.start N vs) H Hf _ (st_start rs sb) ⟨fun σ H' Hf' ρ S e => ?_, fun r v H' Hf' g rv e => ?_, fun _ _ _ _ _ h => h.elim, fun _ _ _ _ _ h => h.elim⟩
  · subst e
    exact hq .non H' Hf' S.bas (show Rep K Hf' .non .non from rep_non.mpr rfl)
  · have e : r = sl := e
    subst e
    exact hq v H' Hf' g rv

/-! ## built-in functions -/
def CalD (K : PySem.W.Frag) (r : List V → Hp → VK → Prop) (p : List D → (Sl → Prop) → Prop) : Prop :=
  ∀ (ds : List D) (vs : List V) (H Hf : Hp) (Q : VK) (R : Sl → Prop), Same Hf H → Reps K Hf ds vs → p ds R → (∀ z v' H' Hf', R z → RepS K (fun p => H p = none) H' Hf' z v' → Grw H Hf H' Hf' → Q v' H') → r vs H Q
theorem x_bty {x : Str} {id : String} {p : Pos} {r : List V → Hp → VK → Prop} {q : List D → (Sl → Prop) → Prop} {R : Sl → Prop} (hc : CallR c.X (.type id) r) (hd : CalD c.X.K r q) (hm : mg x = none) (hv : bootBuiltins x = some (.type id))
    (ha : EvA c (e :: es) ρ fun ds => q ds R) (hg : sc.names.lookup x = some .globalImplicit := by with_unfolding_all rfl) (hn : x ≠ "__name__" := by decide) (hdb : (x == ("__debug__" : Str)) = false := by decide)
    (he : ∀ env, starEach (e :: es) env = (false, eval e env) :: starEach es env := by intro _; with_unfolding_all rfl) (hpl : ∀ env, (backTo pos (starEach es env)).any (·.1) = false := by intro _; with_unfolding_all rfl) : EvX c (.Call (.Name x p) (e :: es) [] pos) ρ R := fun σ H Hf Q S qq =>
  bE_of (pe_callTy hc (by unfold Gl Env.kindOf; rw [c.esc]; exact hg) (by rw [c.emg]; exact hm) hv pbA hn hdb (he _) (hpl _))
    (ha σ H Hf _ S fun ds vs H1 Hf1 h1 rs g => hd ds vs H1 Hf1 Q R g.b rs h1 fun z v' H' Hf' hz rz g2 => qq z v' H' Hf' hz (rz.weak fun p hp => g.s.free hp) (g.trans g2))
theorem reps1 {K : PySem.W.Frag} {H : Hp} {d : D} {vs : List V} (h : Reps K H [d] vs) : ∃ v, vs = [v] ∧ Rep K H d v := by
  rw [reps_cons] at h
  obtain ⟨x, r, rfl, h1, h2⟩ := h
  rw [reps_nil] at h2; subst h2
  exact ⟨x, rfl, h1⟩
theorem reps2 {K : PySem.W.Frag} {H : Hp} {d d' : D} {vs : List V} (h : Reps K H [d, d'] vs) : ∃ v v', vs = [v, v'] ∧ Rep K H d v ∧ Rep K H d' v' := by
  rw [reps_cons] at h
  obtain ⟨x, r, rfl, h1, h2⟩ := h
  obtain ⟨y, rfl, h3⟩ := reps1 h2
  exact ⟨x, y, rfl, h1, h3⟩
/-- .. a frozen value out -/
def CalE (K : PySem.W.Frag) (r : List V → Hp → VK → Prop) (p : List D → (D → Prop) → Prop) : Prop :=
  ∀ (ds : List D) (vs : List V) (H Hf : Hp) (Q : VK) (R : D → Prop), Same Hf H → Reps K Hf ds vs → p ds R → (∀ d v H' Hf', R d → Rep K Hf' d v → Grw H Hf H' Hf' → Q v H') → r vs H Q
theorem e_blt {x : Str} {id : String} {p : Pos} {r : List V → Hp → VK → Prop} {q : List D → (D → Prop) → Prop} (hc : CallR c.X (.builtin id) r) (hd : CalE c.X.K r q) (hm : mg x = none) (hv : bootBuiltins x = some (.builtin id))
    (ha : EvA c (e :: es) ρ fun ds => q ds R) (hg : sc.names.lookup x = some .globalImplicit) (hn : x ≠ "__name__") (hdb : (x == ("__debug__" : Str)) = false)
    (he : ∀ env, starEach (e :: es) env = (false, eval e env) :: starEach es env) (hpl : ∀ env, (backTo pos (starEach es env)).any (·.1) = false) : EvE c (.Call (.Name x p) (e :: es) [] pos) ρ R := fun σ H Hf Q S qq =>
  bE_of (pe_callB hc (by unfold Gl Env.kindOf; rw [c.esc]; exact hg) (by rw [c.emg]; exact hm) hv pbA hn hdb (he _) (hpl _))
    (ha σ H Hf _ S fun ds vs H1 Hf1 h1 rs g => hd ds vs H1 Hf1 Q R g.b rs h1 fun z v' H' Hf' hz rz g2 => qq z v' H' Hf' hz rz (g.trans g2))
theorem e_bty {x : Str} {id : String} {p : Pos} {r : List V → Hp → VK → Prop} {q : List D → (D → Prop) → Prop} (hc : CallR c.X (.type id) r) (hd : CalE c.X.K r q) (hm : mg x = none) (hv : bootBuiltins x = some (.type id))
    (ha : EvA c (e :: es) ρ fun ds => q ds R) (hg : sc.names.lookup x = some .globalImplicit) (hn : x ≠ "__name__") (hdb : (x == ("__debug__" : Str)) = false)
    (he : ∀ env, starEach (e :: es) env = (false, eval e env) :: starEach es env) (hpl : ∀ env, (backTo pos (starEach es env)).any (·.1) = false) : EvE c (.Call (.Name x p) (e :: es) [] pos) ρ R := fun σ H Hf Q S qq =>
  bE_of (pe_callTy hc (by unfold Gl Env.kindOf; rw [c.esc]; exact hg) (by rw [c.emg]; exact hm) hv pbA hn hdb (he _) (hpl _))
    (ha σ H Hf _ S fun ds vs H1 Hf1 h1 rs g => hd ds vs H1 Hf1 Q R g.b rs h1 fun z v' H' Hf' hz rz g2 => qq z v' H' Hf' hz rz (g.trans g2))
/-- one int in, a plain value out -/
theorem calE_1 {K : PySem.W.Frag} {f : Int → D} {g : Int → V} (hf : ∀ i H, Rep K H (f i) (g i)) : CalE K (fun xs H Q => ∃ i, xs = [V.int i] ∧ Q (g i) H) (fun ds R => ∃ i, ds = [.int i] ∧ R (f i)) := by
  rintro ds vs H Hf Q R s rs ⟨i, rfl, hR⟩ q
  obtain ⟨v, rfl, rv⟩ := reps1 rs
  rw [rep_int] at rv; subst rv
  exact ⟨i, rfl, q _ _ H Hf hR (hf i Hf) (.refl s)⟩
section
variable {p : Pos}
theorem e_abs (hm : mg (Str.ofString "abs") = none) (h : EvE c e ρ (I1 fun i => R (.int (if i < 0 then -i else i)))) (hg : sc.names.lookup (Str.ofString "abs") = some .globalImplicit := by with_unfolding_all rfl)
    (he : ∀ env, starEach [e] env = (false, eval e env) :: starEach [] env := by intro _; with_unfolding_all rfl) : EvE c (.Call (.Name (Str.ofString "abs") p) [e] [] pos) ρ R :=
  e_blt call_abs (calE_1 (f := fun i => .int (if i < 0 then -i else i)) fun i H => rep_int.mpr rfl) hm PyProof.Rows.boot_abs (a_cons (h.imp fun d ⟨i, e, r⟩ => a_nil ⟨i, by rw [e], r⟩) he) hg (by decide) (by decide) he (by intro _; rfl)
end
end
end EV

namespace EV
open PySem
theorem runs_det {M : Model} {Γ : PySem.Ctx} {p : Pos} {t : Sem Fin} {fs : List Frame} {s s1 : Shared} {e1 : End} (h : Runs M Γ p t fs s e1 s1) : ∀ {e2 s2}, Runs M Γ p t fs s e2 s2 → e1 = e2 ∧ s1 = s2 := by
  induction h with
  | done => intro e2 s2 h2; cases h2; exact ⟨rfl, rfl⟩
  | raise => intro e2 s2 h2; cases h2; exact ⟨rfl, rfl⟩
  | call _ _ i1 i2 =>
    intro e2 s2 h2
    cases h2 with
    | call a b => obtain ⟨x, rfl⟩ := i1 a; cases x; exact i2 b
    | callSusp a => cases (i1 a).1
  | callSusp _ i1 =>
    intro e2 s2 h2
    cases h2 with
    | call a b => cases (i1 a).1
    | callSusp a => obtain ⟨x, rfl⟩ := i1 a; cases x; exact ⟨rfl, rfl⟩
  | load e _ i1 =>
    intro e2 s2 h2
    cases h2 with
    | load e' a => rw [e] at e'; cases e'; exact i1 a
  | genState e _ i1 =>
    intro e2 s2 h2
    cases h2 with
    | genState e' a => rw [e] at e'; cases e'; exact i1 a
  | yield => intro e2 s2 h2; cases h2; exact ⟨rfl, rfl⟩
  | resumeFresh e _ _ _ i1 i2 =>
    intro e2 s2 h2
    cases h2 with
    | resumeFresh e' a _ b => rw [e] at e'; cases e'; obtain ⟨rfl, rfl⟩ := i1 a; exact i2 b
    | _ => simp_all
  | resumeSuspended e _ _ _ i1 i2 =>
    intro e2 s2 h2
    cases h2 with
    | resumeSuspended e' a _ b => rw [e] at e'; cases e'; obtain ⟨rfl, rfl⟩ := i1 a; exact i2 b
    | _ => simp_all
  | resumeJustStarted e n _ i1 =>
    intro e2 s2 h2
    cases h2 <;> first | (rename_i a; exact i1 a) | simp_all
  | resumeThrowFresh e _ i1 =>
    intro e2 s2 h2
    cases h2 <;> first | (rename_i a; exact i1 a) | simp_all
  | resumeRunning e _ i1 =>
    intro e2 s2 h2
    cases h2 <;> first | (rename_i a; exact i1 a) | simp_all
  | resumeFinished e _ i1 =>
    intro e2 s2 h2
    cases h2 <;> first | (rename_i a; exact i1 a) | simp_all
  | segRet _ _ i1 i2 =>
    intro e2 s2 h2
    cases h2 with
    | segRet a b => obtain ⟨x, rfl⟩ := i1 a; cases x; exact i2 b
    | segSuspOut _ a => cases (i1 a).1
    | segSuspGen _ a => cases (i1 a).1
    | _ => simp_all
  | segGen _ _ i1 i2 =>
    intro e2 s2 h2
    cases h2 with
    | segGen a b => obtain ⟨x, rfl⟩ := i1 a; cases x; exact i2 b
    | segSuspOut _ a => cases (i1 a).1
    | segSuspGen _ a => cases (i1 a).1
    | _ => simp_all
  | segSuspOut e _ i1 =>
    intro e2 s2 h2
    cases h2 with
    | segRet a b => cases (i1 a).1
    | segGen a b => cases (i1 a).1
    | segSuspOut _ a => obtain ⟨x, rfl⟩ := i1 a; cases x; exact ⟨rfl, rfl⟩
    | segSuspGen e' a => rw [e] at e'; cases e'
  | segSuspGen e _ _ _ i1 i2 =>
    intro e2 s2 h2
    cases h2 with
    | segRet a b => cases (i1 a).1
    | segGen a b => cases (i1 a).1
    | segSuspOut e' a => rw [e] at e'; cases e'
    | segSuspGen e' a _ b => rw [e] at e'; cases e'; obtain ⟨x, rfl⟩ := i1 a; cases x; exact i2 b
  | _ => intro e2 s2 h2; cases h2; first | (rename_i i1 a; exact i1 a) | (rename_i i1 _ a; exact i1 a)
theorem wp_both {α : Type} {M : Model} {Γ : PySem.Ctx} {Q1 Q2 : α → Pos → Shared → Prop} {E1 E2 : Value → Pos → Shared → Prop} (m : Sem α) : ∀ {p : Pos} {s : Shared}, Sem.wp M Γ m Q1 E1 p s → Sem.wp M Γ m Q2 E2 p s →
    Sem.wp M Γ m (fun a p s => Q1 a p s ∧ Q2 a p s) (fun a p s => E1 a p s ∧ E2 a p s) p s := by
  induction m with
  | load a part k ih =>
    intro p s h1 h2
    unfold Sem.wp at h1 h2 ⊢
    obtain ⟨o, e1, r1⟩ := h1
    obtain ⟨o', e2, r2⟩ := h2
    rw [e1] at e2; cases e2
    exact ⟨o, e1, ih o r1 r2⟩
  | genState g k ih =>
    intro p s h1 h2
    unfold Sem.wp at h1 h2 ⊢
    obtain ⟨o, e1, r1⟩ := h1
    obtain ⟨o', e2, r2⟩ := h2
    rw [e1] at e2; cases e2
    exact ⟨o, e1, ih _ r1 r2⟩
  | update a part f k ih =>
    intro p s h1 h2
    unfold Sem.wp at h1 h2 ⊢
    exact ⟨h1.1, ih _ h1.2 h2.2⟩
  | choose src n k ih =>
    intro p s h1 h2
    unfold Sem.wp at h1 h2 ⊢
    exact ⟨h1.1, ih _ h1.2 h2.2⟩
  | call c h g l k ih =>
    intro p s h1 h2
    unfold Sem.wp at h1 h2 ⊢
    obtain ⟨r, s1, a1, b1⟩ := h1
    obtain ⟨r', s1', a2, b2⟩ := h2
    obtain ⟨x, rfl⟩ := runs_det a1 a2
    cases x
    exact ⟨r, s1, a1, ih _ b1 b2⟩
  | resume g r l k ih =>
    intro p s h1 h2
    unfold Sem.wp at h1 h2 ⊢
    obtain ⟨r1, s1, a1, b1⟩ := h1
    obtain ⟨r2, s2, a2, b2⟩ := h2
    have e : r1 = r2 ∧ s1 = s2 := by
      unfold Wakes at a1 a2
      split at a1 <;> rename_i e0 <;> rw [e0] at a2 <;> dsimp only at a2
      · split at a1
        · obtain ⟨x1, y1, z1, _, rfl, rfl⟩ := a1
          obtain ⟨x2, y2, z2, _, rfl, rfl⟩ := a2
          obtain ⟨rfl, rfl⟩ := runs_det z1 z2
          exact ⟨rfl, rfl⟩
        · split at a2 <;> first | exact ⟨a1.1.trans a2.1.symm, a1.2.trans a2.2.symm⟩ | simp_all
        · exact ⟨a1.1.trans a2.1.symm, a1.2.trans a2.2.symm⟩
      · obtain ⟨x1, y1, z1, _, rfl, rfl⟩ := a1
        obtain ⟨x2, y2, z2, _, rfl, rfl⟩ := a2
        obtain ⟨rfl, rfl⟩ := runs_det z1 z2
        exact ⟨rfl, rfl⟩
      · exact ⟨a1.1.trans a2.1.symm, a1.2.trans a2.2.symm⟩
      · exact ⟨a1.1.trans a2.1.symm, a1.2.trans a2.2.symm⟩
    obtain ⟨rfl, rfl⟩ := e
    exact ⟨r1, s1, a1, ih _ b1 b2⟩
  | _ =>
    intro p s h1 h2
    unfold Sem.wp at h1 h2 ⊢
    first | exact h1.elim | exact ⟨h1, h2⟩ | (rename_i ih; exact ih _ h1 h2)
theorem wpAny_both {α : Type} {M : Model} {A : Around} {m : Sem α} {Q1 Q2 : α → Shared → Prop} {E : Value → Shared → Prop} {s : Shared} (h1 : wpAny M A m Q1 E s) (h2 : wpAny M A m Q2 (fun _ _ => True) s) : wpAny M A m (fun a s => Q1 a s ∧ Q2 a s) E s := fun Γ p hΓ =>
  Sem.wp_mono M Γ _ (fun _ _ _ q => q) (fun _ _ _ q => q.1) _ _ (wp_both m (h1 Γ p hΓ) (h2 Γ p hΓ))
end EV

namespace EV
open PySem PySem.Spec PySem.Calls PyProof.Rows L2
section
variable {M : Model} {A : Around} {s : Shared} {base : Heap} {env : Env} {outer : List Env} {L e : Addr} {oe : Obj} {vs : Array Value} {head : Value} {b : Bool}
def DctAt (e : Addr) (dd : Option Addr) (s : Shared) : Prop := ∃ o, s.heap.get? e = some o ∧ o.dict = dd
theorem d_entry (hfr : A.frames = some (env :: outer)) (hl : s.heap.FunFrames base (env :: outer)) (hf : env.frame = some L) (he : s.heap.get? e = some oe) (hd : oe.data = .fields vs) (hz : 1 < vs.size) :
    wpAny M A (do let a ← frameOf env; let pl ← entryPlaceOf L b; let c ← EntryCells.newEntry head a .none (rawInt L) .none pl; setField (.ref e) 1 c)
      (fun _ s' => ∃ o T oT ts, s'.heap.get? e = some o ∧ o.dict = oe.dict ∧ (∃ us : Array Value, o.data = .fields us ∧ us[1]? = some (.ref T)) ∧ s'.heap.get? T = some oT ∧ oT.data = .fields ts ∧ 3 < ts.size ∧ T ≠ e) (fun _ _ => True) s := by
  have ne : e ∉ (env :: outer).filterMap (·.frame) := fun hm => by
    obtain ⟨_, o, ho, hnf⟩ := hl.mem hm
    rw [he] at ho; cases ho
    exact hnf vs hd
  refine wpAny_bind (wpAny_frameOf_fun hfr hl hf fun h1 k1 => ?_)
  refine wpAny_bind (wpAny_entryPlaceOf fun pl hpl => ?_)
  unfold EntryCells.newEntry newFields
  refine wpAny_bind (wpAny_newObj_type ?_ (hpl.sizeOk5 _ _ _ _ _))
  have e1 : h1.get? e = some oe := (k1.2.1 e ne).trans he
  refine wpAny_setField (Heap.get?_push_of_some _ e1) hd hz ?_
  have d3 := Obj.data_mapFields hd (·.setIfInBounds 1 (Value.ref h1.objs.size))
  refine ⟨_, h1.objs.size, _, _, Heap.get?_update_self _ (Heap.get?_push_of_some _ e1) (Obj.isFreed_of_fields d3), ?_, ⟨_, d3, by simp [hz]⟩, (Heap.get?_update_other _ _ (Nat.ne_of_lt (Heap.lt_size e1))).trans (Heap.get?_push_size h1 rfl), rfl, ?_, Nat.ne_of_gt (Heap.lt_size e1)⟩
  · obtain ⟨c0, d0, a0, l0⟩ := oe
    dsimp only at hd
    subst hd
    rfl
  · first | (simp; done) | (rcases hpl with rfl | ⟨_, _, _, _, _, _, _, rfl⟩ <;> simp)
theorem d_flight {fl : Option Addr} {T : Addr} {oT : Obj} {ts : Array Value} (he : s.heap.get? e = some oe) (hd : oe.data = .fields vs) (h1 : vs[1]? = some (.ref T)) (hT : s.heap.get? T = some oT) (ht : oT.data = .fields ts) (hz : 3 < ts.size) (ne : T ≠ e) :
    wpAny M A (setFlight (.ref e) fl) (fun _ s' => DctAt e oe.dict s') (fun _ _ => True) s := by
  unfold setFlight
  refine wpAny_bind (wpAny_field he hd h1 ?_)
  rw [if_pos (show (Value.ref T != Value.none) = true from by simp)]
  refine wpAny_setField hT ht hz ?_
  exact ⟨oe, (Heap.get?_update_other _ _ ne).trans he, rfl⟩
theorem d_first (hfr : A.frames = some (env :: outer)) (hl : s.heap.FunFrames base (env :: outer)) (hf : env.frame = some L) (he : s.heap.get? e = some oe) (hd : oe.data = .fields vs) (h1 : vs[1]? = some .none) :
    wpAny M A (leaving env (.ref e)) (fun _ s' => DctAt e oe.dict s') (fun _ _ => True) s := by
  unfold leaving noteFrame
  simp only [hf]
  refine wpAny_bind (wpAny_bind (wpAny_field he hd h1 ?_))
  rw [if_neg (by decide)]
  refine wpAny_mono (d_entry hfr hl hf he hd (Array.getElem?_eq_some_iff.mp h1).1) (fun _ s' h => ?_) fun _ _ h => h
  obtain ⟨o, T, oT, ts, g1, g2, ⟨us, g3, g4⟩, g5, g6, g7, g8⟩ := h
  rw [← g2]
  exact d_flight g1 g3 g4 g5 g6 g7 g8
theorem d_note {cls a0 : Value} (hfr : A.frames = some (env :: outer)) (hl : s.heap.FunFrames base (env :: outer)) (hf : env.frame = some L) (ht : s.heap.TracedW base e cls a0) {dd : Option Addr} (hq : DctAt e dd s) :
    wpAny M A (noteFrame (.ref e) env) (fun _ s' => DctAt e dd s') (fun _ _ => True) s := by
  obtain ⟨oe, vs, T, oT, ts, he, _, hd, h1, _, hTe, hT, hdT, h3⟩ := ht
  obtain ⟨o, ho, rfl⟩ := hq
  rw [he] at ho; cases ho
  unfold noteFrame
  simp only [hf]
  refine wpAny_bind (wpAny_field he hd h1 ?_)
  rw [if_pos (show (Value.ref T != Value.none) = true from by simp)]
  refine wpAny_bind (wpAny_field hT hdT h3 ?_)
  rw [if_neg (show ¬ ((Value.none == rawInt L) = true) from by simp [rawInt])]
  refine wpAny_bind (wpAny_setField hT hdT (Array.getElem?_eq_some_iff.mp h3).1 ?_)
  have kp : ∀ c, c ≠ T → (s.heap.update T (Obj.mapFields (·.setIfInBounds 3 Value.none))).get? c = s.heap.get? c := fun c hc => Heap.get?_update_other _ _ (Ne.symm hc)
  refine wpAny_mono (d_entry (oe := oe) hfr (hl.of_keeps fun c o ho hn => ⟨o, (kp c fun q => ?_).trans ho, rfl⟩) hf ((kp e (Ne.symm hTe)).trans he) hd (Array.getElem?_eq_some_iff.mp h1).1) (fun _ s' h => ?_) fun _ _ h => h
  · rw [q, hT] at ho; cases ho; exact hn ts hdT
  · obtain ⟨o, _, _, _, g1, g2, _⟩ := h
    exact ⟨o, g1, g2⟩
theorem d_land {cls a0 fl : Value} (ht : s.heap.TracedAtW base e cls a0 fl) {dd : Option Addr} (hq : DctAt e dd s) : wpAny M A (setFlight (.ref e) none) (fun _ s' => DctAt e dd s') (fun _ _ => True) s := by
  obtain ⟨oe, vs, T, oT, ts, he, _, hd, h1, _, hTe, hT, hdT, h3⟩ := ht
  obtain ⟨o, ho, rfl⟩ := hq
  rw [he] at ho; cases ho
  exact d_flight he hd h1 hT hdT (Array.getElem?_eq_some_iff.mp h3).1 hTe
variable {E : Value → Shared → Prop} {Q : Unit → Shared → Prop} {cls a0 : Value} {dd : Option Addr}
theorem fly_first {oe : Obj} {vs : Array Value} (hfr : A.frames = some (env :: outer)) (hl : s.heap.FunFrames base (env :: outer)) (hf : env.frame = some L) (he : s.heap.get? e = some oe) (hkb : base.StaysIn s.heap) (hen : base.get? e = none) (hd : oe.data = .fields vs)
    (h1 : vs[1]? = some .none) (h0 : vs[0]? = some a0) (hQ : ∀ h', Heap.FlyingW base outer e oe.cls a0 h' → s.heap.UpToSlots h' → DctAt e oe.dict { s with heap := h' } → Q () { s with heap := h' }) : wpAny M A (leaving env (.ref e)) Q E s :=
  wpAny_mono (wpAny_both (wpAny_leaving_firstW (Q := fun _ s' => ∃ h', s' = { s with heap := h' } ∧ Heap.FlyingW base outer e oe.cls a0 h' ∧ s.heap.UpToSlots h') hfr hl hf he hkb hen hd h1 h0 fun h' ⟨k1, ⟨_, _, k2⟩, k3, k4⟩ => ⟨h', rfl, ⟨k1, hen, k2, k3⟩, k4⟩) (d_first hfr hl hf he hd h1))
    (fun _ s' ⟨⟨h', e1, e2, e3⟩, e4⟩ => by subst e1; exact hQ h' e2 e3 e4) fun _ _ h => h
theorem fly_looks (hfr : A.frames = some (env :: outer)) (hf : env.frame = some L) (hfl : Heap.FlyingW base (env :: outer) e cls a0 s.heap) (hd : DctAt e dd s)
    (hQ : ∀ h', Heap.HeldW base (env :: outer) e cls a0 L h' → s.heap.UpToSlots h' → DctAt e dd { s with heap := h' } → Q () { s with heap := h' }) : wpAny M A (noteFrame (.ref e) env) Q E s :=
  wpAny_mono (wpAny_both (wpAny_looks_onW (Q := fun _ s' => ∃ h', s' = { s with heap := h' } ∧ Heap.HeldW base (env :: outer) e cls a0 L h' ∧ s.heap.UpToSlots h') hfr hf hfl fun h' k1 k2 => ⟨h', rfl, k1, k2⟩) (d_note hfr hfl.2.2.1 hf hfl.2.2.2 hd))
    (fun _ s' ⟨⟨h', e1, e2, e3⟩, e4⟩ => by subst e1; exact hQ h' e2 e3 e4) fun _ _ h => h
theorem fly_lands {l : List Env} (hh : Heap.HeldW base l e cls a0 L s.heap) (hd : DctAt e dd s)
    (hQ : ∀ h', Heap.FlyingW base l e cls a0 h' → s.heap.UpToSlots h' → DctAt e dd { s with heap := h' } → Q () { s with heap := h' }) : wpAny M A (setFlight (.ref e) none) Q E s :=
  wpAny_mono (wpAny_both (wpAny_landsW (Q := fun _ s' => ∃ h', s' = { s with heap := h' } ∧ Heap.FlyingW base l e cls a0 h' ∧ s.heap.UpToSlots h') hh fun h' k1 k2 => ⟨h', rfl, k1, k2⟩) (d_land hh.2.2.2 hd))
    (fun _ s' ⟨⟨h', e1, e2, e3⟩, e4⟩ => by subst e1; exact hQ h' e2 e3 e4) fun _ _ h => h
theorem fly_again {l : List Env} (hh : Heap.FlyingW base l e cls a0 s.heap) (hd : DctAt e dd s)
    (hQ : ∀ h', Heap.FlyingW base l e cls a0 h' → s.heap.UpToSlots h' → DctAt e dd { s with heap := h' } → Q () { s with heap := h' }) : wpAny M A (setFlight (.ref e) none) Q E s :=
  wpAny_mono (wpAny_both (lands_againW (Q := fun _ s' => ∃ h', s' = { s with heap := h' } ∧ Heap.FlyingW base l e cls a0 h' ∧ s.heap.UpToSlots h') hh fun h' k1 k2 => ⟨h', rfl, k1, k2⟩) (d_land hh.2.2.2.at hd))
    (fun _ s' ⟨⟨h', e1, e2, e3⟩, e4⟩ => by subst e1; exact hQ h' e2 e3 e4) fun _ _ h => h
end

theorem obj_ex {P : Program} {w : World} {H : Hp} {h : Heap} {a : Addr} {o : HO} (x : ObjOk P w H h a o) : ∃ u, h.get? a = some u := by
  cases o with
  | lst xs => obtain ⟨_, _, _, _, e⟩ := x; exact ⟨_, e⟩
  | tup xs => obtain ⟨_, _, _, ob, e, _⟩ := x; exact ⟨_, e⟩
  | dK kvs => obtain ⟨_, _, _, _, o, _, _, e, _⟩ := x; exact ⟨_, e⟩
  | dT kvs => obtain ⟨_, _, _, _, o, _, _, e, _⟩ := x; exact ⟨_, e⟩
  | set S n => obtain ⟨o, _, _, _, e, _⟩ := x; exact ⟨_, e⟩
  | ins C dx fs => obtain ⟨_, _, _, e, _⟩ := x; exact ⟨_, e⟩
  | own y => exact x
  | xd fs => obtain ⟨_, ⟨_, _, _, e, _⟩, _⟩ := x; exact ⟨_, e⟩
  | rng lo hi => obtain ⟨_, _, _, e⟩ := x; exact ⟨_, e⟩
  | frz ob u => obtain ⟨e, _⟩ := x; exact ⟨_, e⟩
  | tbl ps => exact ⟨_, x⟩
  | met f y => exact ⟨_, x⟩
  | ext φ => exact x.2.1
/-! ## exceptions of classes of one's own: an exception leaves a def's frame -/
section
variable {P : Program} {w : World} {K : PySem.W.Frag} {mg : Str → Option Value} {base : Heap} {N : List Str} {qual : Str} {scope : Scope} {f : Addr} {cd : Value} {A : Around} {outer : List Env} {s : Shared} {H : Hp} {E : XK}
abbrev xOf (P : Program) (w : World) (K : PySem.W.Frag) (mg : Str → Option Value) (base : Heap) (N : List Str) (qual : Str) (scope : Scope) (f : Addr) (cd : Value) (A : Around) (outer : List Env) (s : Shared) (H : Hp) (E : XK) : Cx :=
  cxOf (CXE P w) P w K mg base N qual scope f cd A outer s H E

theorem frs_mem {env : Env} {l : List Env} {a : Addr} (he : env ∈ l) (hf : env.frame = some a) : a ∈ frs l := List.mem_filterMap.mpr ⟨env, he, hf⟩
/-- what stands at the entry and is no caller's frame is no running frame -/
theorem not_frame {pins : List (Addr × Obj)} {σ : L2.St} {H1 : Hp} {s1 : Shared} (I : Inv (xOf P w K mg base N qual scope f cd A outer s H E) pins σ H1 s1) {b : Addr} {o : Obj} (e : s.heap.get? b = some o) (hb : b ∉ frs outer) :
    b ∉ frs (envOfC qual scope s.heap.objs.size f cd :: outer) := fun m => by
  rcases List.mem_filterMap.mp m with ⟨env, he, hf⟩
  rcases List.mem_cons.mp he with rfl | he
  · have : b = s.heap.objs.size := (Option.some.inj hf).symm
    subst this
    exact absurd (Heap.lt_size e) (Nat.lt_irrefl _)
  · exact hb (frs_mem he hf)

/-- the exception just made leaves the frame of the def that raises it -/
theorem made_leaves {pins : List (Addr × Obj)} {σ : L2.St} {H1 H2 : Hp} {s1 s2 : Shared} {a C : Addr} (J : Inv (xOf P w K mg base N qual scope f cd A outer s H E) pins σ H1 s1)
    (hx : MadeX (xOf P w K mg base N qual scope f cd A outer s H E) pins σ H1 s1 a C H2 s2) (hs : Same H H1) (hE : ∀ H', Same H1 H' → E (.ref C) (some a) H') : (xOf P w K mg base N qual scope f cd A outer s H E).xe (.ref a) s2 := by
  obtain ⟨I, sm, new, t, dx, hA, hD, hN⟩ := hx
  let env : Env := envOfC qual scope s.heap.objs.size f cd
  have FF : s2.heap.FunFrames base (env :: outer) := I.stack
  have hin : ∀ e ∈ (env :: outer), ∀ b, e.frame = some b → b ∈ a :: frs (env :: outer) := fun e he b hb => List.mem_cons_of_mem _ (frs_mem he hb)
  let B : Heap := PySem.W.hideAll s2.heap (a :: frs (env :: outer))
  have inB : ∀ b o, s2.heap.get? b = some o → b ≠ a → b ∉ frs (env :: outer) → B.get? b = some o := fun b o e h1 hb => PySem.W.hideAll_get _ e fun m => (List.mem_cons.mp m).elim h1 hb
  have ea : s2.heap.get? a = some (xO C (some dx) t) := (show ObjOk P w H2 s2.heap a (.ext (madP a C (some dx) t)) from I.hok a _ hA).1
  have old1 : ∀ b o, s.heap.get? b = some o → b ≠ a := fun b o e z => by
    subst z
    obtain ⟨o', e1⟩ := J.base.there b o e (by intro z; cases z)
    rw [new] at e1; cases e1
  let H' : Hp := fun b => if b = a then none else H2 b
  have hH : ∀ b, b ≠ a → H' b = H2 b := fun b h => if_neg h
  have hH2 : ∀ b u, H' b = some u → b ≠ a ∧ H2 b = some u := fun b u e => by
    by_cases h : b = a
    · rw [show H' b = none from if_pos h] at e; cases e
    · exact ⟨h, (hH b h).symm.trans e⟩
  have hne : ∀ b u, H2 b = some u → (∀ φ, u ≠ .ext φ) → H' b = some u := fun b u e n => by
    refine (hH b ?_).trans e
    intro z; subst z
    rw [hA] at e; cases e
    exact n _ rfl
  have hD' : H' dx = some (.xd lineF) := hne dx _ hD fun _ z => by cases z
  have sm' : Same H1 H' := fun b u e => by
    refine (hH b ?_).trans (sm b u e)
    intro z; subst z
    obtain ⟨o', e1⟩ := obj_ex (J.hok b u e)
    rw [new] at e1; cases e1
  show wpAny (model P w) (A.deeper env) (leaving env (.ref a)) (fun _ s'' => CXE P w outer H s E (.ref a) s'') (fun e' s'' => CXE P w outer H s E e' s'') s2
  refine fly_first (base := B) (outer := outer) (L := s.heap.objs.size) I.ok.frames (PySem.W.funFrames_hide FF hin) rfl ea (fun b o q => PySem.W.of_hideAll _ q) (PySem.W.hideAll_none _ List.mem_cons_self) rfl rfl rfl fun h2 fl up dc => ?_
  have old : ∀ b o, s.heap.get? b = some o → ∃ o', s2.heap.get? b = some o' := fun b o e => I.base.there b o e (by intro z; cases z)
  have tr : ∀ b o, H2 b ≠ none → b ≠ a → s2.heap.get? b = some o → B.get? b = some o := fun b o hn h1 e => inB b o e h1 fun m => hn (I.stkFree b m)
  refine ⟨a, C, H', rfl, ⟨I.os, I.bare, ⟨fun b o e n hb hx' => ?_, fun b o e n hb hx' => ?_, fun b o e n hx' => ?_, fun b o e hx' => ?_, fun b xs q => hne b _ (I.base.tups b xs q) (fun _ z => by cases z), fun b o u q => hne b _ (I.base.frzs b o u q) (fun _ z => by cases z), fun b ps q => ?_⟩, fun b u e => ?_, ?_, if_pos rfl, ?_, t, B, fl, fun b o e hb => ?_, fun b o hn e => ?_⟩, hE H' sm'⟩
  · exact fl.1 b o (inB b o (I.base.keep b o e n hb hx') (old1 b o e) (not_frame I e hb))
  · obtain ⟨sl, e1⟩ := I.base.slot b o e n hb hx'
    have hm : b ∈ frs (env :: outer) := by
      obtain ⟨e', he, hf⟩ := List.mem_filterMap.mp hb
      exact frs_mem (List.mem_cons_of_mem _ he) hf
    obtain ⟨_, o3, e3, nf⟩ := FF.mem hm
    obtain ⟨sl2, e2⟩ := up b _ e1 (by rw [e1] at e3; cases e3; exact nf)
    exact ⟨sl2, e2⟩
  · exact (hH b (old1 b o e)).trans (I.base.free b o e n hx')
  · obtain ⟨o', e1⟩ := old b o e
    by_cases hb : b ∈ frs (env :: outer)
    · obtain ⟨_, o3, e3, nf⟩ := FF.mem hb
      rw [e1] at e3; cases e3
      obtain ⟨sl2, e2⟩ := up b _ e1 nf
      exact ⟨_, e2⟩
    · exact ⟨o', fl.1 b o' (inB b o' e1 (old1 b o e) hb)⟩
  · obtain ⟨m, e1⟩ := I.base.tbls b ps q
    exact ⟨m, hne b _ e1 fun _ z => by cases z⟩
  · obtain ⟨h1, e1⟩ := hH2 b u e
    have hs : ∀ c, (c = b ∨ H2 c = some (.own b)) → c ≠ a ∧ H2 c ≠ none := fun c hc => by
      rcases hc with rfl | hc
      · exact ⟨h1, by rw [e1]; simp⟩
      · exact ⟨(fun z => by subst z; rw [hA] at hc; cases hc), (by rw [hc]; simp)⟩
    exact (I.hok b u e1).stay (fun c v hc q => fl.1 c v (tr c v (hs c hc).2 (hs c hc).1 q)) (fun c q => hne c _ q fun _ z => by cases z) fun c xs q => hne c _ q fun _ z => by cases z
  · cases q : s.heap.get? a with
    | none => rfl
    | some o => exact absurd rfl (old1 a o q)
  · obtain ⟨o, e1, e2⟩ := dc
    exact ⟨dx, o, e1, e2, hD', hs.free hN⟩
  · obtain ⟨o', e1⟩ := old b o e
    have e2 := inB b o' e1 (old1 b o e) (not_frame I e hb)
    exact ⟨o', fl.1 b o' e2, e2⟩
  · cases q : H' b with
    | none => exact absurd q hn
    | some u =>
      obtain ⟨h1, e1⟩ := hH2 b u q
      obtain ⟨o', e3⟩ := obj_ex (I.hok b u e1)
      have e4 := tr b o' (by rw [e1]; simp) h1 e3
      have e5 := fl.1 b o' e4
      rw [show h2.get? b = some o from e] at e5; cases e5
      exact e4
/-- THE RULE for a def that may raise exceptions of classes of one's own -/
theorem fn_x {x qual : Str} {st : Stmt} {f : Addr} {fd : FuncData} {ps : List Str} {k : Nat} {F : Fn} (Fu : Fun K x qual st f fd) (SV : FS N ps st) (ar : ∀ ds r, F ds r → ds.length = ps.length)
    (body : ∀ (c : Ctx P w K mg base k N (defScope st) false) ds r, F ds r → (∀ C ρ, r = .ex C → c.RM C ρ) → EvSs c (defBody st) (start0 N ds) (fun _ => r = .ok (.va .non)) { rt := fun sl => r = .ok sl }) :
    FnOk P w K mg base (CXE P w) (k + 1) f fd ps (spF K F) := by
  obtain ⟨Sc, Vi⟩ := fs_ok SV
  obtain ⟨oc, od, kV, doc, pm, an, cdv, ct, osl, rfl, lk, hcd⟩ := Fu.ex
  refine fn_of lk hcd Sc (fun vs H Q E ⟨Hf, ds, r, _, rs, hF, _⟩ => by rw [← rs.length]; exact ar _ _ hF) fun A outer s H vs Q E hr ⟨Hf, ds, r, sb, rs, hF, hq⟩ => ?_
  let X : Cx := xOf P w K mg base N qual (defScope st) f cdv A outer s H E
  have hEx : ∀ (C a : Addr) (H' : Hp), r = .ex C → Same H H' → E (.ref C) (some a) H' := fun C a H' e sm => by
    subst e
    exact hq a H' sm
  let c : Ctx P w K mg base k N (defScope st) false :=
    { X := X, eP := rfl, ew := rfl, eK := rfl, emg := rfl, eb := rfl, eN := rfl, esc := rfl, calm := rfl, top := fun _ => ⟨rfl, rfl, rfl⟩, cb := fun _ _ _ _ _ I x c h => I.ok.cab x c rfl h, fn := fun _ _ => .inl rfl, B := H, room := hr, nd := Sc.nd, vis := Vi, Hf := Hf, RX := fun _ _ => False, RM := fun C _ => r = .ex C,
      exc := fun C a pins σ H1 Hf1 ρ s1 H' s' I S h X sm => h.elim
      mde := fun C a pins σ H1 Hf1 ρ s1 H' s' I S h hx => made_leaves I hx S.bas.s fun H2 sm => hEx C a H2 h (S.bas.s.trans sm) }
  refine ⟨_, pbSs (X := X), ?_⟩
  refine body c ds r hF (fun C _ h => h) (L2.start N vs) H Hf _ (st_start rs sb) ⟨fun σ H' Hf' ρ S e => ?_, fun sl v H' Hf' g rv e => ?_, fun _ _ _ _ _ h => h.elim, fun _ _ _ _ _ h => h.elim⟩
  · subst e
    exact hq .non H' Hf' S.bas (show Rep K Hf' .non .non from rep_non.mpr rfl)
  · have e : r = .ok sl := e
    subst e
    exact hq v H' Hf' g rv

/-! ## a part that raises nothing, in a def that may -/
def Ctx.nox {k : Nat} {sc : Scope} {bk : Bool} (c : Ctx P w K mg base k N sc bk) : Ctx P w K mg base k N sc bk :=
  { X := c.X.nox, eP := c.eP, ew := c.ew, eK := c.eK, emg := c.emg, eb := c.eb, eN := c.eN, esc := c.esc, calm := c.calm, top := c.top, cb := fun hb pins σ H s I => c.cb hb pins σ H s I.unwish, fn := c.fn, room := c.room, nd := c.nd, vis := c.vis, B := c.B, Hf := c.Hf, RX := fun _ _ => False, RM := fun _ _ => False,
    exc := fun _ _ _ _ _ _ _ _ _ _ _ _ h _ _ => h.elim, mde := fun _ _ _ _ _ _ _ _ _ _ _ _ h _ => h.elim }
end

/-! ## raise C(..), C a class of one's own beneath ValueError -/
def vErr : List Value := [.type "ValueError", .type "Exception", .type "BaseException", .type "object"]
section
variable {P : Program} {w : World} {K : PySem.W.Frag} {mg : Str → Option Value} {base : Heap} {k : Nat} {N : List Str} {sc : Scope} {bk : Bool} {c : Ctx P w K mg base k N sc bk} {ρ : List Sl} {nx : List Sl → Prop} {p : Pt} {pos np cpos : Pos} {e : Expr}
end
open PySem.W Builtin Builtin.ObjectAttr Builtin.Getset_descriptor

/-! ## isinstance of an exception of a class of one's own -/
structure ExK (K : PySem.W.Frag) (C : Addr) : Prop where
  ga : PySem.W.findIn K (.ref C) "__getattribute__" = some (some (.builtin "BaseException.__getattribute__"))
  hk : PySem.W.findIn K (.ref C) "__getattr__" = some none
  ca : PySem.W.findIn K (.ref C) "__class__" = some (some (.builtin "object.__class__"))
  gt : PySem.W.specialIn K (.builtin "object.__class__") "__get__" = some (some (.builtin "getset_descriptor.__get__"))
  tk : PySem.W.takesIn K (.builtin "object.__class__") = some true
  mo : PySem.W.mroIn K C (.type "object") = some true
  mb : PySem.W.mroIn K C (.type "BaseException") = some true

section
variable {prog : Program} {w : World} {A : Around} {E : Value → Shared → Prop} {s : Shared} {K : PySem.W.Frag} {x C : Addr} {R : Result → Shared → Prop}
theorem ex_type {M : Model} {h : Heap} {dx : Addr} (p : excP x C dx h) : Looks M h (typeOf (.ref x)) (.ref C) := by
  obtain ⟨o, ho, hc, _⟩ := p
  rw [← hc]
  exact (Looks.ld ho).andThen .now
theorem exc_class_get {tp : Value} (X : K.In s.heap) (L : Looks (model prog w) s.heap (typeOf (.ref x)) (.ref C)) (hm : PySem.W.mroIn K C (.type "object") = some true)
    (h : R (.ok (.ret (.ref C))) s) : codeAny (model prog w) A (.call (.builtin "getset_descriptor.__get__") ⟨[.builtin "object.__class__", .ref x, tp], []⟩) R s := by
  obtain ⟨hh, g, dr, t, os⟩ := s
  have L0 := L
  have L1 := looks_mroIn (M := model prog w) X hm
  refine codeAny_call_builtin KF.slot_gs.plain KF.entry_gs (KF.slot_gs.check _ _ _ _ _ _ _ _ KF.type_class (KF.args_gs _ _ _) ?_)
  unfold Builtin.«getset_descriptor.__get__» descrGet
  rw [dga_obj]
  refine wpAny_bind (wpAny_pure ?_)
  unfold descrGetter descrCheckInstance descrNameAndClass isInstance
  simp only [KF.owner_class]
  repeat lk
  refine ⟨Code.quiet_builtin _ (by decide +kernel), codeAny_builtin KF.entry_class ?_⟩
  unfold Builtin.«object.__class__» shownTypeOf
  repeat lk
  exact h
theorem exc_find {M : Model} {h : Heap} (X : K.In h) (k : ExK K C) : Looks M h (find (.ref x) (.ref C) "__class__") (.bind (.builtin "getset_descriptor.__get__") (.builtin "object.__class__")) := by
  have L1 := looks_findIn (M := M) X k.ca
  have L2 : Looks M h (getOf (some (.builtin "object.__class__"))) (some (.builtin "getset_descriptor.__get__")) := looks_specialIn X k.gt
  have L3 := looks_takesIn (M := M) X k.tk
  unfold find
  refine L1.andThen (L2.andThen ?_)
  refine Looks.andThen (a := some (.builtin "getset_descriptor.__get__", .builtin "object.__class__")) ?_ (Looks.tag .now)
  unfold dataDescriptor?
  exact L3.andThen .now
theorem exc_class {Q : Option Value → Shared → Prop} {dx : Addr} (X : K.In s.heap) (p : excP x C dx s.heap) (k : ExK K C) (h : Q (some (.ref C)) { s with toks := s.toks + 1 }) : wpAny (model prog w) A (getAttr? (.ref x) "__class__") Q E s := by
  obtain ⟨hh, g, d, t, os⟩ := s
  have L0 : Looks (model prog w) hh (typeOf (.ref x)) (.ref C) := ex_type p
  have L1 := looks_findIn (M := model prog w) X k.ga
  have L2 := looks_findIn (M := model prog w) X k.hk
  have L3 := looks_mroIn (M := model prog w) X k.mb
  have L4 := exc_find (M := model prog w) (x := x) X k
  unfold getAttr? getAttrBy? getAttrBy
  refine wpAny_bind (wpAny_mkText (wpAny_bind (wpAny_attempt (wpAny_holding (wpAny_bind (L0.at (wpAny_bind (L1.at ?_))))))))
  dsimp only
  have hx2 : (Value.builtin "BaseException.__getattribute__" == Value.builtin "object.__getattribute__") = false := by decide +kernel
  rw [hx2, Bool.and_false, if_neg Bool.false_ne_true]
  unfold getAttrByItsOwn hookBefore
  rw [if_pos (by rfl)]
  refine wpAny_bind (L2.at ?_)
  refine wpAny_bind (wpAny_attempt (wpAny_holding ?_))
  unfold callGetattribute
  rw [if_neg (by simp)]
  unfold boundAndCalled
  have f3 := PySem.F.attrBase_ValueError.ga.bind (.ref x)
  rw [f3]
  refine wpAny_bind (wpAny_pure ?_)
  refine wpAny_call (codeAny_call_builtin PySem.F.attrBase_ValueError.ga.plain PySem.F.entry_bexc_ga ?_)
  have hk : builtinKind "BaseException.__getattribute__" = some .slot := by decide +kernel
  have hsplit : splitId "BaseException.__getattribute__" = some ("BaseException", "__getattribute__") := by decide +kernel
  have ha := PySem.F.args_bexc_ga (.ref x) (Value.str (Str.ofString "__class__") t)
  simp only [checkBuiltinCall, hk, hsplit]
  dsimp only [List.cons_append, List.nil_append]
  have LI : Looks (model prog w) hh (isInstance (.ref x) (.type "BaseException")) true := L0.andThen L3
  refine wpAny_bind (LI.at ?_)
  rw [if_neg (by decide)]
  refine wpAny_mono (Q := fun _ s1 => s1 = ⟨hh, g, d, t + 1, os⟩) (E := fun _ _ => False) ?_ (fun _ s1 e1 => ?_) (fun _ _ z => z.elim)
  · repeat (any_goals (first | assumption | rfl | wp_step))
  subst e1
  unfold «object.__getattribute__»
  repeat (first | with_reducible refine wpAny_call ?_ | lk)
  refine exc_class_get X L0 k.mo ?_
  repeat lk
  exact h
theorem kitx_exc {dx : Addr} (k : ExK K C) : PySem.W.KitX K (.ref x) (.ref C) (excP x C dx) where
  ty := fun _ _ _ p => ex_type p
  it := fun _ _ X _ => by
    have hdct : ∃ cd, PySem.W.clsIn K C = some cd := by
      obtain ⟨cd, h1, _⟩ := Option.bind_eq_some_iff.mp (show (PySem.W.clsIn K C).bind _ = some true from k.mo)
      exact ⟨cd, h1⟩
    obtain ⟨cdD, hcD⟩ := hdct
    unfold PySem.W.clsIn at hcD
    split at hcD
    · rename_i c' d' cd' sl' ho
      intro A' Q' E' s' k q
      unfold isType loadHead
      exact wpAny_bind (wpAny_loadPart (k _ _ (X _ _ ho)) (wpAny_pure q))
    · cases hcD
  ne := fun h tp dd its n sl X htp => by
    obtain ⟨cdD, hcD, _⟩ := Option.bind_eq_some_iff.mp (show (PySem.W.clsIn K C).bind _ = some true from k.mo)
    refine Bool.eq_false_iff.mpr fun q => ?_
    have e : C = tp := Value.ref.inj (beq_iff_eq.mp q)
    subst e
    unfold PySem.W.clsIn at hcD
    split at hcD
    · rename_i c' d' cd' sl' ho
      have z := (X _ _ ho).symm.trans htp
      cases z
    · cases hcD
  ca := fun X p h => exc_class X p k h
end

/-- the type of a datum -/
inductive TyD (K : PySem.W.Frag) : D → Value → Prop where
  | non : TyD K .non (.type "NoneType")
  | bl {x : Bool} : TyD K (.bl x) (.type "bool")
  | int {i : Int} : TyD K (.int i) (.type "int")
  | str {x : Str} : TyD K (.str x) (.type "str")
  | lst {ds : List EV.D} : TyD K (.lst ds) (.type "list")
  | tup {ds : List EV.D} : TyD K (.tup ds) (.type "tuple")
  | exc {C : Addr} (k : ExK K C) : TyD K (.exc C) (.ref C)
section
variable {X : Cx} {pins : List (Addr × Obj)} {σ : L2.St} {H Hf : Hp} {s : Shared} {A : Around} {E : Value → Shared → Prop} {Q : Value → Shared → Prop} {cv t : Value} {b : Bool}
theorem isin_ok {d : EV.D} {v : V} {u : Value} (I : Inv X pins σ H s) (sb : Same Hf H) (rx : RelV v u) (rd : Rep X.K Hf d v) (ty : TyD X.K d t) (e : PySem.W.kitOne X.K t cv = some b) (h : ∀ tk, Q (.bool b) { s with toks := tk }) :
    wpAny (model X.prog X.w) A (call (.builtin "isinstance") [u, cv]) Q E s := by
  cases ty with
  | non => rw [rep_non] at rd; subst rd; cases (show u = Value.none from rx); exact PySem.W.kia_one PySem.W.kitx_none I.kIn True.intro e (fun z => nomatch z) h
  | bl => rw [rep_bl] at rd; subst rd; cases (show u = Value.bool _ from rx); exact PySem.W.kia_one PySem.W.kitx_bool I.kIn True.intro e (fun z => nomatch z) h
  | int => rw [rep_int] at rd; subst rd; obtain ⟨t, q⟩ := (show ∃ t, u = Value.int _ t from rx); cases q; exact PySem.W.kia_one PySem.W.kitx_int I.kIn True.intro e (fun z => nomatch z) h
  | str => rw [rep_str] at rd; subst rd; obtain ⟨t, q⟩ := (show ∃ t, u = Value.str _ t from rx); cases q; exact PySem.W.kia_one PySem.W.kitx_str I.kIn True.intro e (fun z => nomatch z) h
  | lst =>
    rw [rep_lst] at rd
    obtain ⟨a, xs, rfl, h1, _⟩ := rd
    cases (show u = Value.ref a from rx)
    obtain ⟨its, _, p, _⟩ := I.list (sb.seq h1)
    obtain ⟨o, n1, p1, p2, _⟩ := p
    exact PySem.W.kia_one PySem.W.kitx_list I.kIn ⟨o, p1, p2⟩ e (fun z => nomatch z) h
  | tup =>
    rw [rep_tup] at rd
    obtain ⟨a, xs, rfl, h1, _⟩ := rd
    cases (show u = Value.ref a from rx)
    obtain ⟨its, _, p, _⟩ := I.tuple (same_tup sb h1)
    obtain ⟨o, p1, p2, _⟩ := p
    exact PySem.W.kia_one PySem.W.kitx_tuple I.kIn ⟨o, p1, p2⟩ e (fun z => nomatch z) h
  | @exc C k =>
    rw [rep_exc] at rd
    obtain ⟨a, dx, rfl, h1, _⟩ := rd
    cases (show u = Value.ref a from rx)
    have p : excP a C dx s.heap := (show ObjOk X.prog X.w H s.heap a (.ext (excP a C dx)) from I.hok a _ (sb _ _ h1)).1
    exact PySem.W.kia_one (kitx_exc k) I.kIn p e (fun z => nomatch z) h
end
section
variable {P : Program} {w : World} {K : PySem.W.Frag} {mg : Str → Option Value} {base : Heap} {k : Nat} {N : List Str} {sc : Scope} {bk : Bool} {c : Ctx P w K mg base k N sc bk} {ρ : List Sl} {pos np cp : Pos} {e : Expr} {R : EV.D → Prop}
def ClsName (mg : Str → Option Value) (x : Str) (cv : Value) : Prop := (∃ C, cv = .ref C ∧ mg x = some (.ref C)) ∨ (∃ T, cv = .type T ∧ mg x = none ∧ bootBuiltins x = some (.type T) ∧ x ≠ "__name__")
theorem boot_isin : bootBuiltins (Str.ofString "isinstance") = some (.builtin "isinstance") := by decide +kernel
theorem e_isin {x : Str} {cv : Value} (hm : mg (Str.ofString "isinstance") = none) (hc : ClsName mg x cv) (h : EvE c e ρ fun d => ∃ t b, TyD K d t ∧ PySem.W.kitOne K t cv = some b ∧ R (.bl b))
    (hgi : sc.names.lookup (Str.ofString "isinstance") = some .globalImplicit := by with_unfolding_all rfl) (hgx : sc.names.lookup x = some .globalImplicit := by with_unfolding_all rfl) (hdx : (x == ("__debug__" : Str)) = false := by decide)
    (he : ∀ env, starEach [e, .Name x cp] env = (false, eval e env) :: starEach [.Name x cp] env := by intro _; with_unfolding_all rfl) (he2 : ∀ env, starEach [.Name x cp] env = [(false, eval (.Name x cp) env)] := by intro _; with_unfolding_all rfl)
    (hpl : ∀ env, (backTo pos (starEach [.Name x cp] env)).any (·.1) = false := by intro _; with_unfolding_all rfl) : EvE c (.Call (.Name (Str.ofString "isinstance") np) [e, .Name x cp] [] pos) ρ R := fun σ H Hf Q S q pins s I => by
  refine wpAny_Call_Name_kw (ld_blt I (by unfold Gl Env.kindOf; rw [c.esc]; exact hgi) (by rw [c.emg]; exact hm) boot_isin ?_ (by decide) (by decide))
  -- the class is read behind the value
  have hx : ∀ (s1 : Shared) (H1 : Hp) (Q' : Value → Shared → Prop), Inv c.X pins σ H1 s1 → Q' cv s1 → wpAny (model c.X.prog c.X.w) c.X.A (eval (.Name x cp) c.X.env) Q' c.X.xe s1 := fun s1 H1 Q' I1 q' => by
    rcases hc with ⟨C, rfl, hm'⟩ | ⟨T, rfl, hm', hb, hn⟩
    · exact ld_glob I1 (by unfold Gl Env.kindOf; rw [c.esc]; exact hgx) (by rw [c.emg]; exact hm') q' hdx
    · exact ld_blt I1 (by unfold Gl Env.kindOf; rw [c.esc]; exact hgx) (by rw [c.emg]; exact hm') hb q' hn hdx
  refine PyProof.Rows.callWith_builtin1 (spliced_more (h σ H Hf (fun v H1 => ∃ d Hf1, (∃ t b, TyD K d t ∧ PySem.W.kitOne K t cv = some b ∧ R (.bl b)) ∧ Rep c.X.K Hf1 d v ∧ Grw H Hf H1 Hf1) S (fun d v H' Hf' hR r g => ⟨d, Hf', hR, r, g⟩) pins s I |> (thn · fun u s1 hh => z2 hh fun v H1 hh => w3 hh fun I1 rv hh => z2 hh fun d Hf1 hh => w3 hh fun hh rd g => z2 hh fun t b hh => w3 hh fun ty ek hR => ?_)) (he _)) (he _) (hpl _)
  refine spliced_more (hx s1 H1 _ I1 (spliced_none ?_)) (he2 _)
  refine isin_ok I1 g.b rv rd (by rw [c.eK]; exact ty) (by rw [c.eK]; exact ek) fun tk => ?_
  exact ⟨.bl b, H1, I1.tok tk, rfl, q _ _ H1 Hf1 hR (rep_bl.mpr rfl) g⟩
end

/-! ## == and != of data, to any depth -/
section
variable {X : Cx} {pins : List (Addr × Obj)} {σ : L2.St} {H Hf : Hp} {s : Shared}
theorem eqo_inj (I : Inv X pins σ H s) (sb : Same Hf H) : ∀ (n : Nat) (d e : D) (v : V), EqO n d e → Rep X.K Hf d v → Rep X.K Hf e v → d = e := by
  intro n
  induction n with
  | zero =>
    intro d e v h r1 r2
    cases h with
    | sc h => cases d <;> cases e <;> simp [scalD] at h <;> simp_all [Rep]
    | ln => rw [rep_non] at r2; subst r2; rw [rep_lst] at r1; obtain ⟨_, _, e, _⟩ := r1; cases e
    | nl => rw [rep_non] at r1; subst r1; rw [rep_lst] at r2; obtain ⟨_, _, e, _⟩ := r2; cases e
    | tn => rw [rep_non] at r2; subst r2; rw [rep_tup] at r1; obtain ⟨_, _, e, _⟩ := r1; cases e
    | nt => rw [rep_non] at r1; subst r1; rw [rep_tup] at r2; obtain ⟨_, _, e, _⟩ := r2; cases e
  | succ n ih =>
    have els : ∀ (ds es : List D) (xs : List V), (∀ (i : Nat) (d e : D), ds[i]? = some d → es[i]? = some e → EqO n d e) → Reps X.K Hf ds xs → Reps X.K Hf es xs → ds = es := fun ds es xs h q1 q2 => by
      apply List.ext_getElem?
      intro i
      cases a : ds[i]? with
      | none =>
        have : ds.length ≤ i := by simpa using a
        symm
        rw [List.getElem?_eq_none_iff, q2.length, ← q1.length]; exact this
      | some d =>
        obtain ⟨x, ex, rx⟩ := q1.get a
        obtain ⟨e, ee, re⟩ := q2.get' ex
        rw [ee, ih d e x (h i d e a ee) rx re]
    intro d e v h r1 r2
    cases h with
    | sc h => cases d <;> cases e <;> simp [scalD] at h <;> simp_all [Rep]
    | ln => rw [rep_non] at r2; subst r2; rw [rep_lst] at r1; obtain ⟨_, _, e, _⟩ := r1; cases e
    | nl => rw [rep_non] at r1; subst r1; rw [rep_lst] at r2; obtain ⟨_, _, e, _⟩ := r2; cases e
    | tn => rw [rep_non] at r2; subst r2; rw [rep_tup] at r1; obtain ⟨_, _, e, _⟩ := r1; cases e
    | nt => rw [rep_non] at r1; subst r1; rw [rep_tup] at r2; obtain ⟨_, _, e, _⟩ := r2; cases e
    | tup h =>
      rw [rep_tup] at r1 r2
      obtain ⟨a, xs, rfl, p1, q1⟩ := r1
      obtain ⟨a', ys, e', p2, q2⟩ := r2
      cases e'
      have := I.tuple_inj (same_tup sb p1) (same_tup sb p2)
      subst this
      rw [els _ _ _ h q1 q2]
    | lst h =>
      rw [rep_lst] at r1 r2
      obtain ⟨a, xs, rfl, p1, q1⟩ := r1
      obtain ⟨a', ys, e', p2, q2⟩ := r2
      cases e'
      have := I.list_inj (sb.seq p1) (sb.seq p2)
      subst this
      rw [els _ _ _ h q1 q2]
theorem dec_beq {α : Type} [BEq α] [LawfulBEq α] {a b : α} {i : Decidable (a = b)} : (a == b) = @decide (a = b) i := by
  by_cases h : a = b
  · subst h; simp
  · simp [h]
theorem all_range {ds es : List D} {n m : Nat} (hn : ds.length = n) (hm : es.length = m) (h : n = m) : ((List.range n).all fun j => decide (ds[j]? = es[j]?)) = decide (ds = es) := by
  rw [Bool.eq_iff_iff, List.all_eq_true]
  simp only [List.mem_range, decide_eq_true_eq]
  constructor
  · intro q
    apply List.ext_getElem?
    intro i
    by_cases hi : i < n
    · exact q i hi
    · rw [List.getElem?_eq_none (by lia), List.getElem?_eq_none (by lia)]
  · rintro rfl; intro _ _; rfl
theorem eqAt_sc {x y : D} {v v' : V} {u u' : Value} {A : Around} (h : scalD x y = true) (r1 : Rep X.K Hf x v) (r2 : Rep X.K Hf y v') (e1 : RelV v u) (e2 : RelV v' u') : SeqAt.EqAt A s u u' (decide (x = y)) := by
  cases x <;> cases y <;> simp [scalD] at h <;> simp only [rep_int, rep_bl, rep_non, rep_str] at r1 r2 <;> subst r1 <;> subst r2
  case non.non => cases e1; cases e2; simpa using SeqAt.EqAt.same _
  case non.bl b => cases e1; cases e2; simpa using SeqAt.EqAt.none_bool (A := A) (s := s) b
  case non.int i => cases e1; obtain ⟨t, rfl⟩ := e2; simpa using SeqAt.EqAt.none_int (A := A) (s := s) i t
  case non.str i => cases e1; obtain ⟨t, rfl⟩ := e2; simpa using SeqAt.EqAt.none_str (A := A) (s := s) i t
  case bl.non b => cases e1; cases e2; simpa using SeqAt.EqAt.bool_none (A := A) (s := s) b
  case bl.bl a b => cases e1; cases e2; have q := SeqAt.EqAt.bool_bool (A := A) (s := s) a b; rw [dec_beq (i := inferInstance)] at q; simpa using q
  case bl.str a b => cases e1; obtain ⟨t, rfl⟩ := e2; simpa using SeqAt.EqAt.bool_str (A := A) (s := s) a b t
  case int.non a => obtain ⟨t, rfl⟩ := e1; cases e2; simpa using SeqAt.EqAt.int_none (A := A) (s := s) a t
  case int.int a b => obtain ⟨t, rfl⟩ := e1; obtain ⟨t', rfl⟩ := e2; have q := SeqAt.EqAt.int_int (A := A) (s := s) a t b t'; rw [dec_beq (i := inferInstance)] at q; simpa using q
  case int.str a b => obtain ⟨t, rfl⟩ := e1; obtain ⟨t', rfl⟩ := e2; simpa using SeqAt.EqAt.int_str (A := A) (s := s) a t b t'
  case str.non a => obtain ⟨t, rfl⟩ := e1; cases e2; simpa using SeqAt.EqAt.str_none (A := A) (s := s) a t
  case str.bl a b => obtain ⟨t, rfl⟩ := e1; cases e2; simpa using SeqAt.EqAt.str_bool (A := A) (s := s) a t b
  case str.int a b => obtain ⟨t, rfl⟩ := e1; obtain ⟨t', rfl⟩ := e2; simpa using SeqAt.EqAt.str_int (A := A) (s := s) a t b t'
  case str.str a b => obtain ⟨t, rfl⟩ := e1; obtain ⟨t', rfl⟩ := e2; have q := SeqAt.EqAt.str_str (A := A) (s := s) a t b t'; rw [dec_beq (i := inferInstance)] at q; simpa using q
theorem in1_units (A : Around) : A.in1.units = A.units + 1 := rfl
theorem dec_tup {ds es : List D} : decide (D.tup ds = D.tup es) = decide (ds = es) := by simp
theorem dec_lst {ds es : List D} : decide (D.lst ds = D.lst es) = decide (ds = es) := by simp
/-- the items' answers -/
theorem els_at (I : Inv X pins σ H s) {n : Nat} {A : Around} {ds es : List D} {xs ys : List V} {us ws : List Value} (h : ∀ (i : Nat) (d e : D), ds[i]? = some d → es[i]? = some e → EqO n d e)
    (ih : ∀ (d e : D) (v v' : V) (u u' : Value) (A : Around), EqO n d e → Rep X.K Hf d v → Rep X.K Hf e v' → RelV v u → RelV v' u' → A.units + n < cLine → SeqAt.EqAt A s u u' (decide (d = e)))
    (q1 : Reps X.K Hf ds xs) (q2 : Reps X.K Hf es ys) (r1 : Vals xs us) (r2 : Vals ys ws) (hu : A.in1.units + n < cLine) :
    ∀ j (h1 : j < us.toArray.size) (h2 : j < ws.toArray.size), SeqAt.EqAt A.in1 s us.toArray[j] ws.toArray[j] (decide (ds[j]? = es[j]?)) := fun j h1 h2 => by
  have l1 := q1.length
  have l2 := q2.length
  have m1 := r1.length
  have m2 := r2.length
  simp only [List.size_toArray] at h1 h2
  have hd : ds[j]? = some ds[j] := List.getElem?_eq_getElem (by lia)
  have he : es[j]? = some es[j] := List.getElem?_eq_getElem (by lia)
  obtain ⟨x, ex, rx⟩ := q1.get hd
  obtain ⟨y, ey, ry⟩ := q2.get he
  obtain ⟨u, eu, ru⟩ := r1.get ex
  obtain ⟨u', eu', ru'⟩ := r2.get ey
  have z1 : us.toArray[j] = u := by
    have := List.getElem?_eq_getElem h1
    rw [this] at eu
    simpa using eu
  have z2 : ws.toArray[j] = u' := by
    have := List.getElem?_eq_getElem h2
    rw [this] at eu'
    simpa using eu'
  rw [z1, z2, hd, he]
  have q := ih _ _ x y u u' A.in1 (h j _ _ hd he) rx ry ru ru' hu
  simpa using q
theorem eqAt_deep (I : Inv X pins σ H s) (sb : Same Hf H) : ∀ (n : Nat) (d e : D) (v v' : V) (u u' : Value) (A : Around), EqO n d e → Rep X.K Hf d v → Rep X.K Hf e v' → RelV v u → RelV v' u' → A.units + n < cLine → SeqAt.EqAt A s u u' (decide (d = e)) := by
  have non : ∀ (n : Nat) (d e : D) (v v' : V) (u u' : Value) (A : Around), A.units < cLine → Rep X.K Hf d v → Rep X.K Hf e v' → RelV v u → RelV v' u' →
      ((∃ ds, d = .lst ds ∧ e = .non) ∨ (∃ ds, d = .non ∧ e = .lst ds) ∨ (∃ ds, d = .tup ds ∧ e = .non) ∨ (∃ ds, d = .non ∧ e = .tup ds)) → SeqAt.EqAt A s u u' (decide (d = e)) := by
    intro n d e v v' u u' A hu r1 r2 e1 e2 h
    rcases h with ⟨ds, rfl, rfl⟩ | ⟨ds, rfl, rfl⟩ | ⟨ds, rfl, rfl⟩ | ⟨ds, rfl, rfl⟩
    · rw [rep_non] at r2; subst r2; rw [rep_lst] at r1; obtain ⟨a, xs, rfl, p, _⟩ := r1; cases e1; cases e2
      obtain ⟨its, _, q, _⟩ := I.list (sb.seq p)
      simpa using SeqAt.EqAt.list_none (A := A) q.isList hu
    · rw [rep_non] at r1; subst r1; rw [rep_lst] at r2; obtain ⟨a, xs, rfl, p, _⟩ := r2; cases e1; cases e2
      obtain ⟨its, _, q, _⟩ := I.list (sb.seq p)
      simpa using SeqAt.EqAt.none_list (A := A) q.isList hu
    · rw [rep_non] at r2; subst r2; rw [rep_tup] at r1; obtain ⟨a, xs, rfl, p, _⟩ := r1; cases e1; cases e2
      obtain ⟨its, _, q, _⟩ := I.tuple (same_tup sb p)
      simpa using SeqAt.EqAt.tuple_none (A := A) (show s.heap.IsTuple a its.toArray from q) hu
    · rw [rep_non] at r1; subst r1; rw [rep_tup] at r2; obtain ⟨a, xs, rfl, p, _⟩ := r2; cases e1; cases e2
      obtain ⟨its, _, q, _⟩ := I.tuple (same_tup sb p)
      simpa using SeqAt.EqAt.none_tuple (A := A) (show s.heap.IsTuple a its.toArray from q) hu
  intro n
  induction n with
  | zero =>
    intro d e v v' u u' A h r1 r2 e1 e2 hu
    cases h with
    | sc h => exact eqAt_sc h r1 r2 e1 e2
    | ln => exact non 0 _ _ _ _ _ _ A (by lia) r1 r2 e1 e2 (.inl ⟨_, rfl, rfl⟩)
    | nl => exact non 0 _ _ _ _ _ _ A (by lia) r1 r2 e1 e2 (.inr (.inl ⟨_, rfl, rfl⟩))
    | tn => exact non 0 _ _ _ _ _ _ A (by lia) r1 r2 e1 e2 (.inr (.inr (.inl ⟨_, rfl, rfl⟩)))
    | nt => exact non 0 _ _ _ _ _ _ A (by lia) r1 r2 e1 e2 (.inr (.inr (.inr ⟨_, rfl, rfl⟩)))
  | succ n ih =>
    intro d e v v' u u' A h r1 r2 e1 e2 hu
    cases h with
    | sc h => exact eqAt_sc h r1 r2 e1 e2
    | ln => exact non 0 _ _ _ _ _ _ A (by lia) r1 r2 e1 e2 (.inl ⟨_, rfl, rfl⟩)
    | nl => exact non 0 _ _ _ _ _ _ A (by lia) r1 r2 e1 e2 (.inr (.inl ⟨_, rfl, rfl⟩))
    | tn => exact non 0 _ _ _ _ _ _ A (by lia) r1 r2 e1 e2 (.inr (.inr (.inl ⟨_, rfl, rfl⟩)))
    | nt => exact non 0 _ _ _ _ _ _ A (by lia) r1 r2 e1 e2 (.inr (.inr (.inr ⟨_, rfl, rfl⟩)))
    | @tup _ ds es h =>
      have hh := EqO.tup h
      have r1' := r1; have r2' := r2
      rw [rep_tup] at r1 r2
      obtain ⟨a, xs, rfl, p1, q1⟩ := r1
      obtain ⟨b, ys, rfl, p2, q2⟩ := r2
      cases e1; cases e2
      by_cases hab : a = b
      · subst hab
        have := eqo_inj I sb _ _ _ _ hh r1' r2'
        rw [this]
        simpa using SeqAt.EqAt.same _
      · obtain ⟨us, v1, t1, _⟩ := I.tuple (same_tup sb p1)
        obtain ⟨ws, v2, t2, _⟩ := I.tuple (same_tup sb p2)
        have key := SeqAt.RcAt.tuples (A := A) (s := s) (show s.heap.IsTuple a us.toArray from t1) (show s.heap.IsTuple b ws.toArray from t2) (by lia) (els_at I h ih q1 q2 v1 v2 (by rw [in1_units]; lia))
        have hl1 : us.toArray.size = ds.length := by simp [← v1.length, q1.length]
        have hl2 : ws.toArray.size = es.length := by simp [← v2.length, q2.length]
        have e : ((List.range (min us.toArray.size ws.toArray.size)).all (fun j => decide (ds[j]? = es[j]?)) && us.toArray.size == ws.toArray.size) = decide (D.tup ds = D.tup es) := by
          rw [dec_tup, hl1, hl2]
          by_cases hl : ds.length = es.length
          · rw [hl, Nat.min_self]
            simp only [beq_self_eq_true, Bool.and_true]
            exact all_range hl rfl rfl
          · have : ¬ ds = es := fun z => hl (by rw [z])
            simp [hl, this]
        rw [e] at key
        exact .of_refs hab key
    | @lst _ ds es h =>
      have hh := EqO.lst h
      have r1' := r1; have r2' := r2
      rw [rep_lst] at r1 r2
      obtain ⟨a, xs, rfl, p1, q1⟩ := r1
      obtain ⟨b, ys, rfl, p2, q2⟩ := r2
      cases e1; cases e2
      by_cases hab : a = b
      · subst hab
        have := eqo_inj I sb _ _ _ _ hh r1' r2'
        rw [this]
        simpa using SeqAt.EqAt.same _
      · obtain ⟨us, v1, t1, _⟩ := I.list (sb.seq p1)
        obtain ⟨ws, v2, t2, _⟩ := I.list (sb.seq p2)
        have hl1 : us.toArray.size = ds.length := by simp [← v1.length, q1.length]
        have hl2 : ws.toArray.size = es.length := by simp [← v2.length, q2.length]
        by_cases hl : ds.length = es.length
        · have key := SeqAt.RcAt.lists (A := A) (s := s) t1.isList t2.isList (by rw [hl1, hl2, hl]) (by lia) (els_at I h ih q1 q2 v1 v2 (by rw [in1_units]; lia))
          rw [hl1, all_range rfl hl.symm rfl, ← dec_lst] at key
          exact .of_refs hab key
        · have key := SeqAt.RcAt.lists_lengths (A := A) (s := s) t1.isList t2.isList (by rw [hl1, hl2]; simpa using hl) (by lia)
          have e : decide (D.lst ds = D.lst es) = false := by
            rw [dec_lst]; exact decide_eq_false fun z => hl (by rw [z])
          rw [e]
          exact .of_refs hab key
/-- == of lists, of tuples, as it stands in the text -/
theorem rcAt_seq (I : Inv X pins σ H s) (sb : Same Hf H) {A : Around} (hu : A.units + 50 < cLine) {ds es : List D} {d e : D} (hk : (d = .tup ds ∧ e = .tup es) ∨ (d = .lst ds ∧ e = .lst es)) (h : EqIt ds es) {v v' : V} {u u' : Value}
    (r1 : Rep X.K Hf d v) (r2 : Rep X.K Hf e v') (e1 : RelV v u) (e2 : RelV v' u') : SeqAt.RcAt A s u u' (decide (d = e)) ∧ SeqAt.RcNeAt A s u u' (!decide (d = e)) := by
  have ih := eqAt_deep I sb 40
  rcases hk with ⟨rfl, rfl⟩ | ⟨rfl, rfl⟩
  · rw [rep_tup] at r1 r2
    obtain ⟨a, xs, rfl, p1, q1⟩ := r1
    obtain ⟨b, ys, rfl, p2, q2⟩ := r2
    cases e1; cases e2
    obtain ⟨us, v1, t1, _⟩ := I.tuple (same_tup sb p1)
    obtain ⟨ws, v2, t2, _⟩ := I.tuple (same_tup sb p2)
    have els := els_at (A := A) I h ih q1 q2 v1 v2 (by rw [in1_units]; lia)
    have key := SeqAt.RcAt.tuples (A := A) (s := s) (show s.heap.IsTuple a us.toArray from t1) (show s.heap.IsTuple b ws.toArray from t2) (by lia) els
    have key2 := SeqAt.RcNeAt.tuples (A := A) (s := s) (show s.heap.IsTuple a us.toArray from t1) (show s.heap.IsTuple b ws.toArray from t2) (by lia) els
    have hl1 : us.toArray.size = ds.length := by simp [← v1.length, q1.length]
    have hl2 : ws.toArray.size = es.length := by simp [← v2.length, q2.length]
    have e : ((List.range (min us.toArray.size ws.toArray.size)).all (fun j => decide (ds[j]? = es[j]?)) && us.toArray.size == ws.toArray.size) = decide (D.tup ds = D.tup es) := by
      rw [dec_tup, hl1, hl2]
      by_cases hl : ds.length = es.length
      · rw [hl, Nat.min_self]
        simp only [beq_self_eq_true, Bool.and_true]
        exact all_range hl rfl rfl
      · have : ¬ ds = es := fun z => hl (by rw [z])
        simp [hl, this]
    rw [e] at key key2
    exact ⟨key, key2⟩
  · rw [rep_lst] at r1 r2
    obtain ⟨a, xs, rfl, p1, q1⟩ := r1
    obtain ⟨b, ys, rfl, p2, q2⟩ := r2
    cases e1; cases e2
    obtain ⟨us, v1, t1, _⟩ := I.list (sb.seq p1)
    obtain ⟨ws, v2, t2, _⟩ := I.list (sb.seq p2)
    have hl1 : us.toArray.size = ds.length := by simp [← v1.length, q1.length]
    have hl2 : ws.toArray.size = es.length := by simp [← v2.length, q2.length]
    by_cases hl : ds.length = es.length
    · have els := els_at (A := A) I h ih q1 q2 v1 v2 (by rw [in1_units]; lia)
      have key := SeqAt.RcAt.lists (A := A) (s := s) t1.isList t2.isList (by rw [hl1, hl2, hl]) (by lia) els
      have key2 := SeqAt.RcNeAt.lists (A := A) (s := s) t1.isList t2.isList (by rw [hl1, hl2, hl]) (by lia) els
      rw [hl1, all_range rfl hl.symm rfl, ← dec_lst] at key key2
      exact ⟨key, key2⟩
    · have key := SeqAt.RcAt.lists_lengths (A := A) (s := s) t1.isList t2.isList (by rw [hl1, hl2]; simpa using hl) (by lia)
      have key2 := SeqAt.RcNeAt.lists_lengths (A := A) (s := s) t1.isList t2.isList (by rw [hl1, hl2]; simpa using hl) (by lia)
      have e : decide (D.lst ds = D.lst es) = false := by
        rw [dec_lst]; exact decide_eq_false fun z => hl (by rw [z])
      rw [e]
      exact ⟨key, key2⟩
end
section
variable {P : Program} {w : World} {K : PySem.W.Frag} {mg : Str → Option Value} {base : Heap} {k : Nat} {N : List Str} {sc : Scope} {bk : Bool} {c : Ctx P w K mg base k N sc bk} {ρ : List Sl} {pos : Pos} {a b : Expr} {R : D → Prop} {T : Bool → Prop}
def rEqD (K : PySem.W.Frag) (neg : Bool) : R2 := fun v u H Q => ∃ x y Hf, Same Hf H ∧ Rep K Hf x v ∧ Rep K Hf y u ∧ EqOk x y ∧ Q (.bl (if neg then !decide (x = y) else decide (x = y))) H
theorem op_eqD : OpR c.X (compareOp .Eq) (rEqD c.X.K false) := fun pins s σ H v u v' u' Q I rv ru ⟨x, y, Hf, sb, rx, ry, ok, q⟩ => by
  rcases ok with h | ⟨ds, es, hk, hi⟩
  · obtain ⟨z1, z2⟩ := scal_of h rx ry
    exact op_eq pins s σ H v u v' u' Q I rv ru ⟨z1, by rw [z2]; exact q⟩
  · exact (rcAt_seq I sb (by have := c.room.un; lia) hk hi rx ry rv ru).1 _ _ _ _ ⟨.bl (decide (x = y)), H, I, rfl, q⟩
theorem op_neD : OpR c.X (compareOp .NotEq) (rEqD c.X.K true) := fun pins s σ H v u v' u' Q I rv ru ⟨x, y, Hf, sb, rx, ry, ok, q⟩ => by
  rcases ok with h | ⟨ds, es, hk, hi⟩
  · obtain ⟨z1, z2⟩ := scal_of h rx ry
    exact op_ne pins s σ H v u v' u' Q I rv ru ⟨z1, by rw [z2]; exact q⟩
  · exact (rcAt_seq I sb (by have := c.room.un; lia) hk hi rx ry rv ru).2 _ _ _ _ ⟨.bl (!decide (x = y)), H, I, rfl, q⟩
theorem cmp_eq {K : PySem.W.Frag} : CmpD K (rEqD K false) fun x y R => EqP x y R := fun x y v u H Hf Q R s rx ry ⟨h1, h2⟩ q => ⟨x, y, Hf, s, rx, ry, h1, q _ h2⟩
theorem cmp_ne {K : PySem.W.Frag} : CmpD K (rEqD K true) fun x y R => EqP x y fun b => R (!b) := fun x y v u H Hf Q R s rx ry ⟨h1, h2⟩ q => ⟨x, y, Hf, s, rx, ry, h1, q _ h2⟩
theorem t_eq (h : EvE c a ρ fun x => EvE c b ρ fun y => EqP x y T) : EvT c (.Compare a [.Eq] [b] pos) ρ T := t_cmp op_eqD cmp_eq h (nomark b)
theorem t_ne (h : EvE c a ρ fun x => EvE c b ρ fun y => EqP x y fun b => T (!b)) : EvT c (.Compare a [.NotEq] [b] pos) ρ T := t_cmp op_neD cmp_ne h (nomark b)
theorem e_eq (h : EvE c a ρ fun x => EvE c b ρ fun y => EqP x y fun b => R (.bl b)) : EvE c (.Compare a [.Eq] [b] pos) ρ R := e_cmp op_eqD cmp_eq h (nomark b)
end
section
variable {P : Program} {w : World} {K : PySem.W.Frag} {mg : Str → Option Value} {base : Heap} {k : Nat} {N : List Str} {sc : Scope} {bk : Bool} {c : Ctx P w K mg base k N sc bk} {ρ : List Sl} {pos : Pos} {a b e : Expr} {es : List Expr} {R : D → Prop} {T : Bool → Prop}
theorem rep_is_non {K : PySem.W.Frag} {H : Hp} : ∀ {d : D} {v : V}, Rep K H d v → decide (v = .non) = decide (d = .non)
  | .non, _, h => by rw [rep_non] at h; subst h; simp
  | .bl _, _, h => by rw [rep_bl] at h; subst h; simp
  | .int _, _, h => by rw [rep_int] at h; subst h; simp
  | .str _, _, h => by rw [rep_str] at h; subst h; simp
  | .tup _, _, h => by rw [rep_tup] at h; obtain ⟨_, _, rfl, _⟩ := h; simp
  | .lst _, _, h => by rw [rep_lst] at h; obtain ⟨_, _, rfl, _⟩ := h; simp
  | .exc _, _, h => by rw [rep_exc] at h; obtain ⟨_, _, rfl, _⟩ := h; simp
  | .fdK _ _, _, h => by rw [rep_fdK] at h; obtain ⟨_, _, _, rfl, _⟩ := h; simp
  | .fdT _ _, _, h => by rw [rep_fdT] at h; obtain ⟨_, _, _, rfl, _⟩ := h; simp
  | .adr _, _, h => by rw [rep_adr'] at h; subst h; simp
def IsN (x : D) (T : Bool → Prop) : Prop := T (decide (x = .non))
theorem isn_t {T : Bool → Prop} (h : T true) : IsN .non T := by unfold IsN; simpa using h
theorem isn_f {x : D} {T : Bool → Prop} (hx : x ≠ .non) (h : T false) : IsN x T := by unfold IsN; rw [decide_eq_false hx]; exact h
theorem t_isN {j : Nat} {p2 : Pos} (h : EvE c a ρ fun x => IsN x T) : EvT c (.Compare a [.Is] [.Constant .none j p2] pos) ρ T := fun σ H Hf Q S q =>
  bT_of (pt_cmp (pc_isN pbE)) (h σ H Hf _ S fun x v H' Hf' hx r g => by
    have e := rep_is_non r
    exact ⟨_, rfl, by rw [e]; exact q _ H' Hf' hx g⟩)
theorem t_notN {j : Nat} {p2 : Pos} (h : EvE c a ρ fun x => IsN x fun b => T (!b)) : EvT c (.Compare a [.IsNot] [.Constant .none j p2] pos) ρ T := fun σ H Hf Q S q =>
  bT_of (pt_cmp (pc_notN pbE)) (h σ H Hf _ S fun x v H' Hf' hx r g => by
    have e := rep_is_non r
    exact ⟨_, rfl, by rw [e]; exact q _ H' Hf' hx g⟩)

/-! ## rows: index, length, slices, + -/
/-- the row that a datum is -/
def D.row : D → Option (List D)
  | .lst ds => some ds
  | .tup ds => some ds
  | _ => none
theorem rep_row {K : PySem.W.Frag} {H : Hp} {d : D} {ds : List D} {v : V} (e : d.row = some ds) (h : Rep K H d v) : ∃ p xs, v = .ref p ∧ Reps K H ds xs ∧ ((d = .lst ds ∧ SqL K H p xs) ∨ (d = .tup ds ∧ SqT K H p xs)) := by
  cases d with
  | lst _ => cases e; rw [rep_lst] at h; obtain ⟨p, xs, rfl, h1, h2⟩ := h; exact ⟨p, xs, rfl, h2, .inl ⟨rfl, h1⟩⟩
  | tup _ => cases e; rw [rep_tup] at h; obtain ⟨p, xs, rfl, h1, h2⟩ := h; exact ⟨p, xs, rfl, h2, .inr ⟨rfl, h1⟩⟩
  | _ => cases e
/-- x[i], in bounds -/
def IxP (x y : D) (R : D → Prop) : Prop := ∃ ds i d, x.row = some ds ∧ y = .int i ∧ atI ds i = some d ∧ R d
theorem ixp_l {ds : List D} {i : Int} {d : D} {R : D → Prop} (h : atI ds i = some d) (hR : R d) : IxP (.lst ds) (.int i) R := ⟨ds, i, d, rfl, rfl, h, hR⟩
theorem ixp_t {ds : List D} {i : Int} {d : D} {R : D → Prop} (h : atI ds i = some d) (hR : R d) : IxP (.tup ds) (.int i) R := ⟨ds, i, d, rfl, rfl, h, hR⟩
theorem atI_reps {K : PySem.W.Frag} {H : Hp} {ds : List D} {xs : List V} {i : Int} {d : D} (h : Reps K H ds xs) (e : atI ds i = some d) : ∃ x, atI xs i = some x ∧ Rep K H d x := by
  unfold atI at e ⊢
  rw [← h.length]
  obtain ⟨j, e1, e2⟩ := Option.bind_eq_some_iff.mp e
  obtain ⟨x, e3, rx⟩ := h.get e2
  exact ⟨x, by rw [e1]; exact e3, rx⟩
theorem e_ix (h : EvE c a ρ fun x => EvE c b ρ fun y => IxP x y R) (hs : PlainIx b := by intro _ _; with_unfolding_all rfl) : EvE c (.Subscript a b pos) ρ R := fun σ H Hf Q S q =>
  bE_of (pe_ix (IxR.or ix_list ix_tup) pbE pbE hs) (h σ H Hf _ S fun x v H1 Hf1 h1 r1 g1 => h1 σ H1 Hf1 _ (S.grw g1) fun y u H2 Hf2 ⟨ds, i, d, e1, e2, e3, hR⟩ r2 g2 => by
    subst e2
    rw [rep_int] at r2; subst r2
    obtain ⟨p, xs, rfl, hr, hk⟩ := rep_row e1 (Rep.mono g2.f x r1)
    obtain ⟨z, ez, rz⟩ := atI_reps hr e3
    have fin := q d z H2 Hf2 hR rz (g1.trans g2)
    rcases hk with ⟨_, hk⟩ | ⟨_, hk⟩
    · exact .inl ⟨p, xs, i, z, rfl, rfl, g2.b.seq hk, ez, fin⟩
    · exact .inr ⟨p, xs, i, z, rfl, rfl, same_tup g2.b hk, ez, fin⟩)
theorem seq_any {K : PySem.W.Frag} {H Hf : Hp} (sb : Same Hf H) {d : D} {ds : List D} {p : Addr} {xs : List V} (h : (d = .lst ds ∧ SqL K Hf p xs) ∨ (d = .tup ds ∧ SqT K Hf p xs)) : SqL K H p xs ∨ SqT K H p xs := h.elim (fun z => .inl (sb.seq z.2)) fun z => .inr (same_tup sb z.2)
theorem calE_len {K : PySem.W.Frag} : CalE K (fun xs H Q => ∃ p ys, xs = [.ref p] ∧ (SqL K H p ys ∨ SqT K H p ys) ∧ Q (.int ys.length) H) (fun ds R => ∃ x, ds = [x] ∧ ∃ ys, x.row = some ys ∧ R (.int ys.length)) := by
  rintro ds vs H Hf Q R s rs ⟨x, rfl, ys, e, hR⟩ q
  obtain ⟨v, rfl, rv⟩ := reps1 rs
  obtain ⟨p, xs, rfl, hr, hk⟩ := rep_row e rv
  exact ⟨p, xs, rfl, seq_any s hk, q _ _ H Hf hR (by rw [hr.length]; exact rep_int.mpr rfl) (.refl s)⟩
theorem e_len {p : Pos} (hm : mg (Str.ofString "len") = none) (h : EvE c e ρ fun x => ∃ ys, x.row = some ys ∧ R (.int ys.length)) (hg : sc.names.lookup (Str.ofString "len") = some .globalImplicit := by with_unfolding_all rfl)
    (he : ∀ env, starEach [e] env = (false, eval e env) :: starEach [] env := by intro _; with_unfolding_all rfl) : EvE c (.Call (.Name (Str.ofString "len") p) [e] [] pos) ρ R :=
  e_blt call_len_seq calE_len hm PySem.boot_len (a_cons (h.imp fun d hd => a_nil ⟨d, rfl, hd⟩) he) hg (by decide) (by decide) he (by intro _; with_unfolding_all rfl)
/-- list(x), tuple(x) -/
theorem x_list {p : Pos} {R : Sl → Prop} (hm : mg (Str.ofString "list") = none) (h : EvE c e ρ fun x => ∃ ys, x.row = some ys ∧ R (.ow ys)) (hg : sc.names.lookup (Str.ofString "list") = some .globalImplicit := by with_unfolding_all rfl)
    (he : ∀ env, starEach [e] env = (false, eval e env) :: starEach [] env := by intro _; with_unfolding_all rfl) : EvX c (.Call (.Name (Str.ofString "list") p) [e] [] pos) ρ R :=
  x_bty call_list_of (q := fun ds R => ∃ x ys, ds = [x] ∧ x.row = some ys ∧ R (.ow ys)) (fun ds vs H Hf Q R s rs ⟨x, ys, e1, e2, hR⟩ q => by
    subst e1
    obtain ⟨v, rfl, rv⟩ := reps1 rs
    obtain ⟨p, xs, rfl, hr, hk⟩ := rep_row e2 rv
    exact ⟨p, xs, rfl, seq_any s hk, fun l hl => by
      have g2 := Grw.newO s hl (o := .lst xs)
      exact q _ _ _ _ hR ⟨l, xs, rfl, hl, upd_same, s.free hl, hr⟩ g2⟩) hm PyProof.Rows.boot_list (a_cons (h.imp fun d ⟨ys, h1, h2⟩ => a_nil ⟨d, ys, rfl, h1, h2⟩) he) hg (by decide) (by decide) he (by intro _; with_unfolding_all rfl)
theorem e_tuple {p : Pos} (hm : mg (Str.ofString "tuple") = none) (h : EvE c e ρ fun x => ∃ ys, x.row = some ys ∧ R (.tup ys)) (hg : sc.names.lookup (Str.ofString "tuple") = some .globalImplicit := by with_unfolding_all rfl)
    (he : ∀ env, starEach [e] env = (false, eval e env) :: starEach [] env := by intro _; with_unfolding_all rfl) : EvE c (.Call (.Name (Str.ofString "tuple") p) [e] [] pos) ρ R :=
  e_bty call_tuple_of (q := fun ds R => ∃ x ys, ds = [x] ∧ x.row = some ys ∧ R (.tup ys)) (fun ds vs H Hf Q R s rs ⟨x, ys, e1, e2, hR⟩ q => by
    subst e1
    obtain ⟨v, rfl, rv⟩ := reps1 rs
    obtain ⟨p, xs, rfl, hr, hk⟩ := rep_row e2 rv
    rcases hk with ⟨_, hk⟩ | ⟨_, hk⟩
    · exact ⟨p, xs, rfl, .inl ⟨s.seq hk, fun l hl => by
        have g2 := Grw.new s hl (o := .tup xs)
        exact q _ _ _ _ hR (rep_tup.mpr ⟨l, xs, rfl, .inl (.inl upd_same), hr.mono g2.f⟩) g2⟩⟩
    · exact ⟨p, xs, rfl, .inr ⟨same_tup s hk, q _ _ H Hf hR (rep_tup.mpr ⟨p, xs, rfl, hk, hr⟩) (.refl s)⟩⟩) hm PyProof.Rows.boot_tuple (a_cons (h.imp fun d ⟨ys, h1, h2⟩ => a_nil ⟨d, ys, rfl, h1, h2⟩) he) hg (by decide) (by decide) he (by intro _; with_unfolding_all rfl)
/-- list + list: a new list -/
def rCatG (K : PySem.W.Frag) : R2 := fun x y H Q => ∃ l b xs zs, x = .ref l ∧ y = .ref b ∧ SqL K H l xs ∧ SqL K H b zs ∧ xs.length + zs.length ≤ sizeLine ∧ ∀ p, H p = none → Q (.ref p) (upd H p (.lst (xs ++ zs)))
theorem op_catG {X : Cx} : OpR X (binaryOp .Add) (rCatG X.K) := by
  intro pins s σ H x y v u Q I rx ry h
  obtain ⟨l, b, xs, zs, rfl, rfl, hH, hB, hz, q⟩ := h
  cases rx
  cases ry
  obtain ⟨its, r, hl, z⟩ := I.list hH
  obtain ⟨its2, r2, hl2, z2⟩ := I.list hB
  have e1 := r.length
  have e2 := r2.length
  obtain ⟨⟨cls, dd, data, sl⟩, n, p1, p2, p3, p4⟩ := hl
  obtain ⟨⟨cls2, dd2, data2, sl2⟩, n', q1, q2, q3, q4⟩ := hl2
  simp only at p2 p3 p4 q2 q3 q4
  subst p2 p3 p4 q2 q3 q4
  have ea : its.toArray ++ its2.toArray = (its ++ its2).toArray := by simp
  refine concat_meets ⟨_, p1, rfl⟩ ⟨_, q1, rfl⟩ noFill_list_add seq_list_add PySem.F.slot_list_add PySem.F.entry_list_add (PySem.F.args_list_add_2 _ _) (list_addW l b its.toArray its2.toArray n n' none none sl sl2 (by simp; lia)) ⟨p1, q1, ?_⟩
  rw [ea]
  exact ⟨.ref _, _, I.lnew (t' := s.toks) (r.append r2) (by rw [List.length_append]; lia), rfl, q _ I.fresh⟩
/-- tuple + tuple, either may be empty -/
def rCatT2 (K : PySem.W.Frag) : R2 := fun x y H Q => ∃ a b xs ys, x = .ref a ∧ y = .ref b ∧ SqT K H a xs ∧ SqT K H b ys ∧ xs.length + ys.length ≤ sizeLine ∧
  (xs = [] → Q (.ref b) H) ∧ (ys = [] → Q (.ref a) H) ∧ ∀ p, H p = none → Q (.ref p) (upd H p (.tup (xs ++ ys)))
theorem op_catT2 {X : Cx} : OpR X (binaryOp .Add) (rCatT2 X.K) := by
  intro pins s σ H x y v u Q I rx ry h
  obtain ⟨t, b, xs, ys, rfl, rfl, hH, hB, hz, c1, c2, q⟩ := h
  cases rx
  cases ry
  obtain ⟨vs, r, ht, z⟩ := I.tuple hH
  obtain ⟨ws, r2, hb, z2⟩ := I.tuple hB
  obtain ⟨⟨cls, dd, data, sl⟩, ho, hc, n, hd⟩ := id ht
  obtain ⟨⟨cls2, dd2, data2, sl2⟩, ho2, hc2, n2, hd2⟩ := id hb
  simp only at hc hd hc2 hd2
  subst hc hd hc2 hd2
  have e : vs.toArray ++ ws.toArray = (vs ++ ws).toArray := by simp
  have e1 := r.length
  have e2 := r2.length
  by_cases hv : vs = []
  · exact concat_meets ⟨_, ho, rfl⟩ ⟨_, ho2, rfl⟩ noFill_tuple_add seq_tuple_add PySem.F.slot_tuple_add PySem.F.entry_tuple_add (PySem.F.args_tuple_add_2 _ _)
      (tuple_addW0 t b vs.toArray ws.toArray n n2 dd dd2 sl sl2 (by simp [hv])) ⟨ho, ho2, ⟨.ref b, H, I, rfl, c1 (by rw [Vals.nil_iff r] at hv; exact hv)⟩⟩
  · by_cases hw : ws = []
    · exact concat_meets ⟨_, ho, rfl⟩ ⟨_, ho2, rfl⟩ noFill_tuple_add seq_tuple_add PySem.F.slot_tuple_add PySem.F.entry_tuple_add (PySem.F.args_tuple_add_2 _ _)
        (tuple_addW1 t b vs.toArray ws.toArray n n2 dd dd2 sl sl2 (by simpa using hv) (by simp [hw])) ⟨ho, ho2, ⟨.ref t, H, I, rfl, c2 (by rw [Vals.nil_iff r2] at hw; exact hw)⟩⟩
    · refine concat_meets ⟨_, ho, rfl⟩ ⟨_, ho2, rfl⟩ noFill_tuple_add seq_tuple_add PySem.F.slot_tuple_add PySem.F.entry_tuple_add (PySem.F.args_tuple_add_2 _ _)
        (tuple_addW2 t b vs.toArray ws.toArray n n2 dd dd2 sl sl2 (by simpa using hv) (by simpa using hw) (by rw [List.size_toArray, List.size_toArray]; lia)) ⟨ho, ho2, ?_⟩
      rw [e]
      refine ⟨.ref s.heap.objs.size, _, I.laid (t' := s.toks) (o := .tup (xs ++ ys)) (fun b ob q => Heap.get?_push_of_some _ q) (Nat.le_refl _) ?_, rfl, q _ (I.hok.fresh (Nat.le_refl _))⟩
      exact ⟨by rw [List.length_append]; exact hz, _, r.append r2, IsTup.new _ _⟩
/-- x + y -/
inductive AddP : D → D → (Sl → Prop) → Prop where
  | int {i j : Int} {R : Sl → Prop} (h : R (.va (.int (i + j)))) : AddP (.int i) (.int j) R
  | lst {ds es : List D} {R : Sl → Prop} (h : Sd (ds.length + es.length ≤ sizeLine) (R (.ow (ds ++ es)))) : AddP (.lst ds) (.lst es) R
  | tup {ds es : List D} {R : Sl → Prop} (h : Sd (ds.length + es.length ≤ sizeLine) (R (.va (.tup (ds ++ es))))) : AddP (.tup ds) (.tup es) R
  | str {x y : Str} {R : Sl → Prop} (h : Sd (x.length + y.length ≤ sizeLine) (R (.va (.str (x ++ y))))) : AddP (.str x) (.str y) R
theorem reps_nil_of {K : PySem.W.Frag} {H : Hp} {ds : List D} (h : Reps K H ds []) : ds = [] := by
  have := h.length; cases ds with
  | nil => rfl
  | cons _ _ => simp at this
theorem opd_add {K : PySem.W.Frag} : OpD K (fun x y H Q => (((rI0 fun i j => V.int (i + j)) x y H Q ∨ rCatG K x y H Q) ∨ rCatT2 K x y H Q) ∨ ∃ i j, x = .str i ∧ y = .str j ∧ i.length + j.length ≤ sizeLine ∧ Q (.str (i ++ j)) H) AddP := by
  rintro x y v u H Hf Q R s rx ry h q
  cases h with
  | @int i j _ h =>
    rw [rep_int] at rx ry
    exact .inl (.inl (.inl ⟨i, j, rx, ry, q (.va (.int (i + j))) _ H Hf h (show Rep K Hf (.int (i + j)) _ from rep_int.mpr rfl) (.refl s)⟩))
  | @lst ds es _ h =>
    rw [rep_lst] at rx ry
    obtain ⟨a, xs, rfl, h1, h2⟩ := rx
    obtain ⟨b, ys, rfl, h3, h4⟩ := ry
    refine .inl (.inl (.inr ⟨a, b, xs, ys, rfl, rfl, s.seq h1, s.seq h3, by rw [← h2.length, ← h4.length]; exact h.s, fun p hp => ?_⟩))
    exact q (.ow (ds ++ es)) _ _ _ h.r ⟨p, xs ++ ys, rfl, hp, upd_same, s.free hp, h2.append h4⟩ (Grw.newO s hp)
  | @tup ds es _ h =>
    rw [rep_tup] at rx ry
    obtain ⟨a, xs, rfl, h1, h2⟩ := rx
    obtain ⟨b, ys, rfl, h3, h4⟩ := ry
    refine .inl (.inr ⟨a, b, xs, ys, rfl, rfl, same_tup s h1, same_tup s h3, by rw [← h2.length, ← h4.length]; exact h.s, fun e => ?_, fun e => ?_, fun p hp => ?_⟩)
    · subst e
      have := reps_nil_of h2
      subst this
      exact q (.va (.tup ([] ++ es))) _ H Hf h.r (show Rep K Hf (.tup ([] ++ es)) _ from rep_tup.mpr ⟨b, ys, rfl, h3, h4⟩) (.refl s)
    · subst e
      have := reps_nil_of h4
      subst this
      exact q (.va (.tup (ds ++ []))) _ H Hf h.r (show Rep K Hf (.tup (ds ++ [])) _ from rep_tup.mpr ⟨a, xs, rfl, h1, by rw [List.append_nil]; exact h2⟩) (.refl s)
    · have g := Grw.new s hp (o := .tup (xs ++ ys))
      exact q (.va (.tup (ds ++ es))) _ _ _ h.r (show Rep K _ (.tup (ds ++ es)) _ from rep_tup.mpr ⟨p, xs ++ ys, rfl, .inl (.inl upd_same), (h2.append h4).mono g.f⟩) g
  | @str x y _ h =>
    rw [rep_str] at rx ry
    exact .inr ⟨x, y, rx, ry, h.s, q (.va (.str (x ++ y))) _ H Hf h.r (show Rep K Hf (.str (x ++ y)) _ from rep_str.mpr rfl) (.refl s)⟩
theorem x_add {R : Sl → Prop} (h : EvE c a ρ fun x => EvE c b ρ fun y => AddP x y R) : EvX c (.BinOp a .Add b pos) ρ R :=
  x_op (OpR.or (OpR.or (OpR.or op_add op_catG) op_catT2) op_add_str) opd_add h

/-! ## slices -/
def cutD {α : Type} (xs : List α) (lo hi : Option Int) : List α := (xs.drop (HT.sIx xs.length 0 lo)).take (HT.sIx xs.length xs.length hi - HT.sIx xs.length 0 lo)
theorem reps_cut {K : PySem.W.Frag} {H : Hp} {ds : List D} {xs : List V} (h : Reps K H ds xs) (lo hi : Option Int) : Reps K H (cutD ds lo hi) (cutV xs lo hi) := by
  unfold cutD cutV
  rw [h.length]
  exact (h.drop _).take _
def bP (X : Cx) (e : Option Expr) : TO := fun σ H Q => ∀ pins s, Inv X pins σ H s → wpAny (model X.prog X.w) X.A (evalPart e X.env) (fun u s' => ∃ o H', Inv X pins σ H' s' ∧ IsPart u o ∧ Q o H') X.xe s
theorem pbP {X : Cx} {e : Option Expr} : PO X e (bP X e) := fun pins s σ H Q I h => h pins s I
def EvP (c : Ctx P w K mg base k N sc bk) (e : Option Expr) (ρ : List Sl) (R : Option Int → Prop) : Prop :=
  ∀ (σ : L2.St) (H Hf : Hp) (Q : Option Int → Hp → Prop), StRep c σ H Hf ρ → (∀ o H' Hf', R o → Grw H Hf H' Hf' → Q o H') → bP c.X e σ H Q
theorem p_none {R : Option Int → Prop} (h : R none) : EvP c none ρ R := fun σ H Hf Q S q pins s I => po_none pins s σ H Q I (q none H Hf h (.refl S.sb))
theorem p_some {R : Option Int → Prop} (h : EvE c e ρ (I1 fun i => R (some i))) : EvP c (some e) ρ R := fun σ H Hf Q S q pins s I =>
  po_some pbE pins s σ H Q I (h σ H Hf _ S fun d v H' Hf' ⟨i, e, hR⟩ r g => by subst e; rw [rep_int] at r; exact ⟨i, r, q _ H' Hf' hR g⟩)
/-- a tuple's slice that is the whole is the tuple itself -/
def rSlTw (K : PySem.W.Frag) : V → Option Int → Option Int → Hp → VK → Prop := fun x lo hi H Q => ∃ a xs, x = .ref a ∧ SqT K H a xs ∧
  (HT.sIx xs.length 0 lo = 0 ∧ HT.sIx xs.length xs.length hi = xs.length) ∧ Q (.ref a) H
theorem getItem_tuple_whole {prog : Program} {w : World} {A : Around} {E : Value → Shared → Prop} {s : Shared} {t sl : Addr} {items : Array Value} {vl vu : Value} {lo hi : Option Int} {Q : Value → Shared → Prop} (ht : IsTup s.heap t items) (hs : s.heap.IsSliceOf sl vl vu .none) (pl : IsPart vl lo) (pu : IsPart vu hi)
    (hw : HT.sIx items.size 0 lo = 0 ∧ HT.sIx items.size items.size hi = items.size) (h : Q (.ref t) s) : wpAny (model prog w) A (getItem (.ref t) (.ref sl)) Q E s := by
  obtain ⟨os, hos, hcs, hds⟩ := id hs
  have hTs : s.TypeIs (.ref sl) "slice" := ⟨os, hos, hcs⟩
  unfold getItem
  try with_reducible refine wpAny_holding ?_
  first | refine wpAny_bind (wpAny_pure ?_) | skip
  refine wpAny_bind (wpAny_sequenceKey ht.typeIs (by decide) ?_)
  refine wpAny_bind (wpAny_callSpecial?_slot (name := Str.ofString "__getitem__") ht.typeIs PyProof.Rows.slot_tuple_getitem
    (wpAny_call_entry PyProof.Rows.slot_tuple_getitem ht.typeIs entry_tuple_getitem ?_ (args_tuple_getitem _ _)))
  show wpAny _ _ (Builtin.Tuple.tupleItemsOf (.ref t) >>= _) _ _ s
  refine wpAny_bind (tupleItemsOf_ ht ?_)
  refine wpAny_bind (wpAny_typeOf hTs ?_)
  rw [if_pos (by decide)]
  refine wpAny_bind (HT.sliceApplied_gen hs pl pu ?_)
  have hyes : ((((HT.sIx items.size 0 lo : Nat) : Int) == 0 && (1 : Int) == 1 && (HT.sIx items.size items.size hi - HT.sIx items.size 0 lo) == items.size) = true) := by
    rw [hw.1, hw.2]; simp
  show wpAny _ _ (if (((HT.sIx items.size 0 lo : Nat) : Int) == 0 && (1 : Int) == 1 && (HT.sIx items.size items.size hi - HT.sIx items.size 0 lo) == items.size) = true then _ else _) _ _ s
  rw [if_pos hyes]
  obtain ⟨⟨cls, dd, data, sl'⟩, ho, hc, n, hd⟩ := id ht
  simp only at hc hd
  subst hc hd
  unfold Builtin.Tuple.tupleIsExact
  wp_walk using AutoSeq1.wpAny_loadPart' ho
  exact ⟨_, rfl, wpAny_pure h⟩
theorem sl_tup_w {X : Cx} : SlR X (rSlTw X.K) := by
  intro pins s σ H x v vl vu lo hi sl Q I rx hs pl pu h
  obtain ⟨a, xs, rfl, hx, hw, q⟩ := h
  cases rx
  obtain ⟨its, r, ht, hz⟩ := I.tuple hx
  have hlen : its.toArray.size = xs.length := by rw [List.size_toArray]; exact r.length.symm
  refine ⟨"tuple", _, PyProof.Rows.slot_tuple_getitem.lookup, ht.typeIs, ?_⟩
  exact getItem_tuple_whole ht hs pl pu (by rw [hlen]; exact hw) ⟨.ref a, H, I, rfl, q⟩
/-- x[lo:hi] -/
inductive SlP : D → Option Int → Option Int → (Sl → Prop) → Prop where
  | lst {ds : List D} {lo hi : Option Int} {R : Sl → Prop} (h : R (.ow (cutD ds lo hi))) : SlP (.lst ds) lo hi R
  | tup {ds : List D} {lo hi : Option Int} {R : Sl → Prop} (h : R (.va (.tup (cutD ds lo hi)))) : SlP (.tup ds) lo hi R
theorem cut_whole {α : Type} {xs : List α} {lo hi : Option Int} (h : HT.sIx xs.length 0 lo = 0 ∧ HT.sIx xs.length xs.length hi = xs.length) : cutD xs lo hi = xs := by
  unfold cutD; rw [h.1, h.2]; simp
theorem x_slice {lo hi : Option Expr} {p2 : Pos} {R : Sl → Prop} (h : EvE c e ρ fun x => EvP c lo ρ fun l => EvP c hi ρ fun u => SlP x l u R) : EvX c (.Subscript e (.Slice lo hi none p2) pos) ρ R := fun σ H Hf Q S q =>
  bE_of (pe_slice (SlR.or (SlR.or sl_list sl_tup) sl_tup_w) pbE pbP pbP) (h σ H Hf _ S fun x v H1 Hf1 h1 r1 g1 => h1 σ H1 Hf1 _ (S.grw g1) fun l H2 Hf2 h2 g2 => h2 σ H2 Hf2 _ (S.grw (g1.trans g2)) fun u H3 Hf3 h3 g3 => by
    have r3 := Rep.mono g3.f x (Rep.mono g2.f x r1)
    have g := (g1.trans g2).trans g3
    cases h3 with
    | lst h =>
      rw [rep_lst] at r3
      obtain ⟨a, xs, rfl, k1, k2⟩ := r3
      refine .inl (.inl ⟨a, xs, rfl, g3.b.seq k1, fun p hp => ?_⟩)
      exact q _ _ _ _ h ⟨p, _, rfl, g.s.free hp, upd_same, g3.b.free hp, reps_cut k2 l u⟩ (g.trans (Grw.newO g3.b hp))
    | tup h =>
      rw [rep_tup] at r3
      obtain ⟨a, xs, rfl, k1, k2⟩ := r3
      by_cases hw : HT.sIx xs.length 0 l = 0 ∧ HT.sIx xs.length xs.length u = xs.length
      · refine .inr ⟨a, xs, rfl, same_tup g3.b k1, hw, ?_⟩
        refine q _ _ _ _ h (show Rep c.X.K Hf3 _ _ from rep_tup.mpr ⟨a, xs, rfl, k1, ?_⟩) g
        rw [cut_whole (by rw [k2.length]; exact hw)]; exact k2
      · refine .inl (.inr ⟨a, xs, rfl, same_tup g3.b k1, hw, fun p hp => ?_⟩)
        have g4 := Grw.new g3.b hp (o := .tup (cutV xs l u))
        exact q _ _ _ _ h (show Rep c.X.K _ _ _ from rep_tup.mpr ⟨p, _, rfl, .inl (.inl upd_same), (reps_cut k2 l u).mono g4.f⟩) (g.trans g4))
theorem grw_re {H₀ Hf₀ H1 Hf1 H Hf : Hp} (a : Grw H₀ Hf₀ H1 Hf1) (b : Grw H₀ Hf1 H Hf) : Grw H₀ Hf₀ H Hf :=
  ⟨b.s, a.f.trans b.f, b.b, fun c h1 h2 h3 => b.n c (a.n c h1 h2 h3) h2 h3⟩
theorem StR.re {K : PySem.W.Frag} {H₀ Hf₀ H1 Hf1 H Hf : Hp} {σ : L2.St} {ρ : List Sl} (a : Grw H₀ Hf₀ H1 Hf1) (S : StR K H₀ Hf1 σ H Hf ρ) : StR K H₀ Hf₀ σ H Hf ρ := ⟨grw_re a S.bas, S.len, S.at_, S.sep⟩
theorem StR.anew {K : PySem.W.Frag} {H₀ Hf₀ H Hf : Hp} {σ : L2.St} {ρ : List Sl} (S : StR K H₀ Hf₀ σ H Hf ρ) : StR K H₀ Hf σ H Hf ρ := ⟨⟨S.bas.s, .refl _, S.bas.b, fun _ h _ _ => h⟩, S.len, S.at_, S.sep⟩
def Ctx.at_ (c : Ctx P w K mg base k N sc bk) {H1 Hf1 : Hp} (a : Grw c.B c.Hf H1 Hf1) : Ctx P w K mg base k N sc bk :=
  { X := c.X, eP := c.eP, ew := c.ew, eK := c.eK, emg := c.emg, eb := c.eb, eN := c.eN, esc := c.esc, calm := c.calm, top := c.top, cb := c.cb, fn := c.fn, room := c.room, nd := c.nd, vis := c.vis, B := c.B, Hf := Hf1, RX := c.RX, RM := c.RM,
    exc := fun C x pins σ H Hf' ρ s H' s' I S h X sm => c.exc C x pins σ H Hf' ρ s H' s' I (S.re a) h X sm, mde := fun C x pins σ H Hf' ρ s h' us I S h hx => c.mde C x pins σ H Hf' ρ s h' us I (S.re a) h hx }
theorem PtOk.at_ {nx : List Sl → Prop} {p : Pt} {D : Ends} {H1 Hf1 : Hp} (a : Grw c.B c.Hf H1 Hf1) (o : PtOk c nx p D) : PtOk (c.at_ a) nx p D :=
  ⟨fun σ H Hf ρ S q => o.nx σ H Hf ρ (StR.re a S) q, fun r v H Hf g rv q => o.rt r v H Hf (grw_re a g) rv q, fun σ H Hf ρ S q => o.bk σ H Hf ρ (StR.re a S) q, fun σ H Hf ρ S q => o.ct σ H Hf ρ (StR.re a S) q⟩

/-! ## what a loop walks -/
def bI (X : Cx) (tg iter : Expr) : TI := fun σ H R => ∀ pins s, Inv X pins σ H s → wpAny (model X.prog X.w) X.A (eval iter X.env) (fun v s1 => wpAny (model X.prog X.w) X.A (pyIter v) (PIE X pins σ tg R) X.xe s1) X.xe s
theorem pbI {X : Cx} {tg iter : Expr} : PI X tg iter (bI X tg iter) := fun pins s σ H R I h => h pins s I
/-- the data that an iterator yields, one after another -/
structure ItOk (K : PySem.W.Frag) (J : It) (ds : List D) (Hf₀ : Hp) : Prop where
  go : ∀ i d H Hf, Same Hf₀ Hf → Same Hf H → ds[i]? = some d → J.go i H ∧ ∀ x H', J.yld i H x H' → ∃ Hf', Grw H Hf H' Hf' ∧ Rep K Hf' d x
  stop : ∀ i H Hf, Same Hf₀ Hf → Same Hf H → ds.length ≤ i → J.stop i H
def EvI (c : Ctx P w K mg base k N sc bk) (tg iter : Expr) (ρ : List Sl) (R : List D → Prop) : Prop :=
  ∀ (σ : L2.St) (H Hf : Hp) (Q : It → Hp → Prop), StRep c σ H Hf ρ → (∀ ds J H' Hf', R ds → Grw H Hf H' Hf' → ItOk c.X.K J ds Hf' → Q J H') → bI c.X tg iter σ H Q
theorem itok_list {K : PySem.W.Frag} {ds : List D} {xs : List V} {p : Addr} {Hf₀ : Hp} (h : SqL K Hf₀ p xs) (r : Reps K Hf₀ ds xs) : ItOk K (Itl K p) ds Hf₀ where
  go := fun i d H Hf s1 s2 e => by
    obtain ⟨x, ex, rx⟩ := r.get e
    refine ⟨⟨xs, x, (s1.trans s2).seq h, ex⟩, fun y H' ⟨e1, e2⟩ => ?_⟩
    subst e1
    have := e2 xs ((s1.trans s2).seq h)
    rw [ex] at this; cases this
    exact ⟨Hf, .refl s2, Rep.mono s1 d rx⟩
  stop := fun i H Hf s1 s2 e => ⟨xs, (s1.trans s2).seq h, by rw [← r.length]; exact e⟩
theorem itok_tup {K : PySem.W.Frag} {ds : List D} {xs : List V} {p : Addr} {Hf₀ : Hp} (h : SqT K Hf₀ p xs) (r : Reps K Hf₀ ds xs) : ItOk K (Itt K p) ds Hf₀ where
  go := fun i d H Hf s1 s2 e => by
    obtain ⟨x, ex, rx⟩ := r.get e
    refine ⟨⟨xs, x, same_tup (s1.trans s2) h, ex⟩, fun y H' ⟨e1, e2⟩ => ?_⟩
    subst e1
    have := e2 xs (same_tup (s1.trans s2) h)
    rw [ex] at this; cases this
    exact ⟨Hf, .refl s2, Rep.mono s1 d rx⟩
  stop := fun i H Hf s1 s2 e => ⟨xs, same_tup (s1.trans s2) h, by rw [← r.length]; exact e⟩
def iSeq (K : PySem.W.Frag) (tl : TE) : TI := fun σ H R => tl σ H fun x H1 => ∃ a, x = .ref a ∧ (((∃ xs, SqL K H1 a xs) ∧ R (Itl K a) H1) ∨ ((∃ xs, SqT K H1 a xs) ∧ R (Itt K a) H1))
theorem pi_seq {X : Cx} {tg l : Expr} {tl : TE} (hl : PE X l tl) : PI X tg l (iSeq X.K tl) := by
  intro pins s σ H R I h
  refine thn (hl pins s σ H _ I h) fun v s1 ⟨x, H1, I1, r1, q1⟩ => ?_
  obtain ⟨a, e, h⟩ := q1
  subst e
  cases r1
  rcases h with ⟨⟨xs, hq⟩, q⟩ | ⟨⟨xs, hq⟩, q⟩
  · obtain ⟨its, rv, p, hz⟩ := I1.list hq
    refine wpAny_pyIter_list p.isList ?_
    refine ⟨s1.heap.objs.size, [s1.heap.objs.size], _, _, H1, rfl, I1.kept (t' := s1.toks) fun b o e => Heap.get?_push_of_some _ e, turn_list a _, ⟨_, Heap.get?_push_size _ rfl, rfl, rfl⟩, fun b hb => ?_, q⟩
    have e : b = s1.heap.objs.size := by simpa using hb
    subst e
    exact I1.fpOk (Nat.le_refl _) (I1.hok.fresh (Nat.le_refl _))
  · obtain ⟨its, rv, p, hz⟩ := I1.tuple hq
    refine wpAny_pyIter_tuple (show s1.heap.IsTuple a its.toArray from p) ?_
    refine ⟨s1.heap.objs.size, [s1.heap.objs.size], _, _, H1, rfl, I1.kept (t' := s1.toks) fun b o e => Heap.get?_push_of_some _ e, turn_tuple a _, ⟨_, Heap.get?_push_size _ rfl, rfl, rfl⟩, fun b hb => ?_, q⟩
    have e : b = s1.heap.objs.size := by simpa using hb
    subst e
    exact I1.fpOk (Nat.le_refl _) (I1.hok.fresh (Nat.le_refl _))
/-- over a list or a tuple -/
theorem i_seq {tg : Expr} {R : List D → Prop} (h : EvE c e ρ fun d => ∃ ds, d.row = some ds ∧ R ds) : EvI c tg e ρ R := fun σ H Hf Q S q pins s I =>
  pi_seq pbE pins s σ H Q I (h σ H Hf _ S fun d v H' Hf' ⟨ds, er, hR⟩ r g => by
    obtain ⟨p, xs, rfl, hr, hk⟩ := rep_row er r
    refine ⟨p, rfl, ?_⟩
    rcases hk with ⟨_, hk⟩ | ⟨_, hk⟩
    · exact .inl ⟨⟨xs, g.b.seq hk⟩, q ds _ H' Hf' hR g (itok_list hk hr)⟩
    · exact .inr ⟨⟨xs, same_tup g.b hk⟩, q ds _ H' Hf' hR g (itok_tup hk hr)⟩)
/-- lo, lo + 1, .. -/
def rngD (lo : Int) (n : Nat) : List D := (List.range n).map fun (i : Nat) => D.int (lo + (i : Int))
theorem itok_rng {K : PySem.W.Frag} {lo : Int} {n : Nat} {Hf₀ : Hp} : ItOk K (Itr lo n) (rngD lo n) Hf₀ where
  go := fun i d H Hf s1 s2 e => by
    unfold rngD at e
    rw [List.getElem?_map] at e
    obtain ⟨j, e1, e2⟩ := Option.map_eq_some_iff.mp e
    have hi : i < n := by
      have := (List.getElem?_eq_some_iff.mp e1).1
      simpa using this
    have : j = i := by
      rw [List.getElem?_range hi] at e1; cases e1; rfl
    subst this
    refine ⟨hi, fun x H' ⟨e3, e4⟩ => ?_⟩
    subst e3 e4 e2
    exact ⟨Hf, .refl s2, rep_int.mpr rfl⟩
  stop := fun i H Hf s1 s2 e => by
    show n ≤ i
    simpa [rngD] using e
def RngOk (i : Int) : Prop := -(2 ^ 62) ≤ i ∧ i < 2 ^ 62
theorem i_range1 {tg : Expr} {p : Pos} {R : List D → Prop} (hm : mg (Str.ofString "range") = none) (h : EvE c e ρ (I1 fun j => Sd (RngOk j) (R (rngD 0 j.toNat)))) (hg : sc.names.lookup (Str.ofString "range") = some .globalImplicit := by with_unfolding_all rfl)
    (hs : ∀ env, starEach [e] env = (false, eval e env) :: starEach [] env := by intro _; with_unfolding_all rfl) : EvI c tg (.Call (.Name (Str.ofString "range") p) [e] [] pos) ρ R := fun σ H Hf Q S q pins s I =>
  pi_range1 (by unfold Gl Env.kindOf; rw [c.esc]; exact hg) (by rw [c.emg]; exact hm) (pa_cons pbE pa_nil (hs _)) (hs _) pins s σ H Q I (h σ H Hf _ S fun d v H' Hf' ⟨j, ed, ⟨hj, hR⟩⟩ r g => by
    subst ed; rw [rep_int] at r; subst r
    exact ⟨j, rfl, hj.1, hj.2, q _ _ H' Hf' hR g itok_rng⟩)
theorem i_range2 {tg : Expr} {p : Pos} {R : List D → Prop} (hm : mg (Str.ofString "range") = none) (h : EvE c a ρ fun x => EvE c b ρ fun y => I2 (fun i j => Sd (RngOk i) (Sd (RngOk j) (R (rngD i (j - i).toNat)))) x y) (hg : sc.names.lookup (Str.ofString "range") = some .globalImplicit := by with_unfolding_all rfl)
    (hs : ∀ env, starEach [a, b] env = (false, eval a env) :: starEach [b] env := by intro _; with_unfolding_all rfl) (hs2 : ∀ env, starEach [b] env = (false, eval b env) :: starEach [] env := by intro _; with_unfolding_all rfl) : EvI c tg (.Call (.Name (Str.ofString "range") p) [a, b] [] pos) ρ R := fun σ H Hf Q S q pins s I =>
  pi_range2 (by unfold Gl Env.kindOf; rw [c.esc]; exact hg) (by rw [c.emg]; exact hm) (pa_cons pbE (pa_cons pbE pa_nil (hs2 _)) (hs _)) (hs := by rw [hs, hs2]; rfl) (hs2 := by rw [hs2]; rfl) pins s σ H Q I
    (h σ H Hf _ S fun x v1 H1 Hf1 h1 r1 g1 => h1 σ H1 Hf1 _ (S.grw g1) fun y v2 H2 Hf2 ⟨i, j, e1, e2, ⟨hi, ⟨hj, hR⟩⟩⟩ r2 g2 => by
      subst e1 e2; rw [rep_int] at r1 r2; subst r1 r2
      exact ⟨i, j, rfl, ⟨hi.1, hi.2, hj.1, hj.2⟩, q _ _ H2 Hf2 hR (g1.trans g2) itok_rng⟩)

/-! ## for -/
theorem s_for {tg iter : Expr} {body : List Stmt} {nx : List Sl → Prop} {p : Pt} (hq : c.X.xe = fun _ _ => False)
    (h : EvI c tg iter ρ fun ds => ∃ I : Nat → List Sl → Prop, I 0 ρ ∧
      (∀ c' : Ctx P w K mg base k N sc bk, c'.X = c.X → c'.RX = c.RX → c'.RM = c.RM → ∀ i d ρ', ds[i]? = some d → I i ρ' → EvG c' tg d ρ' fun ρ'' => EvSs c' body ρ'' (I (i + 1)) { rt := p.rt, bk := nx, ct := I (i + 1) }) ∧ ∀ ρ', I ds.length ρ' → nx ρ')
    (hs : ∀ env x, foldedSetIterable iter env x = pure x := by intro _ _; with_unfolding_all rfl) : EvS c (.For tg iter body [] pos) ρ nx p := fun σ H Hf D S o =>
  bS_of (ps_for (by rw [hq]; exact PassesOwn.never) c.calm pbI pbG pbSs (hs _)) (h σ H Hf _ S fun ds J H1 Hf1 ⟨I, h0, hb, he⟩ g io => by
    have S1 := S.grw g
    have gb : Grw c.B c.Hf H1 Hf1 := S1.bas
    refine ⟨fun i m σ H => m = ds.length - i ∧ i ≤ ds.length ∧ ∃ Hf ρ', StRep (c.at_ gb) σ H Hf ρ' ∧ I i ρ', ⟨_, rfl, Nat.zero_le _, Hf1, ρ, S1.anew, h0⟩, ?_⟩
    rintro i m σ H ⟨rfl, hi, Hf, ρ', S', hI⟩
    by_cases hlt : i < ds.length
    · have ed : ds[i]? = some ds[i] := List.getElem?_eq_getElem hlt
      obtain ⟨hgo, hy⟩ := io.go i _ H Hf S'.bas.f S'.bas.b ed
      refine .inr ⟨hgo, fun σ' H' => ∃ Hf' ρ'', StRep (c.at_ gb) σ' H' Hf' ρ'' ∧ I (i + 1) ρ'', fun σ' H' ⟨Hf', ρ'', S'', hI'⟩ => ⟨_, by omega, rfl, hlt, Hf', ρ'', S'', hI'⟩, fun x H' hx => ?_⟩
      obtain ⟨Hf', g', rx⟩ := hy x H' hx
      refine hb (c.at_ gb) rfl rfl rfl i _ ρ' ed hI σ H' Hf' x _ (S'.grw g') rx fun σ2 H2 Hf2 ρ2 S2 _ hbody => ?_
      exact hbody σ2 H2 Hf2 _ S2 ⟨fun σ H Hf ρ S q => ⟨Hf, ρ, S, q⟩, (o.at_ gb).rt, fun σ H Hf ρ S q => (o.at_ gb).nx σ H Hf ρ S q, fun σ H Hf ρ S q => ⟨Hf, ρ, S, q⟩⟩
    · have e : i = ds.length := by omega
      subst e
      exact .inl ⟨io.stop _ H Hf S'.bas.f S'.bas.b (Nat.le_refl _), (o.at_ gb).nx σ H Hf ρ' S' (he ρ' hI)⟩)
end

/-! ## an exception is caught -/
section
variable {X : Cx} {pins : List (Addr × Obj)} {σ : L2.St} {H1 H' : Hp} {s1 s' : Shared} {a C t : Addr} {B h6 : Heap}
theorem inv_caught (I : Inv X pins σ H1 s1) (htop : X.stack = X.env :: X.outer ∧ X.env.frame = some X.env.locals ∧ X.ex = []) (hfn : ∀ x c, X.env.cells.lookup x = some c → X.s₀.heap.objs.size ≤ c)
    (os : s'.os = s1.os) (bare : AllBare s'.gens) (un : Un (frs X.stack) [] H1 H' s1.heap s'.heap) (hok : HOk X.prog X.w H' s'.heap) (new : s1.heap.get? a = none) (free : H' a = none)
    (fl : Heap.FlyingW B X.stack a (.ref C) (.ref t) h6) (cov : ∀ b o, s1.heap.get? b = some o → b ∉ frs X.stack → ∃ o', s'.heap.get? b = some o' ∧ B.get? b = some o') (tr : ∀ b o, H' b ≠ none → s'.heap.get? b = some o → B.get? b = some o)
    (up : s'.heap.UpToSlots h6) {dx : Addr} (dc : DctAt a (some dx) { s' with heap := h6 }) : Inv X pins σ (upd H' a (.ext (excP a C dx))) { s' with heap := h6 } := by
  have nst : ∀ b, b ≠ X.env.locals → b ∉ X.fs → b ∉ frs X.stack := fun b h1 h2 m => by
    rcases List.mem_cons.mp (I.stkSub b m) with q | q
    · exact h1 q
    · exact h2 q
  -- what is kept to here
  have keep : ∀ b o, s1.heap.get? b = some o → H1 b = none → b ∉ frs X.stack → h6.get? b = some o := fun b o e n hb => by
    have e2 := un.keep b o e n hb (by intro z; cases z)
    obtain ⟨o', e3, e4⟩ := cov b o e hb
    rw [e2] at e3; cases e3
    exact fl.1 b o e4
  have slot : ∀ b o, s1.heap.get? b = some o → H1 b = none → b ∈ frs X.stack → ∃ sl, h6.get? b = some { o with slots := sl } := fun b o e n hb => by
    obtain ⟨sl, e2⟩ := un.slot b o e n hb (by intro z; cases z)
    obtain ⟨_, o3, e3, nf⟩ := fl.2.2.1.mem hb
    obtain ⟨_, o4, e4, nf4⟩ := I.stack.mem hb
    rw [e] at e4; cases e4
    obtain ⟨sl2, e5⟩ := up b _ e2 nf4
    exact ⟨sl2, e5⟩
  have there : ∀ b o, s1.heap.get? b = some o → ∃ o', h6.get? b = some o' := fun b o e => by
    by_cases hb : b ∈ frs X.stack
    · obtain ⟨sl, q⟩ := slot b o e (I.stkFree b hb) hb
      exact ⟨_, q⟩
    · obtain ⟨o', e3, e4⟩ := cov b o e hb
      exact ⟨o', fl.1 b o' e4⟩
  have nea : ∀ b o, s1.heap.get? b = some o → b ≠ a := fun b o e z => by subst z; rw [new] at e; cases e
  have fr' : ∀ b o, s1.heap.get? b = some o → H1 b = none → (upd H' a (.ext (excP a C dx))) b = none := fun b o e n => by
    rw [upd_ne (nea b o e)]; exact un.free b o e n (by intro z; cases z)
  have old : ∀ b o, X.s₀.heap.get? b = some o → b ∉ X.ex → ∃ o', s1.heap.get? b = some o' := fun b o e hx => I.base.there b o e hx
  have nloc : ∀ b o, X.s₀.heap.get? b = some o → b ≠ X.env.locals := fun b o e z => by
    subst z
    exact absurd (Heap.lt_size e) (Nat.not_lt.mpr I.ok.above)
  have hlocal : X.env.locals ∈ frs X.stack := by rw [htop.1]; exact List.mem_filterMap.mpr ⟨_, .head _, htop.2.1⟩
  have fs_old : ∀ b ∈ X.fs, ∃ o, X.s₀.heap.get? b = some o := fun b hb => by
    obtain ⟨_, o, e, _⟩ := I.ok.funs.mem hb
    exact ⟨o, e⟩
  have cellok : ∀ x c v, X.env.cells.lookup x = some c → s1.heap.IsCell c v → h6.IsCell c v := fun x c v hc ⟨o, e, d⟩ => by
    refine ⟨o, keep c o e (I.freeC x c hc) (nst c (I.cne x c hc) fun m => ?_), d⟩
    obtain ⟨o', e'⟩ := fs_old c m
    exact absurd (Heap.lt_size e') (Nat.not_lt.mpr (hfn x c hc))
  refine ⟨I.ok, os.trans I.os, bare, ⟨fun b o e n hb hx => ?_, fun b o e n hb hx => ?_, fun b o e n hx => ?_, fun b o e hx => ?_, fun b xs q => ?_, fun b o u q => ?_, fun b ps q => ?_⟩, ?_, fun x c hc => ?_, ?_, fun x c hc => ?_, fun p hp => ?_, fun b o q => ?_, I.len⟩
  · exact keep b o (I.base.keep b o e n hb hx) (I.base.free b o e n hx) (nst b (nloc b o e) hb)
  · obtain ⟨sl, e1⟩ := I.base.slot b o e n hb hx
    have hm : b ∈ frs X.stack := by
      rw [htop.1]
      obtain ⟨e', he, hf⟩ := List.mem_filterMap.mp hb
      exact List.mem_filterMap.mpr ⟨e', List.mem_cons_of_mem _ he, hf⟩
    obtain ⟨sl2, e2⟩ := slot b _ e1 (I.base.free b o e n hx) hm
    exact ⟨sl2, e2⟩
  · obtain ⟨o', e1⟩ := old b o e hx
    exact fr' b o' e1 (I.base.free b o e n hx)
  · obtain ⟨o', e1⟩ := old b o e hx
    exact there b o' e1
  · have q2 := un.tups b xs (I.base.tups b xs q)
    rw [upd_ne (ne_of_none q2 free)]; exact q2
  · have q2 := un.frzs b o u (I.base.frzs b o u q)
    rw [upd_ne (ne_of_none q2 free)]; exact q2
  · obtain ⟨m1, e1⟩ := I.base.tbls b ps q
    obtain ⟨m2, e2⟩ := un.tbls b _ e1
    exact ⟨m1 ++ m2, by rw [upd_ne (ne_of_none e2 free), e2, Array.append_assoc]⟩
  · obtain ⟨m, hns, hl⟩ := I.loc
    have hns' : h6.Ns X.env.locals m := by
      obtain ⟨o, es, ep, ho, hd, hk, hm⟩ := hns
      obtain ⟨sl, e⟩ := slot _ o ho I.free hlocal
      exact ⟨_, es, ep, e, hd, hk, hm⟩
    refine ⟨m, hns', fun i x v h1 h2 h3 => ?_⟩
    obtain ⟨u, r, lk⟩ := hl i x v h1 h2 h3
    refine ⟨u, r, ?_⟩
    rcases lk with ⟨k1, k2⟩ | ⟨k1, c, k2, k3⟩
    · exact .inl ⟨k1, k2⟩
    · exact .inr ⟨k1, c, k2, cellok x c _ k2 k3⟩
  · obtain ⟨v, hv⟩ := I.cell x c hc
    exact ⟨v, cellok x c v hc hv⟩
  · obtain ⟨o, es, ep, ho, _⟩ := (show ∃ m, s1.heap.Ns X.env.locals m from let ⟨m, h, _⟩ := I.loc; ⟨m, h⟩).choose_spec
    exact fr' _ o ho I.free
  · obtain ⟨v, o, e, d⟩ := I.cell x c hc
    exact fr' c o e (I.freeC x c hc)
  · obtain ⟨p1, p2, p3, p4, p5⟩ := I.pin p hp
    exact ⟨keep p.1 p.2 p1 p2 (nst p.1 p3 p4), fr' p.1 p.2 p1 p2, p3, p4, p5⟩
  · by_cases hb : b = a
    · subst hb
      rw [upd_same] at q; cases q
      obtain ⟨oe, vs, k1, k2, k3, _⟩ := fl.first
      obtain ⟨od, d1, d2⟩ := dc
      have d1 : h6.get? b = some od := d1
      rw [k1] at d1; cases d1
      exact ⟨⟨oe, k1, k2, d2, vs, k3⟩, ⟨oe, k1⟩, fun h1 h2 ⟨o, z1, z2, z3⟩ k => ⟨o, k o z1, z2, z3⟩⟩
    · rw [upd_ne hb] at q
      have ht : ∀ b o, H' b ≠ none → s'.heap.get? b = some o → h6.get? b = some o := fun b o hn e => fl.1 b o (tr b o hn e)
      refine (hok b o q).stay (fun c u hc e => ?_) (fun c r => by rw [upd_ne (ne_of_none r free)]; exact r) fun c xs r => by rw [upd_ne (ne_of_none r free)]; exact r
      rcases hc with rfl | hc
      · exact ht _ _ (by rw [q]; simp) e
      · exact ht _ _ (by rw [hc]; simp) e
end
section
variable {X : Cx} {pins : List (Addr × Obj)} {σ : L2.St} {H : Hp} {s : Shared}
theorem goes_ok {M : Model} {A : Around} {E : Value → Shared → Prop} {i : Nat} {n : Str} {pos : Pos} {Q : Unit → Shared → Prop} (I : Inv X pins σ H s) (hN : X.N.Nodup) (hi : X.N[i]? = some n) (hk : X.env.scope.names.lookup n = some .local)
    (h : ∀ s', Inv X pins (σ.set i none) H s' → Q () s') : wpAny M A (do bindName X.env n .none; unbindBehindTheSuite X.env n pos) Q E s := by
  obtain ⟨m, hn, hl⟩ := id I.loc
  have hcls : (X.env.scope.kind == .class || (X.env.scope.kind == .module && X.env.locals != X.env.globals)) = false := by rw [I.ok.kind]; rfl
  have cne := I.cne
  refine wpAny_nameGoes_keeps hk hn hcls fun h' v hn' hs => ?_
  obtain ⟨oL, _, _, hoL, _⟩ := id hn
  refine h _ ⟨I.ok, I.os, I.bare, ⟨fun b o e n hb hx => ?_, fun b o e n hb hx => ?_, I.base.free, fun b o e hx => ?_, I.base.tups, I.base.frzs, I.base.tbls⟩, ⟨_, hn', fun j y v' e1 e2 e3 => ?_⟩, fun y c e => ?_, I.free, I.freeC, fun p hp => ?_, fun b ob e => ?_, by simpa using I.len⟩
  · exact (hs.2 b (Nat.ne_of_lt (Nat.lt_of_lt_of_le (Heap.lt_size e) I.ok.above))).trans (I.base.keep b o e n hb hx)
  · obtain ⟨sl, e1⟩ := I.base.slot b o e n hb hx
    exact ⟨sl, (hs.2 b (Nat.ne_of_lt (Nat.lt_of_lt_of_le (Heap.lt_size e) I.ok.above))).trans e1⟩
  · obtain ⟨o', e1⟩ := I.base.there b o e hx
    exact ⟨o', (hs.2 b (Nat.ne_of_lt (Nat.lt_of_lt_of_le (Heap.lt_size e) I.ok.above))).trans e1⟩
  · by_cases hj : j = i
    · subst hj
      have hiσ : j < σ.length := by rw [I.len]; exact (List.getElem?_eq_some_iff.mp hi).1
      rw [List.getElem?_set_self hiσ] at e2
      cases e2
    · rw [List.getElem?_set_ne (Ne.symm hj)] at e2
      obtain ⟨u', r', q⟩ := hl j y v' e1 e2 e3
      refine ⟨u', r', ?_⟩
      rcases q with ⟨k, e⟩ | ⟨k, c, e, z⟩
      · refine .inl ⟨k, ?_⟩
        have : y ≠ n := fun e => hj (nodup_ix hN e1 (e ▸ hi))
        simp [this, e]
      · exact .inr ⟨k, c, e, z.sameBut hs (cne y c e)⟩
  · obtain ⟨w', z⟩ := I.cell y c e
    exact ⟨w', z.sameBut hs (cne y c e)⟩
  · obtain ⟨e, n, ne, nf, d⟩ := I.pin p hp
    exact ⟨(hs.2 p.1 ne).trans e, n, ne, nf, d⟩
  · refine (I.hok b ob e).stay (fun c w' hc q => (hs.2 c ?_).trans q) (fun _ q => q) fun _ _ q => q
    rintro rfl
    rcases hc with rfl | hc
    · rw [I.free] at e; cases e
    · rw [I.free] at hc; cases hc
theorem ld_globA {A : Around} {E : Value → Shared → Prop} {x : Str} {u : Value} {pos : Pos} {Q : Value → Shared → Prop} (I : Inv X pins σ H s) (hg : Gl X x) (hm : X.mg x = some u) (h : Q u s)
    (hd : (x == ("__debug__" : Str)) = false := by decide) : wpAny (model X.prog X.w) A (eval (.Name x pos) X.env) Q E s :=
  Calls.Name_function_global I.ok.kind hg (Calls.loadGlobal_global (by rw [I.ok.glob]; exact I.mod.glob.keeps I.bk) hm h) hd
theorem var_A {A : Around} {E : Value → Shared → Prop} {i : Nat} {x : Str} {v : V} {pos : Pos} {Q : Value → Shared → Prop} (I : Inv X pins σ H s) (hN : X.N[i]? = some x) (hv : Vis X.env.scope x) (hs : σ[i]? = some (some v)) (h : ∀ u, RelV v u → Q u s)
    (hd : (x == ("__debug__" : Str)) = false := by decide) (hcd : (x == ("__classdict__" : Str)) = false := by decide) : wpAny (model X.prog X.w) A (eval (.Name x pos) X.env) Q E s := by
  obtain ⟨m, hn, hl⟩ := I.loc
  obtain ⟨u, r, l⟩ := hl i x v hN hs hv
  rcases l with ⟨hk, hm⟩ | ⟨hk, c, hc, hcell⟩
  · exact wpAny_Name (wpAny_loadName_local I.ok.kind hk hn hm (h u r)) hd
  · rcases hk with hk | hk
    · exact wpAny_Name (wpAny_loadName_cell I.ok.kind hk hc hcell (h u r)) hd
    · exact wpAny_Name (wpAny_loadName_free I.ok.kind hk hc hcell (h u r) hcd) hd
end
/-- a heap grown by the exception and its dict: they are frozen -/
theorem grw_exc {H Hf H' : Hp} {a C dx : Addr} (b : Same Hf H) (s : Same H H') (free : H' a = none) (hd : H' dx = some (.xd lineF)) (hn : H dx = none) :
    Grw H Hf (upd H' a (.ext (excP a C dx))) (upd (upd Hf dx (.xd lineF)) a (.ext (excP a C dx))) := by
  have ha : H a = none := s.free free
  have hfa : Hf a = none := b.free ha
  have hfd : Hf dx = none := b.free hn
  have hne : dx ≠ a := ne_of_none hd free
  refine ⟨fun c u h => ?_, fun c u h => ?_, fun c u h => ?_, fun c h1 h2 _ => ?_⟩
  · rw [upd_ne (ne_of_none (s c u h) free)]; exact s c u h
  · rw [upd_ne (ne_of_none h hfa), upd_ne (ne_of_none h hfd)]; exact h
  · by_cases e : c = a
    · subst e; rw [upd_same] at h ⊢; exact h
    · rw [upd_ne e] at h ⊢
      by_cases e2 : c = dx
      · subst e2; rw [upd_same] at h; rw [hd]; exact h
      · rw [upd_ne e2] at h; exact s c u (b c u h)
  · by_cases e : c = a
    · subst e; exact absurd ha h2
    · rw [upd_ne e]
      by_cases e2 : c = dx
      · subst e2; exact absurd hn h2
      · rw [upd_ne e2]; exact h1
section
variable {P : Program} {w : World} {K : PySem.W.Frag} {mg : Str → Option Value} {base : Heap} {k : Nat} {N : List Str} {sc : Scope} {bk : Bool} {c : Ctx P w K mg base k N sc bk} {ρ : List Sl} {pos hp hpos np2 ap yp : Pos} {body : List Stmt} {nx : List Sl → Prop} {p : Pt}
theorem StR.gone' {K : PySem.W.Frag} {H₀ Hf₀ H Hf : Hp} {σ : L2.St} {ρ : List Sl} {i : Nat} (S : StR K H₀ Hf₀ σ H Hf ρ) : StR K H₀ Hf₀ (σ.set i none) H Hf (ρ.set i .un) := by
  refine ⟨S.bas, by simp [S.len], fun j r hj hu => ?_, fun j j' r r' q hne h1 h2 o1 o2 => ?_⟩
  · by_cases q : j = i
    · subst q
      have hi : j < ρ.length := by have := (List.getElem?_eq_some_iff.mp hj).1; simpa using this
      rw [List.getElem?_set_self hi] at hj; cases hj; exact absurd rfl hu
    · rw [List.getElem?_set_ne (Ne.symm q)] at hj ⊢
      exact S.at_ j r hj hu
  · have out : ∀ {j : Nat} {r : Sl}, (ρ.set i .un)[j]? = some r → r.owned = true → ρ[j]? = some r ∧ j ≠ i := fun {j r} hj ho => by
      by_cases q : j = i
      · subst q
        have hi : j < ρ.length := by have := (List.getElem?_eq_some_iff.mp hj).1; simpa using this
        rw [List.getElem?_set_self hi] at hj; cases hj; cases ho
      · rw [List.getElem?_set_ne (Ne.symm q)] at hj; exact ⟨hj, q⟩
    obtain ⟨a1, n1⟩ := out h1 o1
    obtain ⟨a2, n2⟩ := out h2 o2
    rw [List.getElem?_set_ne (Ne.symm n1), List.getElem?_set_ne (Ne.symm n2)]
    exact S.sep j j' r r' q hne a1 a2 o1 o2
/-- what is wanted behind «except x as n: y = n» -/
def HandY (K : PySem.W.Frag) (Ch : Addr) (i j : Nat) (nx : List Sl → Prop) (C : Addr) (ρ : List Sl) : Prop :=
  PySem.W.exmOne K (.ref C) (.ref Ch) = some true ∧ ∃ ρ1 ρ2, SSet ρ j (.va (.exc C)) ρ1 ∧ SSet ρ1 i .un ρ2 ∧ nx ρ2
theorem s_tryA {c : Ctx P w K mg base k N sc false} {xh n y : Str} {Ch : Addr} {i j : Nat} (hm : mg xh = some (.ref Ch)) (hNi : At N i n) (hNj : At N j y) (hij : i ≠ j)
    (hb : ∀ c' : Ctx P w K mg base k N sc false, (∀ C ρ', HandY K Ch i j nx C ρ' → c'.RX C ρ') → EvSs c' body ρ nx p)
    (hl : sc.names.lookup n = some .local := by with_unfolding_all rfl) (hg : sc.names.lookup xh = some .globalImplicit := by with_unfolding_all rfl) (hdx : (xh == ("__debug__" : Str)) = false := by decide)
    (hdn : (n == ("__debug__" : Str)) = false := by decide) (hcn : (n == ("__classdict__" : Str)) = false := by decide) (hs : ∀ env, swapsWith (.Name n np2) (some (.Name y yp)) ap.line env = pure false := by intro _; with_unfolding_all rfl) :
    EvS c (.Try body [.ExceptHandler (some (.Name xh hp)) (some n) [.Assign [.Name y yp] (.Name n np2) ap] hpos] [] [] pos) ρ nx p := fun σ H Hf D S o pins s I => by
  let hd : ExceptHandler := .ExceptHandler (some (.Name xh hp)) (some n) [.Assign [.Name y yp] (.Name n np2) ap] hpos
  let M := model c.X.prog c.X.w
  let Wx : Value → Shared → Prop := fun e s₁ => wpAny M c.X.A (noteFrame e c.X.env) (fun _ s₂ => wpAny M c.X.A (setFlight e none) (fun _ s₃ => wpAny M c.X.A (handleBy e c.X.env [hd]) (SP c.X pins D) c.X.xe s₃) c.X.xe s₂) c.X.xe s₁
  let X' : Cx := { c.X with xe := Wx, pn := c.X.pn ++ pins }
  have toX : ∀ {pins' σ' H' s'}, Inv X' pins' σ' H' s' → Inv c.X (pins ++ pins') σ' H' s' := fun {pins' σ' H' s'} I => ⟨⟨I.ok.mod, I.ok.kind, I.ok.glob, I.ok.blt, I.ok.above, I.ok.inj, I.ok.has, I.ok.cab, I.ok.hd, I.ok.frames, I.ok.stk, I.ok.exf, I.ok.bs, I.ok.bsz, I.ok.noex, I.ok.exfs, I.ok.funs, I.ok.frf⟩,
    I.os, I.bare, I.base, I.loc, I.cell, I.free, I.freeC, fun q hq => I.pin q (by show q ∈ (c.X.pn ++ pins) ++ pins'; rw [List.append_assoc]; exact hq), I.hok, I.len⟩
  have drop : ∀ {pins' σ' H' s'}, Inv c.X (pins ++ pins') σ' H' s' → Inv c.X pins σ' H' s' := fun {pins' σ' H' s'} I => I.unpinned
  have I' : Inv X' [] σ H s := ⟨⟨I.ok.mod, I.ok.kind, I.ok.glob, I.ok.blt, I.ok.above, I.ok.inj, I.ok.has, I.ok.cab, I.ok.hd, I.ok.frames, I.ok.stk, I.ok.exf, I.ok.bs, I.ok.bsz, I.ok.noex, I.ok.exfs, I.ok.funs, I.ok.frf⟩,
    I.os, I.bare, I.base, I.loc, I.cell, I.free, I.freeC, fun q hq => I.pin q (by have z : q ∈ (c.X.pn ++ pins) ++ [] := hq; rw [List.append_nil] at z; exact z), I.hok, I.len⟩
  have hx : ∀ (C a : Addr) (pins' : List (Addr × Obj)) (σ1 : L2.St) (H1 Hf1 : Hp) (ρ1 : List Sl) (s1 : Shared) (H' : Hp) (s' : Shared), Inv X' pins' σ1 H1 s1 → StR c.X.K c.B c.Hf σ1 H1 Hf1 ρ1 → HandY K Ch i j nx C ρ1 → ExcS c.X.prog c.X.w c.X.stack H1 s1 a C H' s' → Same H1 H' → Wx (.ref a) s' := by
    rintro C a pins' σ1 H1 Hf1 ρ1 s1 H' s' I1 S1 ⟨hex, ρ2, ρ3, hs1, hs2, hnx⟩ E sm
    obtain ⟨os, bare, un, hok, new, free, ⟨dx, od, ho1, ho2, hxd, hdN⟩, t, B, fl, cov, tr⟩ := E
    have dc : DctAt a (some dx) s' := ⟨od, ho1, ho2⟩
    have J1 : Inv c.X (pins ++ pins') σ1 H1 s1 := toX I1
    have hfr : c.X.A.frames = some (c.X.env :: c.X.outer) := by rw [J1.ok.frames, (c.top rfl).1]
    have fl' : Heap.FlyingW B (c.X.env :: c.X.outer) a (.ref C) (.ref t) s'.heap := by rw [← (c.top rfl).1]; exact fl
    refine fly_looks hfr (c.top rfl).2.1 fl' dc fun h4 held4 up4 dc4 => ?_
    refine fly_lands held4 dc4 fun h5 fl5 up5' dc5 => ?_
    have up5 := up4.trans up5'
    have fl5s : Heap.FlyingW B c.X.stack a (.ref C) (.ref t) h5 := by rw [(c.top rfl).1]; exact fl5
    have J5 : Inv c.X (pins ++ pins') σ1 (upd H' a (.ext (excP a C dx))) { s' with heap := h5 } := inv_caught J1 (c.top rfl) (c.cb rfl _ _ _ _ J1) os bare un hok new free fl5s cov tr up5 dc5
    refine wpAny_handleBy_cons (codeAny_handlers_test (ld_globA J5 (by unfold Gl Env.kindOf; rw [c.esc]; exact hg) (by rw [c.emg]; exact hm) ?_ hdx)) (by intro q; cases q)
    have LT : PySem.W.Looks M h5 (typeOf (.ref a)) (.ref C) := by
      obtain ⟨ob, hob, hc⟩ := fl5.there
      rw [← hc]; exact (PySem.W.Looks.ld hob).andThen .now
    have KX : K.In h5 := by
      have z : c.X.K.In h5 := J5.kIn
      rw [c.eK] at z; exact z
    refine (PySem.W.exm_one KX LT hex).at ?_
    refine codeAny_handlers_suite_as ?_
    refine fly_again fl5 dc5 fun h6 fl6 up6 dc6 => ?_
    have fl6s : Heap.FlyingW B c.X.stack a (.ref C) (.ref t) h6 := by rw [(c.top rfl).1]; exact fl6
    have J6 : Inv c.X (pins ++ pins') σ1 (upd H' a (.ext (excP a C dx))) { s' with heap := h6 } := inv_caught J1 (c.top rfl) (c.cb rfl _ _ _ _ J1) os bare un hok new free fl6s cov tr (up5.trans up6) dc6
    have hNd : c.X.N.Nodup := by rw [c.eN]; exact c.nd
    have hNi' : c.X.N[i]? = some n := by rw [c.eN]; exact hNi.get
    have hNj' : c.X.N[j]? = some y := by rw [c.eN]; exact hNj.get
    have hln : c.X.env.scope.names.lookup n = some .local := by rw [c.esc]; exact hl
    refine store_ok J6 hNd hNi' (.inl hln) (show RelV (.ref a) (.ref a) from rfl) (fun s7 J7 => ?_) (c.fn n (.inl rfl))
    -- the suite: y = n
    have hiσ : i < σ1.length := by rw [J6.len]; exact (List.getElem?_eq_some_iff.mp hNi').1
    refine wpAny_execs_cons ?_
    have hj0 : (σ1.set i (some (.ref a)))[i]? = some (some (.ref a)) := List.getElem?_set_self hiσ
    refine wpAny_Assign_Name (var_A (v := .ref a) J7 hNi' (by rw [c.esc]; exact .inl hl) hj0 (fun u ru => ?_) hdn hcn) (hs _)
    refine store_ok J7 hNd hNj' (by rw [c.esc]; exact c.vis y hNj.mem) ru (fun s8 J8 => ?_) (c.fn y (.inl rfl))
    refine wpAny_execs_nil ?_
    refine goes_ok J8 hNd hNi' hln fun s9 J9 => ?_
    refine ⟨_, _, drop J9, o.nx _ _ (upd (upd Hf1 dx (.xd lineF)) a (.ext (excP a C dx))) ρ3 ?_ hnx⟩
    have hne : dx ≠ a := ne_of_none hxd free
    have g1 : Grw H1 Hf1 (upd H' a (.ext (excP a C dx))) (upd (upd Hf1 dx (.xd lineF)) a (.ext (excP a C dx))) := grw_exc S1.sb sm free hxd hdN
    have rx : Rep c.X.K (upd (upd Hf1 dx (.xd lineF)) a (.ext (excP a C dx))) (.exc C) (.ref a) := (rep_exc (K := c.X.K)).mpr ⟨a, dx, rfl, upd_same, by rw [upd_ne hne, upd_same]⟩
    have re : RepS c.X.K (fun p => H1 p = none) (upd H' a (.ext (excP a C dx))) (upd (upd Hf1 dx (.xd lineF)) a (.ext (excP a C dx))) (.va (.exc C)) (.ref a) := rx
    have T1 := S1.set (i := i) g1 re
    have re2 : RepS c.X.K (fun p => (upd H' a (.ext (excP a C dx))) p = none) (upd H' a (.ext (excP a C dx))) (upd (upd Hf1 dx (.xd lineF)) a (.ext (excP a C dx))) (.va (.exc C)) (.ref a) := rx
    have T2 := T1.set (i := j) (.refl T1.sb) re2
    have hi3 := hs2
    have e1 := hs1.eq
    have e2 := hs2.eq
    have T3 : StR c.X.K c.B c.Hf _ _ _ ((ρ1.set i (.va (.exc C))).set j (.va (.exc C)) |>.set i .un) := T2.gone'
    have e3 : ((ρ1.set i (.va (.exc C))).set j (.va (.exc C)) |>.set i .un) = ρ3 := by
      rw [e2, e1, List.set_comm _ _ hij, List.set_set]
    rw [← e3]; exact T3
  let c' : Ctx P w K mg base k N sc false := { X := X', eP := c.eP, ew := c.ew, eK := c.eK, emg := c.emg, eb := c.eb, eN := c.eN, esc := c.esc, calm := c.calm, top := c.top, cb := fun hb pins' σ' H' s' I => c.cb hb (pins ++ pins') σ' H' s' (toX I), fn := c.fn, room := c.room, nd := c.nd, vis := c.vis, B := c.B, Hf := c.Hf, RX := HandY K Ch i j nx, RM := fun _ _ => False, exc := fun C a pins' σ1 H1 Hf1 ρ1 s1 H' s' I1 S1 R1 E1 sm => hx C a pins' σ1 H1 Hf1 ρ1 s1 H' s' I1 S1 R1 E1 sm, mde := fun _ _ _ _ _ _ _ _ _ _ _ _ h _ => h.elim }
  have hbd : bSs X' body D σ H := hb c' (fun _ _ h => h) σ H Hf D S ⟨o.nx, o.rt, o.bk, o.ct⟩
  refine wpAny_Try_except (wpAny_mono (pbSs (X := X') [] s σ H D I' hbd) (fun f s1 q => ?_) fun e s1 q => q)
  cases f with
  | next =>
    obtain ⟨σ', H', I1, q⟩ := q
    exact wpAny_execs_nil ⟨σ', H', drop (toX I1), q⟩
  | brk => obtain ⟨σ', H', I1, q⟩ := q; exact ⟨σ', H', drop (toX I1), q⟩
  | cont => obtain ⟨σ', H', I1, q⟩ := q; exact ⟨σ', H', drop (toX I1), q⟩
  | ret u => obtain ⟨v, σ', H', I1, r, q⟩ := q; exact ⟨v, σ', H', drop (toX I1), r, q⟩
end

/-! ## what is told and never changed: frozen at once -/
section
variable {P : Program} {w : World} {K : PySem.W.Frag} {mg : Str → Option Value} {base : Heap} {k : Nat} {N : List Str} {sc : Scope} {bk : Bool} {c : Ctx P w K mg base k N sc bk} {ρ : List Sl} {pos : Pos} {a b e : Expr} {es : List Expr} {R : D → Prop} {T : Bool → Prop}
theorem fz_va {d : D} (h : R d) : FzP R (.va d) := ⟨d, rfl, h⟩
theorem fz_ow {ds : List D} (h : R (.lst ds)) : FzP R (.ow ds) := ⟨.lst ds, rfl, h⟩
theorem e_addA (h : EvE c a ρ fun x => EvE c b ρ fun y => AddP x y (FzP R)) : EvE c (.BinOp a .Add b pos) ρ R := e_x (x_add h)
theorem EvA.imp {R R' : List D → Prop} (h : EvA c es ρ R) (hi : ∀ d, R d → R' d) : EvA c es ρ R' := fun σ H Hf Q S q => h σ H Hf Q S fun d v H' Hf' rd => q d v H' Hf' (hi d rd)
theorem e_lstA (h : EvA c es ρ fun ds => Sd (ds.length ≤ sizeLine) (R (.lst ds))) : EvE c (.List es pos) ρ R := e_x (x_lst (h.imp fun ds hd => ⟨hd.s, fz_ow hd.r⟩))
theorem e_sliceA {lo hi : Option Expr} {p2 : Pos} (h : EvE c e ρ fun x => EvP c lo ρ fun l => EvP c hi ρ fun u => SlP x l u (FzP R)) : EvE c (.Subscript e (.Slice lo hi none p2) pos) ρ R := e_x (x_slice h)
theorem addp_int {i j : Int} {R : Sl → Prop} (h : R (.va (.int (i + j)))) : AddP (.int i) (.int j) R := .int h
theorem addp_lst {ds es : List D} {R : Sl → Prop} (h : Sd (ds.length + es.length ≤ sizeLine) (R (.ow (ds ++ es)))) : AddP (.lst ds) (.lst es) R := .lst h
theorem addp_tup {ds es : List D} {R : Sl → Prop} (h : Sd (ds.length + es.length ≤ sizeLine) (R (.va (.tup (ds ++ es))))) : AddP (.tup ds) (.tup es) R := .tup h
theorem isd {d : D} {t cv : Value} {b : Bool} (ty : TyD K d t) (e : PySem.W.kitOne K t cv = some b) (h : R (.bl b)) : ∃ t b, TyD K d t ∧ PySem.W.kitOne K t cv = some b ∧ R (.bl b) := ⟨t, b, ty, e, h⟩
theorem e_ixA (h : EvE c a ρ fun x => EvE c b ρ fun y => IxP x y R) (hs : PlainIx b := by with_unfolding_all exact fun _ _ => rfl) : EvE c (.Subscript a b pos) ρ R := e_ix h hs
theorem rowX {x : D} {ds : List D} {Q : List D → Prop} (e : x.row = some ds) (h : Q ds) : ∃ ys, x.row = some ys ∧ Q ys := ⟨ds, e, h⟩
theorem rs_ok {F : Fn} {ds : List D} {sl : Sl} {R : Sl → Prop} (h : F ds (.ok sl)) (r : R sl) : ∃ r, F ds r ∧ RsP c ρ R r := ⟨_, h, r⟩
theorem rs_ex {F : Fn} {ds : List D} {C : Addr} {R : Sl → Prop} (h : F ds (.ex C)) (r : c.RX C ρ) : ∃ r, F ds r ∧ RsP c ρ R r := ⟨_, h, r⟩
end

/-! ## [x == y for x in row], x and y texts -/
section
theorem reps_strs {K : PySem.W.Frag} {H : Hp} : ∀ {ss : List Str} {xs : List V}, Reps K H (ss.map D.str) xs → xs = ss.map V.str
  | [], xs, h => reps_nil.mp h
  | s :: ss, xs, h => by
    obtain ⟨x, r, rfl, h1, h2⟩ := reps_cons.mp h
    rw [rep_str.mp h1, reps_strs h2]; rfl
variable {P : Program} {w : World} {K : PySem.W.Frag} {mg : Str → Option Value} {base : Heap} {k : Nat} {N : List Str} {sc : Scope} {bk : Bool} {c : Ctx P w K mg base k N sc bk} {ρ : List Sl} {pos : Pos} {iter : Expr} {R : D → Prop}
end

/-! ## what is owned may be changed -/
def del (H : Hp) (p : Addr) : Hp := fun b => if b = p then none else H b
theorem del_same {H : Hp} {p : Addr} : del H p p = none := if_pos rfl
theorem del_ne {H : Hp} {p b : Addr} (h : b ≠ p) : del H p b = H b := if_neg h
theorem same_del {H₀ H : Hp} {p : Addr} (h : H₀ p = none) (s : Same H₀ H) : Same H₀ (del H p) := fun b o e => by
  rw [del_ne (ne_of_none e h)]; exact s b o e
theorem del_some {H : Hp} {p b : Addr} {o : HO} (h : del H p b = some o) : b ≠ p ∧ H b = some o := by
  by_cases e : b = p
  · subst e; rw [del_same] at h; cases h
  · rw [del_ne e] at h; exact ⟨e, h⟩
theorem grw_mut {H Hf : Hp} {p : Addr} {o : HO} (sb : Same Hf H) (hp : Hf p = none) : Grw (del H p) Hf (upd H p o) Hf :=
  ⟨fun b u e => by obtain ⟨h1, h2⟩ := del_some e; rw [upd_ne h1]; exact h2, .refl _, fun b u e => by rw [upd_ne (ne_of_none e hp)]; exact sb b u e, fun _ h _ _ => h⟩
section
variable {K : PySem.W.Frag} {H₀ Hf₀ H Hf H1 Hf1 : Hp} {σ : L2.St} {ρ : List Sl}
theorem RepS.un_fz {fr : Addr → Prop} {r : Sl} {v : V} (ho : r.owned = true) (h : RepS K fr H Hf r v) : ∃ p o, v = .ref p ∧ fr p ∧ H p = some o ∧ Hf p = none ∧ ¬ isFz H p := by
  have nf : ∀ {p : Addr} {u : HO}, H p = some u → (∀ φ, u ≠ .ext φ) → ¬ isFz H p := fun e k ⟨z, e2⟩ => by rw [e] at e2; exact k _ (Option.some.inj e2)
  cases r with
  | un => cases ho
  | va d => cases ho
  | fo s => cases ho
  | ow ds => obtain ⟨p, xs, rfl, f, h1, h2, _⟩ := h; exact ⟨p, _, rfl, f, h1, h2, nf h1 (by intro _ z; cases z)⟩
  | oT ds => obtain ⟨p, xs, rfl, f, h1, h2, _⟩ := h; exact ⟨p, _, rfl, f, h1, h2, nf h1 (by intro _ z; cases z)⟩
  | oK ds => obtain ⟨p, xs, rfl, f, h1, h2, _⟩ := h; exact ⟨p, _, rfl, f, h1, h2, nf h1 (by intro _ z; cases z)⟩
  | aw a ds => obtain ⟨p, xs, rfl, f, h1, h2, _⟩ := h; exact ⟨p, _, rfl, f.1, h1, h2, nf h1 (by intro _ z; cases z)⟩
  | aT a ds => obtain ⟨p, xs, rfl, f, h1, h2, _⟩ := h; exact ⟨p, _, rfl, f.1, h1, h2, nf h1 (by intro _ z; cases z)⟩
  | aK a ds => obtain ⟨p, xs, rfl, f, h1, h2, _⟩ := h; exact ⟨p, _, rfl, f.1, h1, h2, nf h1 (by intro _ z; cases z)⟩
theorem RepS.un_fr {fr : Addr → Prop} {r : Sl} {v : V} (ho : r.owned = true) (h : RepS K fr H Hf r v) : ∃ p o, v = .ref p ∧ fr p ∧ H p = some o ∧ Hf p = none :=
  let ⟨p, o, a, b, c, d, _⟩ := h.un_fz ho; ⟨p, o, a, b, c, d⟩
theorem RepS.del' {fr : Addr → Prop} {r : Sl} {v : V} {p : Addr} (nf : ¬ isFz H p) (hv : r.owned = true → v ≠ .ref p) (h : RepS K fr H Hf r v) : RepS K fr (del H p) Hf r v :=
  RepS.mv (B := fun q => q = p) (.refl _) (fun q o hq e1 _ e3 => ⟨by rw [del_ne hq]; exact e1, e3⟩) (fun _ q e => by subst e; exact nf) (fun ho q z e => by subst e; exact hv ho z) h
theorem StR.own (S : StR K H₀ Hf₀ σ H Hf ρ) {i : Nat} {r : Sl} (hi : ρ[i]? = some r) (ho : r.owned = true) : ∃ p, σ[i]? = some (some (.ref p)) ∧ RepS K (fun p => H₀ p = none) H Hf r (.ref p) := by
  obtain ⟨v, e, q⟩ := S.at_ i r hi (by rintro rfl; cases ho)
  obtain ⟨p, o, rfl, _⟩ := q.un_fr ho
  exact ⟨p, e, q⟩
/-- the thing in slot i is changed -/
theorem StR.upd (S : StR K H₀ Hf₀ σ H Hf ρ) {i : Nat} {r r' : Sl} {p : Addr} (hi : ρ[i]? = some r) (ho : r.owned = true) (hp : σ[i]? = some (some (.ref p))) (g : Grw (del H p) Hf H1 Hf1)
    (hr : RepS K (fun q => q = p) H1 Hf1 r' (.ref p)) (ho' : r'.owned = true) : StR K H₀ Hf₀ σ H1 Hf1 (ρ.set i r') := by
  obtain ⟨p', ep, q⟩ := S.own hi ho
  rw [hp] at ep; cases ep
  obtain ⟨_, o, e, fp, hHp, hfp, nfz⟩ := q.un_fz ho
  cases e
  have hlt : i < ρ.length := (List.getElem?_eq_some_iff.mp hi).1
  refine ⟨⟨(same_del fp S.bas.s).trans g.s, S.bas.f.trans g.f, g.b, fun b h1 h2 h3 => ?_⟩, by simp [S.len], fun j r1 hj hu => ?_, fun j j' r1 r2 q' hne h1 h2 o1 o2 => ?_⟩
  · have hb : b ≠ p := fun z => by subst z; exact h2 fp
    cases z : H₀ b with
    | none => exact absurd z h2
    | some o1 =>
      have e1 := S.bas.s b o1 z
      refine g.n b (S.bas.n b h1 h2 h3) (by rw [del_ne hb, e1]; simp) fun xs => ?_
      rw [del_ne hb, e1, ← z]; exact h3 xs
  · by_cases e : j = i
    · subst e
      rw [List.getElem?_set_self hlt] at hj; cases hj
      exact ⟨_, hp, hr.weak fun q' z => by subst z; exact fp⟩
    · rw [List.getElem?_set_ne (Ne.symm e)] at hj
      obtain ⟨v, e1, e2⟩ := S.at_ j r1 hj hu
      exact ⟨v, e1, (e2.del' (p := p) nfz fun ow z => by subst z; exact S.sep i j _ _ p (Ne.symm e) hi hj ho ow hp e1).grw g⟩
  · have out : ∀ {j : Nat} {r1 : Sl}, (ρ.set i r')[j]? = some r1 → r1.owned = true → ∃ r2, ρ[j]? = some r2 ∧ r2.owned = true := fun {j r1} hj how => by
      by_cases e : j = i
      · subst e; exact ⟨r, hi, ho⟩
      · rw [List.getElem?_set_ne (Ne.symm e)] at hj; exact ⟨r1, hj, how⟩
    obtain ⟨r3, a1, a2⟩ := out h1 o1
    obtain ⟨r4, b1, b2⟩ := out h2 o2
    exact S.sep j j' r3 r4 q' hne a1 b1 a2 b2
end
section
variable {P : Program} {w : World} {K : PySem.W.Frag} {mg : Str → Option Value} {base : Heap} {k : Nat} {N : List Str} {sc : Scope} {bk : Bool} {c : Ctx P w K mg base k N sc bk} {ρ : List Sl} {pos ap cp px : Pos} {a b e : Expr} {es : List Expr} {R : D → Prop} {T : Bool → Prop} {nx : List Sl → Prop} {p : Pt} {x : Str} {i : Nat}
theorem Ctx.pvar (c : Ctx P w K mg base k N sc bk) (hN : At N i x) (hd : (x == ("__debug__" : Str)) = false) (hcd : (x == ("__classdict__" : Str)) = false) : PE c.X (.Name x px) (tVar i) :=
  pe_var (X := c.X) (i := i) (by rw [c.eN]; exact hN.get) (by rw [c.esc]; rcases c.vis x hN.mem with h | h; exact .inl h; exact .inr (.inl h)) hd hcd

/-! ### lists -/
def Sl.getL : Sl → Option (List D) | .ow ds => some ds | .aw _ ds => some ds | _ => none
def Sl.putL : Sl → List D → Sl | .ow _, es => .ow es | .aw a _, es => .aw a es | s, _ => s
theorem getL_owned {r : Sl} {ds : List D} (h : r.getL = some ds) : r.owned = true := by cases r <;> first | rfl | cases h
theorem putL_owned {r : Sl} {ds es : List D} (h : r.getL = some ds) : (r.putL es).owned = true := by cases r <;> first | rfl | cases h
theorem repL {K : PySem.W.Frag} {fr : Addr → Prop} {H Hf : Hp} {r : Sl} {ds : List D} {p : Addr} (h : r.getL = some ds) (q : RepS K fr H Hf r (.ref p)) : ∃ xs, H p = some (.lst xs) ∧ Hf p = none ∧ Reps K Hf ds xs := by
  cases r with
  | ow es => cases h; obtain ⟨_, xs, e, _, h1, h2, h3⟩ := q; cases e; exact ⟨xs, h1, h2, h3⟩
  | aw a es => cases h; obtain ⟨_, xs, e, _, h1, h2, h3⟩ := q; cases e; exact ⟨xs, h1, h2, h3⟩
  | _ => cases h
theorem repL_put {K : PySem.W.Frag} {fr : Addr → Prop} {H Hf H1 Hf1 : Hp} {r : Sl} {ds es : List D} {p : Addr} {ys : List V} (h : r.getL = some ds) (q : RepS K fr H Hf r (.ref p)) (h1 : H1 p = some (.lst ys)) (h2 : Hf1 p = none) (h3 : Reps K Hf1 es ys) :
    RepS K (fun q => q = p) H1 Hf1 (r.putL es) (.ref p) := by
  cases r with
  | ow _ => exact ⟨p, ys, rfl, rfl, h1, h2, h3⟩
  | aw a _ => obtain ⟨_, xs, e, f, _⟩ := q; cases e; exact ⟨p, ys, rfl, ⟨rfl, f.2⟩, h1, h2, h3⟩
  | _ => cases h
theorem s_appG {r : Sl} {ds : List D} (hN : At N i x) (hi : At ρ i r) (hr : r.getL = some ds) (h : EvE c e ρ fun d => Sd (ds.length < sizeLine) (Nx ρ i nx (r.putL (ds ++ [d]))))
    (hs : ∀ env, swapsWith (.Call (.Attribute (.Name x px) (Str.ofString "append") ap) [e] [] cp) none pos.line env = pure false := by intro _; with_unfolding_all rfl) (hd : (x == ("__debug__" : Str)) = false := by decide) (hcd : (x == ("__classdict__" : Str)) = false := by decide)
    (hbase : ∀ env, attributeBase (.Name x px) (Str.ofString "append") env (eval (.Name x px) env) = eval (.Name x px) env := by intro _; with_unfolding_all rfl)
    (hfew : ∀ env, ((backTo cp (starEach [e] env)).all (fun x => !x.1) && (backToKw cp (keywordEach [] env)).all (fun x => x.1.isSome)
      && decide (([e] : List Expr).length + ([] : List Keyword).length + (if ([] : List Keyword).isEmpty then 0 else 1) < 30)) = true := by intro _; with_unfolding_all rfl)
    (hline : (ap.endLine == cp.line) = true := by with_unfolding_all rfl) (he : ∀ env, starEach [e] env = (false, eval e env) :: starEach [] env := by intro _; with_unfolding_all rfl) (hpl : ∀ env, (backTo cp (starEach [] env)).any (·.1) = false := by intro _; with_unfolding_all rfl) :
    EvS c (.Expr (.Call (.Attribute (.Name x px) (Str.ofString "append") ap) [e] [] cp) pos) ρ nx p := fun σ H Hf D S o => by
  obtain ⟨q, eq, rq⟩ := S.own hi.get (getL_owned hr)
  obtain ⟨xs, h1, h2, h3⟩ := repL hr rq
  refine bS_of (ps_expr (pe_bm PySem.F.plainAttrs_list PySem.F.slot_list_append PySem.F.type_list_append mt_append (c.pvar hN hd hcd) (pa_cons pbE pa_nil (he _)) (hbase _) (hfew _) hline (he _) (hpl _)) (hs _)) ⟨_, eq, .inl ⟨rfl, xs, .inl (.inl h1)⟩, ?_⟩
  refine h σ H Hf _ S fun d v H' Hf' ⟨hz, ρ', hs', hn⟩ rd g => ?_
  have S' := S.grw g
  have e1 : H' q = some (.lst xs) := g.s _ _ h1
  have e2 : Hf' q = none := g.n q h2 (by rw [h1]; simp) (by intro ys; rw [h1]; simp)
  refine ⟨q, xs, v, rfl, rfl, e1, by rw [← h3.length]; exact hz, ?_⟩
  refine o.nx _ _ Hf' ρ' ?_ hn
  rw [hs'.eq]
  have rq' := rq.grw g
  exact S'.upd hi.get (getL_owned hr) eq (grw_mut g.b e2) (repL_put hr rq' upd_same e2 ((h3.mono g.f).append (.one rd))) (putL_owned hr)
end

/-! ## dicts of data -/
section
variable {κ β : Type} [DecidableEq κ]
def valD (kvs : List (κ × β)) (k : κ) : Option β := (kvs.find? fun kv => decide (kv.1 = k)).map (·.2)
def putD (kvs : List (κ × β)) (k : κ) (v : β) : List (κ × β) :=
  if (valD kvs k).isSome = true then kvs.map (fun kv => if kv.1 = k then (kv.1, v) else kv) else kvs ++ [(k, v)]
theorem valD_pos {q : κ × β} {r : List (κ × β)} {k : κ} (e : q.1 = k) : valD (q :: r) k = some q.2 := by simp [valD, List.find?_cons, e]
theorem valD_neg {q : κ × β} {r : List (κ × β)} {k : κ} (e : ¬ q.1 = k) : valD (q :: r) k = valD r k := by simp [valD, List.find?_cons, e]
end
def D.key1 : D → Option Key | .int i => some (.inl i) | .str x => some (.inr x) | _ => none
theorem rep_key1 {K : PySem.W.Frag} {H : Hp} {d : D} {k : Key} {v : V} (h : d.key1 = some k) (r : Rep K H d v) : v = kV k := by
  cases d with
  | int i => cases h; exact rep_int.mp r
  | str x => cases h; exact rep_str.mp r
  | _ => cases h
section
variable {K : PySem.W.Frag} {fr : Addr → Prop} {H Hf H1 Hf1 : Hp} {r : Sl} {p : Addr}
/-- a datum, perhaps, and what stands for it -/
def RelD (K : PySem.W.Frag) (Hf : Hp) : Option D → Option V → Prop
  | none, none => True
  | some d, some v => Rep K Hf d v
  | _, _ => False
theorem KVR.val {kvs : List (Key × D)} {xs : List (Key × V)} (h : KVR K Hf kvs xs) (k : Key) : RelD K Hf (valD kvs k) (valV xs k) := by
  unfold KVR at h
  induction h with
  | nil => exact True.intro
  | @cons a b as bs h t ih =>
    by_cases e : a.1 = k
    · rw [valD_pos e, valV_pos (h.1.symm.trans e)]; exact h.2
    · rw [valD_neg e, valV_neg (fun z => e (h.1.trans z))]; exact ih
theorem RelD.isSome {o : Option D} {u : Option V} (h : RelD K Hf o u) : o.isSome = u.isSome := by
  cases o <;> cases u <;> first | rfl | exact h.elim
theorem KVR.put {kvs : List (Key × D)} {xs : List (Key × V)} (h : KVR K Hf kvs xs) (k : Key) {d : D} {v : V} (rd : Rep K Hf d v) : KVR K Hf (putD kvs k d) (putK xs k v) := by
  have e := (h.val k).isSome
  unfold putD putK
  rw [e, valV_any]
  by_cases q : (valV xs k).isSome = true
  · rw [if_pos q, if_pos q]
    unfold KVR at h ⊢
    clear e q
    induction h with
    | nil => exact .nil
    | @cons a b as bs h t ih =>
      rw [List.map_cons, List.map_cons]
      refine .cons ?_ ih
      by_cases e : a.1 = k
      · rw [if_pos e, if_pos (h.1.symm.trans e)]; exact ⟨h.1, rd⟩
      · rw [if_neg e, if_neg (fun z => e (h.1.trans z))]; exact h
  · rw [if_neg q, if_neg q]; exact Paired.snoc h ⟨rfl, rd⟩
theorem TVR.keysT {kvs : List (List Key × D)} {xs : List (List Key × Addr × V)} (h : TVR K Hf kvs xs) : ∀ x ∈ xs, SqT K Hf x.2.1 (x.1.map kV) := by
  unfold TVR at h
  induction h with
  | nil => intro x hx; cases hx
  | @cons a b as bs h t ih =>
    intro x hx
    rcases List.mem_cons.mp hx with e | hx
    · subst e; rw [← h.1]; exact h.2.1
    · exact ih x hx
end
section
variable {P : Program} {w : World} {K : PySem.W.Frag} {mg : Str → Option Value} {base : Heap} {k : Nat} {N : List Str} {sc : Scope} {bk : Bool} {c : Ctx P w K mg base k N sc bk} {ρ : List Sl} {pos ap cp px tp : Pos} {a b e f : Expr} {es : List Expr} {R : D → Prop} {T : Bool → Prop} {nx : List Sl → Prop} {p : Pt} {x : Str} {i : Nat} {r : Sl}
theorem Ctx.hu (c : Ctx P w K mg base k N sc bk) : c.X.A.units + 1 < cLine := hu_of c.room
end

/-! ## list comprehensions -/
abbrev noX : Value → Shared → Prop := fun _ _ => False
section
variable {prog : Program} {w : World} {A : Around} {R : Result → Shared → Prop} {s : Shared}
theorem compLoop_any {elt target iter : Expr} {ifs : List Expr} {scope : Scope} {pos : Pos} {it acc : Value} {env : Env} (I : Nat → Shared → Prop)
    (turn : ∀ n s, I n s → wpAny (model prog w) A (pyNext it) (fun r s₁ => match r with
      | none => R (.ok .next) s₁
      | some v => wpAny (model prog w) A (letOwnedTupleGo target it v) (fun _ s₁' => wpAny (model prog w) A (assign target env v) (fun _ s₂ =>
          wpAny (model prog w) A (forIn ifs true fun c r => if r = true then do let ok ← isTrue c env (eval c env); pure (ForInStep.yield ok) else pure (ForInStep.yield r)) (fun ok s₃ =>
            if ok = true then wpAny (model prog w) A (eval elt env) (fun x s₄ =>
              wpAny (model prog w) A (call (.builtin "list.append") [acc, x]) (fun _ s₅ => ∃ m, m < n ∧ I m s₅) noX s₄) noX s₃
            else ∃ m, m < n ∧ I m s₃) noX s₂) noX s₁') noX s₁) noX s)
    (n : Nat) (h : I n s) :
    codeAny (model prog w) A (.compLoop (.ListComp elt [⟨target, iter, ifs, 0⟩] scope pos) 0 it acc env) R s := by
  refine codeAny_loop rfl I (fun n s hI => ?_) n h
  show wpAny _ A ((compTurn (.ListComp elt [⟨target, iter, ifs, 0⟩] scope pos) 0 it acc env).onRaise (fun x => do noteFrame x env; theTreesLotGoes x)) _ _ s
  refine wpAny_noted ?_
  rw [compTurn_list]
  refine wpAny_bind (wpAny_standAt (wpAny_bind (wpAny_mono (turn n s hI) (fun r s₁ h₁ => ?_) fun _ _ f => f.elim)))
  cases r with
  | none => exact wpAny_pure h₁
  | some v =>
    refine wpAny_bind (wpAny_mono h₁ (fun _ s₁' h₁' => ?_) fun _ _ f => f.elim)
    refine wpAny_bind (wpAny_mono h₁' (fun _ s₂ h₂ => wpAny_bind (wpAny_mono h₂ (fun ok s₃ h₃ => ?_) fun _ _ f => f.elim)) fun _ _ f => f.elim)
    cases ok with
    | false => exact wpAny_pure ⟨rfl, h₃⟩
    | true =>
      exact wpAny_bind (wpAny_bind (wpAny_mono h₃ (fun x s₄ h₄ => wpAny_bind (wpAny_mono h₄ (fun _ s₅ h₅ => wpAny_pure (wpAny_pure ⟨rfl, h₅⟩)) fun _ _ f => f.elim)) fun _ _ f => f.elim))
theorem tests_false {env : Env} {Q : Bool → Shared → Prop} {E : Value → Shared → Prop} : ∀ (ifs : List Expr), Q false s →
    wpAny (model prog w) A (forIn ifs false fun c r => if r = true then do let ok ← isTrue c env (eval c env); pure (ForInStep.yield ok) else pure (ForInStep.yield r)) Q E s
  | [], h => wpAny_pure h
  | t :: ts, h => by
    simp only [List.forIn_cons, Bool.false_eq_true, if_false]
    exact wpAny_bind (wpAny_pure (tests_false ts h))
theorem tests_cons {env : Env} {Q : Bool → Shared → Prop} {E : Value → Shared → Prop} {t : Expr} {ts : List Expr}
    (h : wpAny (model prog w) A (isTrue t env (eval t env)) (fun b s' => if b = true then wpAny (model prog w) A (forIn ts true fun c r => if r = true then do let ok ← isTrue c env (eval c env); pure (ForInStep.yield ok) else pure (ForInStep.yield r)) Q E s' else Q false s') E s) :
    wpAny (model prog w) A (forIn (t :: ts) true fun c r => if r = true then do let ok ← isTrue c env (eval c env); pure (ForInStep.yield ok) else pure (ForInStep.yield r)) Q E s := by
  simp only [List.forIn_cons, if_true]
  refine wpAny_bind (wpAny_bind (wpAny_mono h (fun b s' hb => wpAny_pure ?_) fun _ _ x => x))
  cases b with
  | true => exact hb
  | false => exact tests_false ts hb
end

def blkScope (scope sc : Scope) : Scope := { scope with names := scope.names.map fun (n, k) => if (k == .free && sc.kind == .function && sc.names.lookup n == some .cell) then (n, .cell) else (n, k) }
theorem relabel_blk {scope : Scope} {env : Env} {sc : Scope} (h : env.scope = sc) : relabel scope env = blkScope scope sc := by
  subst h; rfl
/-- an owned thing, by where it stands -/
def Sl.tag (a : Addr) : Sl → Sl
  | .ow ds => .aw a ds | .oT ds => .aT a ds | .oK ds => .aK a ds
  | .aw b ds => .aw b ds | .aT b ds => .aT b ds | .aK b ds => .aK b ds | .fo s => .fo s
  | .un => .un | .va d => .va d
/-- the slots of a block: its own names, unset, and those of the def that it reads -/
inductive FrS (t : Str → Addr) (nm : List (Str × NameKind)) (N : List Str) (ρ : List Sl) : List Str → List Sl → Prop
  | nil : FrS t nm N ρ [] []
  | un {y : Str} {M : List Str} {r : List Sl} : FrS t nm N ρ M r → FrS t nm N ρ (y :: M) (.un :: r)
  | fr {y : Str} {i : Nat} {s s' : Sl} {M : List Str} {r : List Sl} (hN : At N i y) (hs : At ρ i s) (hy : (y, NameKind.free) ∈ nm) (ht : s.tag (t y) = s') : FrS t nm N ρ M r → FrS t nm N ρ (y :: M) (s' :: r)
theorem FrS.len {t : Str → Addr} {nm : List (Str × NameKind)} {N M : List Str} {ρ r : List Sl} (h : FrS t nm N ρ M r) : M.length = r.length := by
  induction h with
  | nil => rfl
  | un t ih => simp [ih]
  | fr hN hs hy ht t ih => simp [ih]
/-- as many slots, and those that were set are as they were -/
inductive WkS : List Sl → List Sl → Prop
  | nil : WkS [] []
  | un {r : Sl} {a b : List Sl} : WkS a b → WkS (.un :: a) (r :: b)
  | same {r : Sl} {a b : List Sl} : WkS a b → WkS (r :: a) (r :: b)
theorem WkS.weak {a b : List Sl} (h : WkS a b) : a.length = b.length ∧ ∀ (i : Nat) (r : Sl), a[i]? = some r → r ≠ .un → b[i]? = some r := by
  induction h with
  | nil => exact ⟨rfl, fun i r e => by simp at e⟩
  | un t ih => exact ⟨by simp [ih.1], fun i r e hu => by cases i with | zero => simp at e; exact absurd e.symm hu | succ i => simpa using ih.2 i r (by simpa using e) hu⟩
  | same t ih => exact ⟨by simp [ih.1], fun i r e hu => by cases i with | zero => simpa using e | succ i => simpa using ih.2 i r (by simpa using e) hu⟩
section
variable {P : Program} {w : World} {K : PySem.W.Frag} {mg : Str → Option Value} {base : Heap} {k : Nat} {N : List Str} {sc : Scope} {bk : Bool} {c : Ctx P w K mg base k N sc bk} {ρ : List Sl} {pos : Pos} {e : Expr} {R : D → Prop} {T : Bool → Prop}
def EvC (c : Ctx P w K mg base k N sc bk) : List Expr → List Sl → (Bool → Prop) → Prop
  | [], _, T => T true
  | t :: ts, ρ, T => EvT c t ρ (If2 (EvC c ts ρ T) (T false))
theorem run_tests (hq : c.X.xe = noX) {pins : List (Addr × Obj)} {σ : L2.St} {Q : Bool → Hp → Prop} : ∀ (ifs : List Expr) {H Hf : Hp} {s : Shared}, StRep c σ H Hf ρ → EvC c ifs ρ T → (∀ b H' Hf', T b → Grw H Hf H' Hf' → Q b H') → Inv c.X pins σ H s →
    wpAny (model c.X.prog c.X.w) c.X.A (forIn ifs true fun t r => if r = true then do let ok ← isTrue t c.X.env (eval t c.X.env); pure (ForInStep.yield ok) else pure (ForInStep.yield r)) (TP c.X pins σ Q) noX s
  | [], H, Hf, s, S, h, q, I => wpAny_tests_nil ⟨H, I, q true H Hf h (.refl S.sb)⟩
  | t :: ts, H, Hf, s, S, h, q, I => by
    have h0 := h σ H Hf (fun b H' => ∃ Hf', If2 (EvC c ts ρ T) (T false) b ∧ Grw H Hf H' Hf') S (fun b H' Hf' hb g => ⟨Hf', hb, g⟩) pins s I
    rw [hq] at h0
    refine tests_cons (thn h0 fun b s' ⟨H', I', Hf', hb, g⟩ => ?_)
    cases b with
    | true => exact run_tests hq ts (S.grw g) (hb.t rfl) (fun b H2 Hf2 hT g2 => q b H2 Hf2 hT (g.trans g2)) I'
    | false => exact ⟨H', I', q false H' Hf' (hb.f rfl) g⟩
end
theorem clos_aux {env : Env} : ∀ (names : List (Str × NameKind)) (cs : List (Str × Addr)), (∀ x ∈ names, x.2 = .free → ∃ a, env.cells.lookup x.1 = some a) →
    ∃ cl, (forIn names cs (fun (x : Str × NameKind) (r : List (Str × Addr)) => (if (x.2 == NameKind.free) = true then do let a ← cellOf env x.1; pure (ForInStep.yield ((x.1, a) :: r)) else pure (ForInStep.yield r) : Sem (ForInStep (List (Str × Addr)))))) = (pure cl : Sem (List (Str × Addr))) ∧
      (∀ y a, cl.lookup y = some a → cs.lookup y = some a ∨ env.cells.lookup y = some a ∧ (y, NameKind.free) ∈ names) ∧ (∀ y a, (y, NameKind.free) ∈ names ∨ (∃ b, cs.lookup y = some b ∧ env.cells.lookup y = some b) → env.cells.lookup y = some a → cl.lookup y = some a)
  | [], cs, _ => ⟨cs, rfl, fun y a e => .inl e, fun y a h e => by
      rcases h with h | ⟨b, h1, h2⟩
      · cases h
      · rw [e] at h2; cases h2; exact h1⟩
  | (n, kd) :: r, cs, h => by
    by_cases hk : kd = .free
    · subst hk
      obtain ⟨a, ea⟩ := h (n, .free) List.mem_cons_self rfl
      obtain ⟨cl, e1, e2, e3⟩ := clos_aux r ((n, a) :: cs) fun x hx => h x (List.mem_cons_of_mem _ hx)
      refine ⟨cl, ?_, fun y b e => ?_, fun y b hy e => ?_⟩
      · rw [List.forIn_cons]
        simp only [beq_self_eq_true, if_true, cellOf, ea, pure_bind]
        exact e1
      · rcases e2 y b e with z | ⟨z1, z2⟩
        · rw [List.lookup_cons] at z
          cases q : (y == n) with
          | true =>
            rw [q] at z; cases z
            have : y = n := by simpa using q
            subst this
            exact .inr ⟨ea, List.mem_cons_self⟩
          | false => rw [q] at z; exact .inl z
        · exact .inr ⟨z1, List.mem_cons_of_mem _ z2⟩
      · refine e3 y b ?_ e
        rcases hy with hy | ⟨b', h1, h2⟩
        · rcases List.mem_cons.mp hy with z | z
          · cases z; exact .inr ⟨a, by simp, ea⟩
          · exact .inl z
        · refine .inr ⟨b', ?_, h2⟩
          rw [List.lookup_cons]
          cases q : (y == n) with
          | true =>
            have : y = n := by simpa using q
            subst this
            rw [ea] at h2; exact h2
          | false => exact h1
    · have hb : (kd == NameKind.free) = false := by simpa using hk
      obtain ⟨cl, e1, e2, e3⟩ := clos_aux r cs fun x hx => h x (List.mem_cons_of_mem _ hx)
      refine ⟨cl, ?_, fun y b e => ?_, fun y b hy e => ?_⟩
      · rw [List.forIn_cons]
        simp only [hb, Bool.false_eq_true, if_false, pure_bind]
        exact e1
      · rcases e2 y b e with z | ⟨z1, z2⟩
        · exact .inl z
        · exact .inr ⟨z1, List.mem_cons_of_mem _ z2⟩
      · refine e3 y b ?_ e
        rcases hy with hy | hy
        · rcases List.mem_cons.mp hy with z | z
          · cases z; exact absurd rfl hk
          · exact .inl z
        · exact .inr hy
theorem clos_of {scope : Scope} {env : Env} (h : ∀ x ∈ scope.names, x.2 = .free → ∃ a, env.cells.lookup x.1 = some a) :
    ∃ cl, closureFor scope env = pure cl ∧ (∀ y a, cl.lookup y = some a → env.cells.lookup y = some a ∧ (y, NameKind.free) ∈ scope.names) ∧ (∀ y a, (y, NameKind.free) ∈ scope.names → env.cells.lookup y = some a → cl.lookup y = some a) := by
  obtain ⟨cl, e1, e2, e3⟩ := clos_aux scope.names [] h
  refine ⟨cl, ?_, fun y a e => ?_, fun y a hy e => e3 y a (.inl hy) e⟩
  · unfold closureFor
    have e1' := congrArg (· >>= fun cs => (pure cs : Sem _)) e1
    simp only [pure_bind] at e1'
    exact e1'
  · rcases e2 y a e with z | z
    · simp at z
    · exact z
section
variable {P : Program} {w : World} {K : PySem.W.Frag} {mg : Str → Option Value} {base : Heap} {k : Nat} {N : List Str} {sc : Scope} {bk : Bool} {c : Ctx P w K mg base k N sc bk} {ρ : List Sl} {pos : Pos}
def CompP (c : Ctx P w K mg base k N sc bk) (tg : Expr) (ifs : List Expr) (elt : Expr) (ρ0 : List Sl) (d : D) (o : Option D) : Prop :=
  EvG c tg d ρ0 fun ρ1 => WkS ρ0 ρ1 ∧ EvC c ifs ρ1 (If2 (EvE c elt ρ1 fun e => o = some e) (o = none))
theorem lookup_names {nm : List (Str × NameKind)} {sc : Scope} : ∀ {y : Str} {kd : NameKind}, (nm.map fun (x : Str × NameKind) => match x with | (n, k) => (if (k == .free && sc.kind == .function && sc.names.lookup n == some .cell) = true then (n, NameKind.cell) else (n, k))).lookup y = some kd → ∃ k0, (y, k0) ∈ nm ∧ (kd = k0 ∨ kd = .cell ∧ k0 = .free) := by
  induction nm with
  | nil => intro y kd h; simp at h
  | cons x r ih =>
    obtain ⟨n, k0⟩ := x
    intro y kd h
    rw [List.map_cons, List.lookup_cons] at h
    by_cases e : (k0 == .free && sc.kind == .function && sc.names.lookup n == some .cell) = true
    · simp only [e, if_true] at h
      cases q : (y == n) with
      | true =>
        rw [q] at h; cases h
        have : y = n := by simpa using q
        subst this
        have hf : k0 = .free := by simp only [Bool.and_eq_true, beq_iff_eq] at e; exact e.1.1
        exact ⟨k0, List.mem_cons_self, .inr ⟨rfl, hf⟩⟩
      | false => rw [q] at h; obtain ⟨k1, h1, h2⟩ := ih h; exact ⟨k1, List.mem_cons_of_mem _ h1, h2⟩
    · simp only [e, Bool.false_eq_true, if_false] at h
      cases q : (y == n) with
      | true =>
        rw [q] at h; cases h
        have : y = n := by simpa using q
        subst this
        exact ⟨k0, List.mem_cons_self, .inl rfl⟩
      | false => rw [q] at h; obtain ⟨k1, h1, h2⟩ := ih h; exact ⟨k1, List.mem_cons_of_mem _ h1, h2⟩
theorem FrS.start {t : Str → Addr} {nm : List (Str × NameKind)} {N M : List Str} {ρ r : List Sl} {σ : L2.St} (h : FrS t nm N ρ M r) (hσ : ∀ (i : Nat) (s : Sl), ρ[i]? = some s → s ≠ .un → ∃ v, σ[i]? = some (some v)) :
    ∃ σ0 : L2.St, σ0.length = r.length ∧ ∀ (j : Nat) (s : Sl), r[j]? = some s → (s = .un ∧ σ0[j]? = some none) ∨ ∃ (i : Nat) (y : Str) (v : V) (s0 : Sl), M[j]? = some y ∧ (y, NameKind.free) ∈ nm ∧ N[i]? = some y ∧ ρ[i]? = some s0 ∧ s = s0.tag (t y) ∧ s0 ≠ .un ∧ σ[i]? = some (some v) ∧ σ0[j]? = some (some v) := by
  induction h with
  | nil => exact ⟨[], rfl, fun j s e => by simp at e⟩
  | un t ih =>
    obtain ⟨σ0, hl, h0⟩ := ih
    refine ⟨none :: σ0, by simp [hl], fun j s e => ?_⟩
    cases j with
    | zero => simp at e; exact .inl ⟨e.symm, by simp⟩
    | succ j =>
      rcases h0 j s (by simpa using e) with ⟨h1, h2⟩ | ⟨i, y, v, s0, h1, h2, h3, h4, h5, h6, h7, h8⟩
      · exact .inl ⟨h1, by simpa using h2⟩
      · exact .inr ⟨i, y, v, s0, by simpa using h1, h2, h3, h4, h5, h6, h7, by simpa using h8⟩
  | @fr y i s' s'' M r hN hs hy ht t ih =>
    obtain ⟨σ0, hl, h0⟩ := ih
    by_cases hu : s' = .un
    · refine ⟨none :: σ0, by simp [hl], fun j s e => ?_⟩
      cases j with
      | zero => simp at e; subst hu; exact .inl ⟨e.symm.trans ht.symm, by simp⟩
      | succ j =>
        rcases h0 j s (by simpa using e) with ⟨h1, h2⟩ | ⟨i, y, v, s0, h1, h2, h3, h4, h5, h6, h7, h8⟩
        · exact .inl ⟨h1, by simpa using h2⟩
        · exact .inr ⟨i, y, v, s0, by simpa using h1, h2, h3, h4, h5, h6, h7, by simpa using h8⟩
    · obtain ⟨v, ev⟩ := hσ i s' hs.get hu
      refine ⟨some v :: σ0, by simp [hl], fun j s e => ?_⟩
      cases j with
      | zero => simp at e; subst e; exact .inr ⟨i, y, v, s', by simp, hy, hN.get, hs.get, ht.symm, hu, ev, by simp⟩
      | succ j =>
        rcases h0 j s (by simpa using e) with ⟨h1, h2⟩ | ⟨i, y, v, s0, h1, h2, h3, h4, h5, h6, h7, h8⟩
        · exact .inl ⟨h1, by simpa using h2⟩
        · exact .inr ⟨i, y, v, s0, by simpa using h1, h2, h3, h4, h5, h6, h7, by simpa using h8⟩
def Sl.adr : Sl → Option Addr | .aw a _ => some a | .aT a _ => some a | .aK a _ => some a | _ => none
theorem tag_owned {s : Sl} {a : Addr} : (s.tag a).owned = s.owned := by cases s <;> rfl
theorem tag_adr {s : Sl} {a : Addr} (h : s.owned = true) : ∃ b, (s.tag a).adr = some b := by cases s <;> first | exact ⟨_, rfl⟩ | cases h
theorem rep_tag {K : PySem.W.Frag} {fr : Addr → Prop} {H Hf : Hp} {s : Sl} {v : V} {a : Addr} (hv : s.owned = true → v = .ref a) (h : RepS K fr H Hf s v) : RepS K fr H Hf (s.tag a) v := by
  cases s with
  | ow ds => obtain ⟨p, xs, e, f, r⟩ := h; exact ⟨p, xs, e, ⟨f, by have := hv rfl; rw [e] at this; cases this; rfl⟩, r⟩
  | oT ds => obtain ⟨p, xs, e, f, r⟩ := h; exact ⟨p, xs, e, ⟨f, by have := hv rfl; rw [e] at this; cases this; rfl⟩, r⟩
  | oK ds => obtain ⟨p, xs, e, f, r⟩ := h; exact ⟨p, xs, e, ⟨f, by have := hv rfl; rw [e] at this; cases this; rfl⟩, r⟩
  | _ => exact h
theorem rep_adr {K : PySem.W.Frag} {fr : Addr → Prop} {H Hf : Hp} {s : Sl} {p b : Addr} (hb : s.adr = some b) (h : RepS K fr H Hf s (.ref p)) : p = b := by
  cases s with
  | aw a ds => cases hb; obtain ⟨q, xs, e, f, r⟩ := h; cases e; exact f.2
  | aT a ds => cases hb; obtain ⟨q, xs, e, f, r⟩ := h; cases e; exact f.2
  | aK a ds => cases hb; obtain ⟨q, xs, e, f, r⟩ := h; cases e; exact f.2
  | _ => cases hb
/-- a thing that is in no slot is changed -/
theorem StR.apart {K : PySem.W.Frag} {H₀ Hf₀ H Hf : Hp} {σ : L2.St} {ρ : List Sl} {a : Addr} {o : HO} (S : StR K H₀ Hf₀ σ H Hf ρ) (h0 : H₀ a = none) (hf : Hf a = none) (nf : ¬ isFz H a) (ha : ∀ (i : Nat) (r : Sl), ρ[i]? = some r → r.owned = true → σ[i]? ≠ some (some (.ref a))) : StR K H₀ Hf₀ σ (L2.upd H a o) Hf ρ :=
  ⟨⟨fun b u e => by rw [L2.upd_ne (ne_of_none e h0)]; exact S.bas.s b u e, S.bas.f, fun b u e => by rw [L2.upd_ne (ne_of_none e hf)]; exact S.bas.b b u e, S.bas.n⟩, S.len, fun i r hi hu => by
    obtain ⟨v, e, q⟩ := S.at_ i r hi hu
    refine ⟨v, e, ?_⟩
    have hg : Grw (del H a) Hf (L2.upd H a o) Hf := grw_mut S.bas.b hf
    exact (q.del' (p := a) nf fun ow z => by subst z; exact ha i r hi ow e).grw hg, S.sep⟩
theorem grw_app {H1 Hf1 H' Hf' : Hp} {a : Addr} {o : HO} (g : Grw H1 Hf1 H' Hf') (h1 : H1 a = none) (hf : Hf' a = none) : Grw H1 Hf1 (upd H' a o) Hf' :=
  ⟨fun b u e => by rw [upd_ne (ne_of_none e h1)]; exact g.s b u e, g.f, fun b u e => by rw [upd_ne (ne_of_none e hf)]; exact g.b b u e, g.n⟩
section
variable {K : PySem.W.Frag} {H Hf H' Hf' : Hp}
abbrev Fp := List (Addr × List V)
mutual
theorem RepF.fz : ∀ (s : Sh) {v : V} {fp : Fp}, RepF K H Hf s v fp → ∀ a ∈ fp, H a.1 = some (pl a.1 a.2) ∧ Hf a.1 = none
  | .v d, _, _, h => by simp only [RepF] at h; obtain ⟨_, rfl⟩ := h; intro a ha; cases ha
  | .l ds, _, _, h => by
    simp only [RepF] at h
    obtain ⟨p, xs, e, h1, h2, h3, rfl⟩ := h
    intro a ha
    obtain rfl := List.mem_singleton.mp ha
    exact ⟨h1, h2⟩
  | .la p ds, _, _, h => by
    simp only [RepF] at h
    obtain ⟨xs, e, h1, h2, h3, rfl⟩ := h
    intro a ha
    obtain rfl := List.mem_singleton.mp ha
    exact ⟨h1, h2⟩
  | .t ss, _, _, h => by
    simp only [RepF] at h
    obtain ⟨a, xs, e, h1, h2⟩ := h
    exact RepFs.fz ss h2
  | .ls ss, _, _, h => by
    simp only [RepF] at h
    obtain ⟨p, xs, fq, e, h1, h2, h3, rfl⟩ := h
    intro a ha
    rcases List.mem_cons.mp ha with rfl | ha
    · exact ⟨h1, h2⟩
    · exact RepFs.fz ss h3 a ha
theorem RepFs.fz : ∀ (ss : List Sh) {xs : List V} {fp : Fp}, RepFs K H Hf ss xs fp → ∀ a ∈ fp, H a.1 = some (pl a.1 a.2) ∧ Hf a.1 = none
  | [], _, _, h => by simp only [RepFs] at h; obtain ⟨_, rfl⟩ := h; intro a ha; cases ha
  | s :: ss, _, _, h => by
    simp only [RepFs] at h
    obtain ⟨x, r, f1, f2, e, h1, h2, rfl⟩ := h
    intro a ha
    rcases List.mem_append.mp ha with ha | ha
    · exact RepF.fz s h1 a ha
    · exact RepFs.fz ss h2 a ha
end
end
def Sl.sh : Sl → Option Sh | .va d => some (.v d) | .fo s => some s | _ => none
theorem sh_rep {K : PySem.W.Frag} {H H' Hf' : Hp} {r : Sl} {v : V} {s : Sh} (e : r.sh = some s) (h : RepS K (fun p => H p = none) H' Hf' r v) : ∃ fp, RepF K H' Hf' s v fp ∧ (fp.map (·.1)).Nodup ∧ ∀ a ∈ fp, H a.1 = none := by
  cases r with
  | va d => cases e; exact ⟨[], by simp only [RepF]; exact ⟨h, trivial⟩, by simp, by intro a ha; cases ha⟩
  | fo s => cases e; exact h
  | _ => cases e
theorem RepFs.snoc {K : PySem.W.Frag} {H Hf : Hp} {s : Sh} {v : V} {fp : Fp} (h : RepF K H Hf s v fp) : ∀ {ss : List Sh} {vs : List V} {fq : Fp}, RepFs K H Hf ss vs fq → RepFs K H Hf (ss ++ [s]) (vs ++ [v]) (fq ++ fp)
  | [], _, _, q => by
    simp only [RepFs] at q
    obtain ⟨rfl, rfl⟩ := q
    simp only [List.nil_append, RepFs]
    exact ⟨v, [], fp, [], rfl, h, ⟨rfl, rfl⟩, (List.append_nil _).symm⟩
  | s' :: ss, _, _, q => by
    simp only [RepFs] at q
    obtain ⟨x, r, f1, f2, rfl, h1, h2, rfl⟩ := q
    have := RepFs.snoc h h2
    simp only [List.cons_append, RepFs]
    exact ⟨x, r ++ [v], f1, f2 ++ fp, rfl, h1, this, List.append_assoc _ _ _⟩
def CompO (c : Ctx P w K mg base k N sc bk) (tg : Expr) (ifs : List Expr) (elt : Expr) (ρ0 : List Sl) (d : D) (o : Option Sh) : Prop :=
  EvG c tg d ρ0 fun ρ1 => WkS ρ0 ρ1 ∧ EvC c ifs ρ1 (If2 (EvX c elt ρ1 fun r => ∃ z, o = some z ∧ r.sh = some z) (o = none))
/-- the names of a comprehension's scope -/
abbrev CpB (scope sc : Scope) (N' : List Str) : Prop := scope.kind = .function ∧ (∀ x ∈ scope.names, x.2 ≠ .cell) ∧ (∀ x ∈ scope.names, x.2 = .local → scope.names.lookup x.1 = some .local) ∧ (∀ x ∈ scope.names, x.2 = .free → sc.names.lookup x.1 = some .cell) ∧ N'.Nodup ∧ (∀ x ∈ N', (blkScope scope sc).names.lookup x = some .local ∨ (blkScope scope sc).names.lookup x = some .cell) ∧ ∀ x ∈ scope.names, x.2 = .free → (blkScope scope sc).names.lookup x.1 = some .cell
theorem x_compI {elt tg iter : Expr} {ifs : List Expr} {scope : Scope} {N' : List Str} {ρ0 : (Str → Addr) → List Sl} {R : List Sh → Prop} (hq : c.X.xe = noX) (hfr : ∀ t, FrS t scope.names N ρ N' (ρ0 t))
    (h : EvI c tg iter ρ fun ds => Sd (ds.length ≤ sizeLine) (∃ os : List (Option Sh), os.length = ds.length ∧
      (∀ c' : Ctx P w K mg base k N' (blkScope scope sc) true, c'.X.xe = noX → ∀ (t : Str → Addr) (i : Nat) (d : D) (o : Option Sh), ds[i]? = some d → os[i]? = some o → CompO c' tg ifs elt (ρ0 t) d o) ∧ R (os.filterMap id)))
    (hcp : CpB scope sc N' := by decide +kernel)
    (hs : ∀ env v, foldedSetIterable iter env v = pure v := by intro _ _; with_unfolding_all rfl)
    {σ : L2.St} {H Hf : Hp} (S : StRep c σ H Hf ρ) {pins : List (Addr × Obj)} {s : Shared} (I : Inv c.X pins σ H s) {use : Option (Value → Sem Unit)} {QQ : Value → Shared → Prop}
    (kont : ∀ (s' : Shared) (H' Hf' : Hp) (a C : Addr) (ss : List Sh) (vs : List V) (fq : Fp), R ss → (∃ m, s'.heap.Ns C m) → C ∉ c.X.fs → FpOk c.X pins H' C → H a = none → H' a = some (.lst vs) → Hf' a = none → RepFs c.X.K H' Hf' ss vs fq → (fq.map (·.1)).Nodup → (∀ b ∈ fq, H b.1 = none) → Grw H Hf H' Hf' → (∀ h5, Heap.SameBut C s'.heap h5 → Inv c.X pins σ H' { s' with heap := h5 }) → compPost (model c.X.prog c.X.w) c.X.A noX use QQ (.ref a) C (.ok .next) s') :
    wpAny (model c.X.prog c.X.w) c.X.A (comprehension (.ListComp elt [⟨tg, iter, ifs, 0⟩] scope pos) scope c.X.env (firstIterPos [⟨tg, iter, ifs, 0⟩] pos) (newList []) (firstAsync [⟨tg, iter, ifs, 0⟩]) (firstIter [⟨tg, iter, ifs, 0⟩] c.X.env) use) QQ noX s := by
  obtain ⟨hk, hnc, hnl, hfree, hnd, hv, hvf⟩ := hcp
  have hI := h σ H Hf (fun J H1 => ∃ ds Hf1, Sd (ds.length ≤ sizeLine) (∃ os : List (Option Sh), os.length = ds.length ∧
      (∀ c' : Ctx P w K mg base k N' (blkScope scope sc) true, c'.X.xe = noX → ∀ (t : Str → Addr) (i : Nat) (d : D) (o : Option Sh), ds[i]? = some d → os[i]? = some o → CompO c' tg ifs elt (ρ0 t) d o) ∧ R (os.filterMap id)) ∧ Grw H Hf H1 Hf1 ∧ ItOk c.X.K J ds Hf1) S (fun ds J H' Hf' hR g io => ⟨ds, Hf', hR, g, io⟩) pins s I
  rw [hq] at hI
  have hcells : ∀ x ∈ scope.names, x.2 = .free → ∃ a, c.X.env.cells.lookup x.1 = some a := fun x hx hf => I.ok.has x.1 (.inl (by unfold Env.kindOf; rw [c.esc]; exact hfree x hx hf))
  obtain ⟨cl, hclos, hcl1, hcl2⟩ := clos_of hcells
  refine wpAny_comprehension_free (cl := cl) (use := use) rfl (hs _) hclos hk hnl ?_
  refine thn (show wpAny _ _ (eval iter c.X.env) _ _ _ from hI) fun v s1 h1 => thn h1 fun itv s2 hh => z5 hh fun it fp tn J H1 hh => w6 hh fun e0 I1 Tn t0 hfp hh => z2 hh fun ds Hf1 hh => w3 hh fun hz g io => ?_
  obtain ⟨hz, os, hh⟩ := hz
  refine w3 hh fun hol hb hR => ?_
  subst e0
  have hcell' : ∀ y ∈ scope.names, y.2 ≠ .cell := hnc
  refine wpAny_newObj_type (wpAny_newFunctionEnv hcell' (by intro y hy; simp at hy) (fun h4 hns hsb => ?_) hk)
  dsimp only at hns hsb ⊢
  -- the state with the new list
  generalize hDe : s2.heap.objs.size = Da at *
  have k3 : ∀ b u, s2.heap.get? b = some u → (s2.heap.push { cls := .type "list", dict := none, data := .seq ([] : List Value).toArray }).get? b = some u := fun b u e => Heap.get?_push_of_some _ e
  generalize hH3 : s2.heap.push { cls := .type "list", dict := none, data := .seq ([] : List Value).toArray } = h3 at *
  have hCe : h3.objs.size = Da + 1 := by rw [← hH3, Heap.size_push, hDe]
  have hgD : h3.get? Da = some { cls := .type "list", dict := none, data := .seq ([] : List Value).toArray } := by rw [← hH3, ← hDe]; exact Heap.get?_push_size _ rfl
  have hH1D : H1 Da = none := by rw [← hDe]; exact I1.hok.fresh (Nat.le_refl _)
  have I3 : Inv c.X pins σ (upd H1 Da (.lst [])) { s2 with heap := h3, toks := s2.toks } := I1.laid (a := Da) (o := .lst []) (t' := s2.toks) k3 (by rw [hDe]; exact Nat.le_refl _) ⟨Nat.zero_le _, [], 0, .nil, hgD⟩
  have fpne : ∀ b ∈ fp, b ≠ Da := fun b hb z => by
    obtain ⟨o, e, _⟩ := Tn.obj _ _ t0 b hb
    subst z
    exact absurd (Heap.lt_size e) (by rw [hDe]; exact Nat.lt_irrefl _)
  have fplt : ∀ b ∈ fp, b < h3.objs.size := fun b hb => by
    obtain ⟨o, e, _⟩ := Tn.obj _ _ t0 b hb
    exact Heap.lt_size (k3 b o e)
  let s3 : Shared := { s2 with heap := h3, toks := s2.toks }
  let H2 : Hp := upd H1 Da (.lst [])
  let X' : Cx := { prog := c.X.prog, w := c.X.w, K := c.X.K, mg := c.X.mg, base := c.X.base, A := c.X.A, N := N', s₀ := s3, H₀ := H2, env := compEnvC scope cl h3.objs.size c.X.env, outer := c.X.stack, stack := c.X.stack, ex := fp, fn := fun _ => false, calm := true, pn := [], xe := noX }
  have S1 := S.grw g
  have S2 : StRep c σ H2 Hf1 ρ := S1.grw (Grw.newO g.b hH1D)
  obtain ⟨t, ht⟩ : ∃ t : Str → Addr, ∀ (i : Nat) (y : Str) (p : Addr), N[i]? = some y → σ[i]? = some (some (.ref p)) → t y = p := by
    classical
    refine ⟨fun y => if h : ∃ (i : Nat) (p : Addr), N[i]? = some y ∧ σ[i]? = some (some (.ref p)) then h.choose_spec.choose else 0, fun i y p e1 e2 => ?_⟩
    have h : ∃ (i : Nat) (p : Addr), N[i]? = some y ∧ σ[i]? = some (some (.ref p)) := ⟨i, p, e1, e2⟩
    show (if h : _ then _ else _) = p
    rw [dif_pos h]
    obtain ⟨e3, e4⟩ := h.choose_spec.choose_spec
    have hi : h.choose < N.length := (List.getElem?_eq_some_iff.mp e3).1
    have e5 : h.choose = i := (List.getElem?_inj hi c.nd).mp (e3.trans e1.symm)
    have e6 := (congrArg (fun z => σ[z]?) e5).symm.trans e4
    rw [show σ[i]? = some (some (.ref p)) from e2] at e6
    have e4 := e6
    exact (V.ref.inj (Option.some.inj (Option.some.inj e4))).symm
  have hfr := hfr t
  generalize hρ : ρ0 t = ρt at hfr
  obtain ⟨σ0, hσl, hσ0⟩ := hfr.start (σ := σ) fun i s e hu => let ⟨v, e2, _⟩ := S2.at_ i s e hu; ⟨v, e2⟩
  have k4 : ∀ b u, h3.get? b = some u → h4.get? b = some u := fun b u e => hsb.extBut b u (Nat.ne_of_lt (Heap.lt_size e)) (Heap.get?_push_of_some _ e)
  have hsc : X'.env.scope = blkScope scope sc := relabel_blk c.esc
  have okX : X'.Ok := {
    mod := I3.ok.mod
    kind := hk
    glob := I3.ok.glob
    blt := I3.ok.blt
    above := Nat.le_refl _
    inj := fun x y a e1 e2 => I3.ok.inj x y a (hcl1 x a e1).1 (hcl1 y a e2).1
    has := fun x hx => by
      have key : (x, NameKind.free) ∈ scope.names := by
        have hx' : (blkScope scope sc).names.lookup x = some .cell ∨ (blkScope scope sc).names.lookup x = some .free := by
          unfold Env.kindOf at hx; rw [hsc] at hx; exact hx
        rcases hx' with hx' | hx'
        · obtain ⟨k0, h1, h2⟩ := lookup_names hx'
          rcases h2 with h2 | ⟨_, h2⟩
          · subst h2; exact absurd rfl (hnc _ h1)
          · subst h2; exact h1
        · obtain ⟨k0, h1, h2⟩ := lookup_names hx'
          rcases h2 with h2 | ⟨h2, _⟩
          · subst h2; exact h1
          · cases h2
      obtain ⟨a, ea⟩ := hcells _ key rfl
      exact ⟨a, hcl2 x a key ea⟩
    cab := fun x a hf => by cases hf
    hd := fun _ => I3.ok.hd c.calm
    frames := I3.ok.frames
    stk := .inl rfl
    exf := fun b hb => ⟨Nat.ne_of_lt (fplt b hb), fun x a ea => (hfp b hb).2.2.2.2.1 x a (hcl1 x a ea).1⟩
    bs := I3.bs
    bsz := Nat.le_trans I3.ok.bsz I3.sz
    noex := fun b o e hb => by
      rcases (hfp b hb).2.2.2.1 with z | z
      · exact I3.ok.noex b o e z
      · exact absurd (Nat.lt_of_lt_of_le (Heap.lt_size e) (Nat.le_trans I3.ok.bsz z)) (Nat.lt_irrefl _)
    exfs := fun b hb m => by
      rcases List.mem_cons.mp (I3.stkSub b m) with z | z
      · exact (hfp b hb).2.1 z
      · exact (hfp b hb).2.2.1 z
    funs := I3.stack
    frf := I3.stkFree }
  have I4 : Inv X' [] σ0 H2 { s2 with heap := h4, toks := s2.toks + ([] : List (Str × Value)).length } := {
    ok := okX
    os := rfl
    bare := I3.bare
    base := Un.kept k4
    loc := ⟨_, hns, fun j y v hy hv' _ => by
      have hj : j < ρt.length := by
        have := (List.getElem?_eq_some_iff.mp hv').1
        rw [hσl] at this; exact this
      rcases hσ0 j ρt[j] (List.getElem?_eq_getElem hj) with ⟨_, z⟩ | hh
      · rw [z] at hv'; cases hv'
      · refine z4 hh fun i y' v' s0 hh => w8 hh fun h1 h2 h3' h4' hs5 hs6 h5 h6 => ?_
        rw [h6] at hv'; cases hv'
        have hy' : N'[j]? = some y := hy
        rw [h1] at hy'; cases hy'
        obtain ⟨m0, hm0, hl⟩ := I3.loc
        have hkc : c.X.env.kindOf y = some .cell := by unfold Env.kindOf; rw [c.esc]; exact hfree _ h2 rfl
        obtain ⟨u, r, lk⟩ := hl i y v (by rw [c.eN]; exact h3') h5 (.inr (.inl hkc))
        refine ⟨u, r, ?_⟩
        rcases lk with ⟨q1, _⟩ | ⟨_, a, e1, e2⟩
        · rw [hkc] at q1; cases q1
        · refine .inr ⟨.inl ?_, a, hcl2 _ a h2 e1, ?_⟩
          · show List.lookup y X'.env.scope.names = _
            rw [hsc]; exact hvf _ h2 rfl
          · obtain ⟨oc, e3, e4⟩ := e2
            exact ⟨oc, k4 _ _ e3, e4⟩⟩
    cell := fun x a ea => by
      obtain ⟨v', oc, e3, e4⟩ := I3.cell x a (hcl1 x a ea).1
      exact ⟨v', oc, k4 _ _ e3, e4⟩
    free := I3.hok.fresh (Nat.le_refl _)
    freeC := fun x a ea => I3.freeC x a (hcl1 x a ea).1
    pin := fun q hq' => by simp at hq'; cases hq'
    hok := I3.hok.kept k4
    len := by rw [hσl]; exact hfr.len.symm }
  let c' : Ctx P w K mg base k N' (blkScope scope sc) true :=
    { X := X', eP := c.eP, ew := c.ew, eK := c.eK, emg := c.emg, eb := c.eb, eN := rfl, esc := hsc, calm := rfl, top := fun z => (by cases z), cb := fun z => (by cases z), fn := fun x hx => .inr (by rw [hsc]; exact hx.resolve_left (fun z => by cases z)), room := c.room, nd := hnd, vis := hv,
      Hf := c.Hf, B := c.B, RX := fun _ _ => False, exc := fun _ _ _ _ _ _ _ _ _ _ _ _ h _ _ => h.elim, RM := fun _ _ => False, mde := fun _ _ _ _ _ _ _ _ _ _ _ _ h _ => h.elim }
  have hN0 : N'.length = ρt.length := hfr.len
  have S4 : StRep c' σ0 H2 Hf1 ρt := by
    refine ⟨S2.bas, hσl, fun j r hj hu => ?_, fun j j' r r' p hne e1 e2 o1 o2 f1 f2 => ?_⟩
    · rcases hσ0 j r hj with ⟨z, _⟩ | hh
      · exact absurd z hu
      · refine z4 hh fun i y v s0 hh => w8 hh fun h1 h2 h3' h4' hs5 hs6 h5 h6 => ?_
        obtain ⟨v', e3, q3⟩ := S2.at_ i s0 h4' hs6
        rw [h5] at e3; cases e3
        subst hs5
        exact ⟨v, h6, rep_tag (fun ow => by
          obtain ⟨p, _, rfl, _⟩ := q3.un_fr ow
          rw [ht i y p h3' h5]) q3⟩
    · have u1 : r ≠ .un := by rintro rfl; cases o1
      have u2 : r' ≠ .un := by rintro rfl; cases o2
      rcases hσ0 j r e1 with ⟨z, _⟩ | hh
      · exact u1 z
      rcases hσ0 j' r' e2 with ⟨z, _⟩ | hh'
      · exact u2 z
      refine z4 hh fun i y v s0 hh => w8 hh fun h1 h2 h3' h4' hs5 hs6 h5 h6 => z4 hh' fun i' y' v' s0' hh' => w8 hh' fun h1' h2' h3'' h4'' hs5' hs6' h5' h6' => ?_
      rw [f1] at h6; cases h6
      rw [f2] at h6'; cases h6'
      have hii : i ≠ i' := fun z => by
        subst z
        rw [h3'] at h3''; cases h3''
        have a1 : j < N'.length := (List.getElem?_eq_some_iff.mp h1).1
        exact hne ((List.getElem?_inj a1 hnd).mp (h1.trans h1'.symm))
      subst hs5; subst hs5'
      rw [tag_owned] at o1 o2
      exact S2.sep i i' s0 s0' p hii h4' h4'' o1 o2 h5 h5'
  have howA : ∀ (j : Nat) (r : Sl), ρt[j]? = some r → r.owned = true → ∃ b, r.adr = some b ∧ b ≠ Da := fun j r hj ho => by
    rcases hσ0 j r hj with ⟨z, _⟩ | hh
    · subst z; cases ho
    · refine z4 hh fun i y v s0 hh => w8 hh fun h1 h2 h3' h4' hs5 hs6 h5 h6 => ?_
      subst hs5
      rw [tag_owned] at ho
      obtain ⟨b, eb⟩ := tag_adr (a := t y) ho
      refine ⟨b, eb, fun z => ?_⟩
      obtain ⟨v', e3, q3⟩ := S1.at_ i s0 h4' hs6
      obtain ⟨p, o, e4, _, e5, _⟩ := q3.un_fr ho
      subst e4
      have q4 := rep_tag (a := t y) (fun _ => by rw [ht i y p h3' e3]) q3
      have := rep_adr eb q4
      rw [this, z, hH1D] at e5; cases e5
  have hB0 : c.B Da = none := S1.bas.s.free hH1D
  -- the loop
  have fps : ∀ {H' : Hp}, (∀ b ∈ fp, H' b = none) → ∀ b ∈ fp, FpOk X' [] H' b := fun hn b hb =>
    ⟨hn b hb, Nat.ne_of_lt (fplt b hb), okX.exfs b hb, .inl hb, fun x a ea => (hfp b hb).2.2.2.2.1 x a (hcl1 x a ea).1, fun p hp => by cases hp⟩
  have fin : ∀ (s' : Shared) (σ' : L2.St) (H' Hf' : Hp) (vs : List V) (fq : Fp), Inv X' [] σ' H' s' → Grw H1 Hf1 H' Hf' → H' Da = some (.lst vs) → Hf' Da = none → RepFs c.X.K H' Hf' (os.filterMap id) vs fq → (fq.map (·.1)).Nodup → (∀ b ∈ fq, H1 b.1 = none) →
      compPost (model c.X.prog c.X.w) c.X.A noX use QQ (.ref Da) h3.objs.size (.ok .next) s' := fun s' σ' H' Hf' vs fq I' g' hD hfD hr hnd2 hfr2 => by
    obtain ⟨m, hm, _⟩ := I'.loc
    have hCX : h3.objs.size ∉ c.X.fs := I3.nofs (Nat.le_refl _)
    have hCf : FpOk c.X pins H' h3.objs.size := by
      refine ⟨I'.free, fun z => ?_, hCX, .inr I3.sz, fun x a ea z => ?_, fun p hp z => ?_⟩
      · obtain ⟨m0, hm0, _⟩ := I3.loc
        obtain ⟨o, _, _, e, _⟩ := hm0
        exact absurd (Heap.lt_size e) (by rw [← z]; exact Nat.lt_irrefl _)
      · obtain ⟨v', oc, e, _⟩ := I3.cell x a ea
        exact absurd (Heap.lt_size e) (by rw [z]; exact Nat.lt_irrefl _)
      · exact absurd (Heap.lt_size (I3.pin p hp).1) (by rw [z]; exact Nat.lt_irrefl _)
    refine kont s' H' Hf' Da h3.objs.size (os.filterMap id) vs fq hR ⟨m, hm⟩ hCX hCf (g.s.free hH1D) hD hfD hr hnd2 (fun b hb => g.s.free (hfr2 b hb)) (g.trans g') fun h5 hsb5 => ?_
    have ub : Un (frs c.X.stack) fp H2 H' s3.heap h5 := by
      have u := I'.base
      have ne : ∀ b o, s3.heap.get? b = some o → b ≠ h3.objs.size := fun b o e => Nat.ne_of_lt (Heap.lt_size e)
      refine ⟨fun b o e n hf hx => (hsb5.2 b (ne b o e)).trans (u.keep b o e n hf hx), fun b o e n hf hx => ?_, u.free, fun b o e hx => ?_, u.tups, u.frzs, u.tbls⟩
      · obtain ⟨sl, e2⟩ := u.slot b o e n hf hx
        exact ⟨sl, (hsb5.2 b (ne b o e)).trans e2⟩
      · obtain ⟨o', e2⟩ := u.there b o e hx
        exact ⟨o', (hsb5.2 b (ne b o e)).trans e2⟩
    have hokf : HOk c.X.prog c.X.w H' h5 := fun b u e => (I'.hok b u e).stay (fun a o ha e2 => by
        refine (hsb5.2 a ?_).trans e2
        intro z; subst z
        have hfree' : H' h3.objs.size = none := I'.free
        rcases ha with z | z
        · subst z; rw [hfree'] at e; cases e
        · rw [hfree'] at z; cases z) (fun _ z => z) fun _ _ z => z
    exact I3.call' (ch := fp) I'.os ub hokf I'.bare fun b hb => ⟨(hfp b hb).2.2.2.1, (hfp b hb).2.1, (hfp b hb).2.2.2.2.1, (hfp b hb).2.2.2.2.2⟩
  have loop : codeAny (model c.X.prog c.X.w) c.X.A (.compLoop (.ListComp elt [⟨tg, iter, ifs, 0⟩] scope pos) 0 (.ref it) (.ref Da) X'.env) (compPost (model c.X.prog c.X.w) c.X.A noX use QQ (.ref Da) h3.objs.size) { s2 with heap := h4, toks := s2.toks + ([] : List (Str × Value)).length } := by
    refine compLoop_any (fun n s' => ∃ (i : Nat) (σ' : L2.St) (H' Hf' : Hp) (vs : List V) (fq : Fp), n = ds.length - i ∧ i ≤ ds.length ∧ Inv X' [] σ' H' s' ∧ tn i s'.heap ∧ StRep c' σ' H' Hf' ρt ∧ Grw H1 Hf1 H' Hf' ∧ H' Da = some (.lst vs) ∧ Hf' Da = none ∧ RepFs c.X.K H' Hf' ((os.take i).filterMap id) vs fq ∧ (fq.map (·.1)).Nodup ∧ (∀ b ∈ fq, H1 b.1 = none) ∧ vs.length ≤ i ∧ ∀ b ∈ fp, H' b = none) ?_ ds.length
      ⟨0, σ0, H2, Hf1, [], [], by simp, Nat.zero_le _, I4, Tn.keep _ _ _ t0 fun b hb o e => k4 b o (k3 b o e), S4, Grw.newO g.b hH1D, upd_same, g.b.free hH1D, by simp [RepFs], List.nodup_nil, (fun b hb => by cases hb), Nat.le_refl _, fun b hb => by show upd H1 Da _ b = none; rw [upd_ne (fpne b hb)]; exact (hfp b hb).1⟩
    refine fun n s5 hh => z5 hh fun i σ5 H5 Hf5 vs hh => hh.elim fun fq hh => w6 hh fun en hi I5 t5 S5 hh => w6 hh fun g5 hD5 hfD5 hr5 hnd5 hh => w3 hh fun hfr5 hlv fr5 => ?_
    subst en
    by_cases hlt : i < ds.length
    · have ed : ds[i]? = some ds[i] := List.getElem?_eq_getElem hlt
      have eo : os[i]? = some (os[i]'(by rw [hol]; exact hlt)) := List.getElem?_eq_getElem _
      generalize ds[i] = d at ed
      generalize os[i]'(by rw [hol]; exact hlt) = o at eo
      obtain ⟨hgo, hy⟩ := io.go i d H5 Hf5 g5.f g5.b ed
      refine thn (Tn.item X' rfl rfl rfl rfl i [] s5 σ5 H5 noX I5 (fps fr5) t5 hgo) fun r s6 hh => hh.elim fun u hh => w2 hh fun hr h6 => ?_
      subst hr
      refine thn h6 fun _ s7 hh => z2 hh fun x H7 hh => w5 hh fun I7 rx y7 t7 fr7 => ?_
      obtain ⟨Hf7, g7, rx7⟩ := hy x H7 y7
      have I7' := I7.pinned (fps fr7) (Tn.obj _ _ t7)
      have S7 : StRep c' σ5 H7 Hf7 ρt := S5.grw g7
      have hasg0 := hb c' rfl t i d o ed eo
      rw [hρ] at hasg0
      have hasg := hasg0 σ5 H7 Hf7 x (fun σ2 H2' => ∃ Hf2 ρ1, StRep c' σ2 H2' Hf2 ρ1 ∧ Grw H7 Hf7 H2' Hf2 ∧ WkS ρt ρ1 ∧ EvC c' ifs ρ1 (If2 (EvX c' elt ρ1 fun r => ∃ z, o = some z ∧ r.sh = some z) (o = none))) S7 rx7 (fun σ2 H2' Hf2 ρ1 S' g' hw => ⟨Hf2, ρ1, S', g', hw⟩) _ s7 u I7' rx
      refine thn (show wpAny _ _ _ _ noX _ from hasg) fun _ s8 hh => z2 hh fun σ8 H8 hh => w2 hh fun I8 hh => z2 hh fun Hf8 ρ8 hh => w4 hh fun S8 g8 w8 hC8 => ?_
      refine thn (run_tests (c := c') rfl ifs S8 hC8 (Q := fun b H' => ∃ Hf', If2 (EvX c' elt ρ8 fun r => ∃ z, o = some z ∧ r.sh = some z) (o = none) b ∧ Grw H8 Hf8 H' Hf') (fun b H' Hf' hb' g' => ⟨Hf', hb', g'⟩) I8) fun b s9 hh => hh.elim fun H9 hh => w2 hh fun I9 hh => hh.elim fun Hf9 hh => w2 hh fun hb9 g9 => ?_
      have g79 := (g7.trans g8).trans g9
      have hD9 : H9 Da = some (.lst vs) := g79.s _ _ hD5
      have hfD9 : Hf9 Da = none := g79.n Da hfD5 (by rw [hD5]; simp) (by intro ys; rw [hD5]; simp)
      have keepT : ∀ {σ' : L2.St} {H' : Hp} {s' : Shared}, Inv X' ([] ++ pinsAt fp s7.heap) σ' H' s' → tn (i + 1) s'.heap ∧ ∀ b ∈ fp, H' b = none := fun {σ' H' s'} I' =>
        ⟨Tn.keep _ _ _ t7 fun b hb' ob e => (I'.pin (b, ob) (List.mem_append_right _ (List.mem_append_right _ (mem_pinsAt hb' e)))).1, fun b hb' => by
          obtain ⟨ob, e, _⟩ := Tn.obj _ _ t7 b hb'
          exact (I'.pin (b, ob) (List.mem_append_right _ (List.mem_append_right _ (mem_pinsAt hb' e)))).2.1⟩
      have wk : ∀ {σ' : L2.St} {H' Hf' : Hp}, StRep c' σ' H' Hf' ρ8 → StRep c' σ' H' Hf' ρt := fun S' => StR.weak S' w8.weak.1 w8.weak.2
      have tk : (os.take (i + 1)).filterMap id = (os.take i).filterMap id ++ o.toList := by
        rw [List.take_add_one, eo, List.filterMap_append]
        cases o <;> rfl
      cases b with
      | false =>
        have eo' := hb9.f rfl
        subst eo'
        rw [if_neg Bool.false_ne_true]
        obtain ⟨t9, fr9⟩ := keepT I9
        have hr9 : RepFs c.X.K H9 Hf9 ((os.take i).filterMap id) vs fq := RepFs.mv g79.f _ (fun a _ e1 e2 => ⟨g79.s _ _ e1, g79.n a.1 e2 (by rw [e1]; simp) (by intro ys z; rw [e1] at z; cases z)⟩) hr5
        exact ⟨_, Nat.sub_lt_sub_left hlt (Nat.lt_succ_self i), i + 1, σ8, H9, Hf9, vs, fq, rfl, hlt, I9.unpinned, t9, wk (S8.grw g9), g5.trans g79, hD9, hfD9, by rw [tk]; simpa using hr9, hnd5, hfr5, Nat.le_succ_of_le hlv, fr9⟩
      | true =>
        rw [if_pos rfl]
        have hev := hb9.t rfl σ8 H9 Hf9 (fun v H' => ∃ Hf' r, (∃ z, o = some z ∧ r.sh = some z) ∧ RepS c.X.K (fun p => H9 p = none) H' Hf' r v ∧ Grw H9 Hf9 H' Hf') (S8.grw g9) (fun r v H' Hf' he r' g' => ⟨Hf', r, he, r', g'⟩) _ s9 I9
        refine thn (show wpAny _ _ _ _ noX _ from hev) fun u2 s10 hh => z2 hh fun v2 H10 hh => w3 hh fun I10 r10 hh => z2 hh fun Hf10 r hh => w3 hh fun eo0 re g10 => ?_
        obtain ⟨z, rfl, eo'⟩ := eo0
        obtain ⟨f1, rf1, nd1, fr1⟩ := sh_rep eo' re
        have z1 := RepF.fz z rf1
        have z0 := RepFs.fz _ hr5
        have g510 := g79.trans g10
        have hr10 : RepFs c.X.K H10 Hf10 ((os.take i).filterMap id) vs fq := RepFs.mv g510.f _ (fun a _ e1 e2 => ⟨g510.s _ _ e1, g510.n a.1 e2 (by rw [e1]; simp) (by intro ys z; rw [e1] at z; cases z)⟩) hr5
        have hD10 : H10 Da = some (.lst vs) := g10.s _ _ hD9
        have hfD10 : Hf10 Da = none := g10.n Da hfD9 (by rw [hD9]; simp) (by intro ys; rw [hD9]; simp)
        have app := mt_append (X := X') _ s10 σ8 H10 (.ref Da) [v2] (.ref Da) [u2] (fun _ H' => H' = upd H10 Da (.lst (vs ++ [v2]))) I10 rfl (.cons r10 .nil) ⟨Da, vs, v2, rfl, rfl, hD10, Nat.lt_of_lt_of_le (Nat.lt_of_le_of_lt hlv hlt) hz, rfl⟩
        refine thn (show wpAny _ _ _ _ noX _ from app) fun _ s11 ⟨_, H11, I11, _, e11⟩ => ?_
        subst e11
        obtain ⟨t11, fr11⟩ := keepT I11
        have S10 : StRep c' σ8 H10 Hf10 ρ8 := (S8.grw g9).grw g10
        have gA : Grw H1 Hf1 (upd H10 Da (.lst (vs ++ [v2]))) Hf10 := grw_app ((g5.trans g79).trans g10) hH1D hfD10
        refine ⟨_, Nat.sub_lt_sub_left hlt (Nat.lt_succ_self i), i + 1, σ8, _, Hf10, vs ++ [v2], fq ++ f1, rfl, hlt, I11.unpinned, t11, ?_, gA, upd_same, hfD10, ?_, ?_, ?_, by rw [List.length_append]; exact Nat.succ_le_succ hlv, fr11⟩
        · refine (wk S10).apart hB0 hfD10 (fun ⟨_, z⟩ => by rw [hD10] at z; cases z) fun j r hj ho => fun z => ?_
          obtain ⟨b, eb, nb⟩ := howA j r hj ho
          obtain ⟨v', e3, q3⟩ := (wk S10).at_ j r hj (by rintro rfl; cases ho)
          rw [z] at e3; cases e3
          exact nb (rep_adr eb q3).symm
        · rw [tk]
          refine RepFs.mv (.refl _) _ (fun a ha e1 e2 => ⟨?_, e2⟩) (RepFs.snoc rf1 hr10)
          rw [upd_ne fun z => by rw [z, hD10] at e1; cases e1]; exact e1
        · rw [List.map_append, List.nodup_append]
          refine ⟨hnd5, nd1, fun a ha b hb z => ?_⟩
          subst z
          obtain ⟨p, hp, ep⟩ := List.mem_map.mp ha
          obtain ⟨q, hq', eq⟩ := List.mem_map.mp hb
          have e1 := g79.s _ _ (z0 p hp).1
          have e2 := fr1 q hq'
          rw [eq, ← ep, e1] at e2; cases e2
        · intro b hb
          rcases List.mem_append.mp hb with hb | hb
          · exact hfr5 b hb
          · exact (g5.trans g79).s.free (fr1 b hb)
    · have e : i = ds.length := Nat.le_antisymm hi (Nat.le_of_not_lt hlt)
      subst e
      refine thn (Tn.done X' rfl rfl rfl rfl ds.length [] s5 σ5 H5 noX I5 (fps fr5) t5 (io.stop _ H5 Hf5 g5.f g5.b (Nat.le_refl _))) fun r s6 ⟨hr, I6⟩ => ?_
      subst hr
      refine fin s6 σ5 H5 Hf5 vs fq I6 g5 hD5 hfD5 ?_ hnd5 hfr5
      rw [List.take_of_length_le (by rw [hol]; exact Nat.le_refl _)] at hr5
      exact hr5
  exact codeAny_compStart_list loop (Tn.self _ 0 _ _ _ (Tn.keep _ _ _ t0 fun b hb o e => k4 b o (k3 b o e)) loop)
theorem repFs_v {K : PySem.W.Frag} {H Hf : Hp} : ∀ {ds : List D} {vs : List V} {fq : Fp}, RepFs K H Hf (ds.map .v) vs fq → Reps K Hf ds vs
  | [], _, _, h => by simp only [List.map_nil, RepFs] at h; exact reps_nil.mpr h.1
  | d :: ds, _, _, h => by
    simp only [List.map_cons, RepFs, RepF] at h
    obtain ⟨x, r, f1, f2, rfl, h1, h2, -⟩ := h
    exact Reps.cons h1.1 (repFs_v h2)
theorem fm_v : ∀ os : List (Option D), (os.map (Option.map Sh.v)).filterMap id = (os.filterMap id).map Sh.v
  | [] => rfl
  | none :: os => fm_v os
  | some d :: os => congrArg (Sh.v d :: ·) (fm_v os)
theorem EvC.imp {T T' : Bool → Prop} (h : ∀ b, T b → T' b) : ∀ {ifs : List Expr} {ρ : List Sl}, EvC c ifs ρ T → EvC c ifs ρ T'
  | [], _, q => h _ q
  | _ :: _, _, q => fun σ H Hf Q S z => q σ H Hf Q S fun b H' Hf' hb g => z b H' Hf' ⟨fun e => EvC.imp h (hb.t e), fun e => h _ (hb.f e)⟩ g
theorem compO_of {tg elt : Expr} {ifs : List Expr} {ρ0 : List Sl} {d : D} {o : Option D} (h : CompP c tg ifs elt ρ0 d o) : CompO c tg ifs elt ρ0 d (o.map .v) := fun σ H Hf v Q S r q => h σ H Hf v Q S r fun σ' H' Hf' ρ' S' g hw => q σ' H' Hf' ρ' S' g ⟨hw.1, EvC.imp (fun b hb => ⟨fun e => fun σ2 H2 Hf2 Q2 S2 q2 => hb.t e σ2 H2 Hf2 Q2 S2 fun d2 v2 H3 Hf3 ed rv g3 => q2 (.va d2) v2 H3 Hf3 ⟨.v d2, by rw [ed]; rfl, rfl⟩ rv g3, fun e => by rw [hb.f e]; rfl⟩) hw.2⟩
theorem x_compG {elt tg iter : Expr} {ifs : List Expr} {scope : Scope} {N' : List Str} {ρ0 : (Str → Addr) → List Sl} {R : Sl → Prop} (hq : c.X.xe = noX) (hfr : ∀ t, FrS t scope.names N ρ N' (ρ0 t))
    (h : EvI c tg iter ρ fun ds => Sd (ds.length ≤ sizeLine) (∃ os : List (Option D), os.length = ds.length ∧
      (∀ c' : Ctx P w K mg base k N' (blkScope scope sc) true, c'.X.xe = noX → ∀ (t : Str → Addr) (i : Nat) (d : D) (o : Option D), ds[i]? = some d → os[i]? = some o → CompP c' tg ifs elt (ρ0 t) d o) ∧ R (.ow (os.filterMap id))))
    (hcp : CpB scope sc N' := by decide +kernel)
    (hs : ∀ env v, foldedSetIterable iter env v = pure v := by intro _ _; with_unfolding_all rfl)
    {σ : L2.St} {H Hf : Hp} (S : StRep c σ H Hf ρ) {pins : List (Addr × Obj)} {s : Shared} (I : Inv c.X pins σ H s) {use : Option (Value → Sem Unit)} {QQ : Value → Shared → Prop}
    (kont : ∀ (s' : Shared) (H' Hf' : Hp) (a C : Addr) (r : Sl), R r → (∃ m, s'.heap.Ns C m) → C ∉ c.X.fs → FpOk c.X pins H' C → RepS c.X.K (fun p => H p = none) H' Hf' r (.ref a) → Grw H Hf H' Hf' → (∀ h5, Heap.SameBut C s'.heap h5 → Inv c.X pins σ H' { s' with heap := h5 }) → compPost (model c.X.prog c.X.w) c.X.A noX use QQ (.ref a) C (.ok .next) s') :
    wpAny (model c.X.prog c.X.w) c.X.A (comprehension (.ListComp elt [⟨tg, iter, ifs, 0⟩] scope pos) scope c.X.env (firstIterPos [⟨tg, iter, ifs, 0⟩] pos) (newList []) (firstAsync [⟨tg, iter, ifs, 0⟩]) (firstIter [⟨tg, iter, ifs, 0⟩] c.X.env) use) QQ noX s := by
  refine x_compI (R := fun ss => ∃ os : List D, ss = os.map .v ∧ R (.ow os)) hq hfr (fun σ' H' Hf' Q S' q => h σ' H' Hf' Q S' fun ds J H1 Hf1 hd => q ds J H1 Hf1 ⟨hd.1, hd.2.elim fun os ho => ⟨os.map (Option.map .v), by rw [List.length_map]; exact ho.1, fun c' hc t i d o e1 e2 => ?_, os.filterMap id, ?_, ho.2.2⟩⟩) hcp hs S I fun s' H' Hf' a C ss vs fq hR hC1 hC2 hC3 ha h1 h2 r nd fr g hJ => ?_
  · rw [List.getElem?_map, Option.map_eq_some_iff] at e2
    obtain ⟨o', e3, rfl⟩ := e2
    exact compO_of (ho.2.1 c' hc t i d o' e1 e3)
  · exact fm_v os
  · obtain ⟨os, rfl, hR⟩ := hR
    exact kont s' H' Hf' a C (.ow os) hR hC1 hC2 hC3 ⟨a, vs, rfl, ha, h1, h2, repFs_v r⟩ g hJ
theorem x_comp {elt tg iter : Expr} {ifs : List Expr} {scope : Scope} {N' : List Str} {ρ0 : (Str → Addr) → List Sl} {R : Sl → Prop} (hq : c.X.xe = noX) (hfr : ∀ t, FrS t scope.names N ρ N' (ρ0 t))
    (h : EvI c tg iter ρ fun ds => Sd (ds.length ≤ sizeLine) (∃ os : List (Option D), os.length = ds.length ∧
      (∀ c' : Ctx P w K mg base k N' (blkScope scope sc) true, c'.X.xe = noX → ∀ (t : Str → Addr) (i : Nat) (d : D) (o : Option D), ds[i]? = some d → os[i]? = some o → CompP c' tg ifs elt (ρ0 t) d o) ∧ R (.ow (os.filterMap id))))
    (hcp : CpB scope sc N' := by decide +kernel)
    (hs : ∀ env v, foldedSetIterable iter env v = pure v := by intro _ _; with_unfolding_all rfl) : EvX c (.ListComp elt [⟨tg, iter, ifs, 0⟩] scope pos) ρ R := fun σ H Hf Q S q pins s I => by
  rw [hq]
  rw [show (eval (.ListComp elt [⟨tg, iter, ifs, 0⟩] scope pos) c.X.env) = comprehension (.ListComp elt [⟨tg, iter, ifs, 0⟩] scope pos) scope c.X.env (firstIterPos [⟨tg, iter, ifs, 0⟩] pos) (newList []) (firstAsync [⟨tg, iter, ifs, 0⟩]) (firstIter [⟨tg, iter, ifs, 0⟩] c.X.env) from rfl]
  exact x_compG hq hfr h hcp hs S I fun s' H' Hf' a C r hr ⟨m, hm⟩ _ _ hrep g hJ => ⟨m, hm, fun h5 hsb5 => ⟨.ref a, H', hJ h5 hsb5, rfl, q r _ H' Hf' hr hrep g⟩⟩
theorem samebut_refl {a : Addr} {h : Heap} : Heap.SameBut a h h := ⟨rfl, fun _ _ => rfl⟩
/-- nothing that is tracked is at C: what is there may become anything -/
theorem inv_but {X : Cx} {pins : List (Addr × Obj)} {σ : L2.St} {H : Hp} {s : Shared} {C : Addr} {h5 : Heap} (I : Inv X pins σ H s) (hC : FpOk X pins H C) (hsb : Heap.SameBut C s.heap h5) : Inv X pins σ H { s with heap := h5 } := by
  refine I.call' (ch := [C]) rfl ⟨fun b o e _ _ hx => ?_, fun b o e _ _ hx => ⟨o.slots, ?_⟩, fun b o e n _ => n, fun b o e hx => ⟨o, ?_⟩, fun b xs e => e, fun b o u e => e, fun b ps e => ⟨#[], by simpa using e⟩⟩ (fun b u e => (I.hok b u e).stay (fun a o ha e2 => ?_) (fun _ z => z) fun _ _ z => z) I.bare fun b hb => ?_
  · exact (hsb.2 b (fun z => hx (by rw [z]; exact List.mem_cons_self))).trans e
  · exact (hsb.2 b (fun z => hx (by rw [z]; exact List.mem_cons_self))).trans e
  · exact (hsb.2 b (fun z => hx (by rw [z]; exact List.mem_cons_self))).trans e
  · refine (hsb.2 a ?_).trans e2
    intro z; subst z
    rcases ha with z | z
    · subst z; rw [hC.1] at e; cases e
    · rw [hC.1] at z; cases z
  · have : b = C := by simpa using hb
    subst this
    exact ⟨hC.2.2.2.1, hC.2.1, hC.2.2.2.2.1, hC.2.2.2.2.2⟩
/-- name = [.. for .. in ..] on one row -/
theorem s_setC {elt tg iter : Expr} {ifs : List Expr} {scope : Scope} {N' : List Str} {ρ0 : (Str → Addr) → List Sl} {nx : List Sl → Prop} {p : Pt} {x : Str} {pos2 posA : Pos} {i : Nat} (hN : At N i x) (hq : c.X.xe = noX) (hfr : ∀ t, FrS t scope.names N ρ N' (ρ0 t))
    (h : EvI c tg iter ρ fun ds => Sd (ds.length ≤ sizeLine) (∃ os : List (Option D), os.length = ds.length ∧
      (∀ c' : Ctx P w K mg base k N' (blkScope scope sc) true, c'.X.xe = noX → ∀ (t : Str → Addr) (i : Nat) (d : D) (o : Option D), ds[i]? = some d → os[i]? = some o → CompP c' tg ifs elt (ρ0 t) d o) ∧ Nx ρ i nx (.ow (os.filterMap id))))
    (hsw : (pos2.line == pos.line && !scope.names.any fun (n, k) => n == x && (k == NameKind.local || k == NameKind.cell)) = true := by decide +kernel) (hl : sc.names.lookup x = some .local := by with_unfolding_all rfl)
    (hcp : CpB scope sc N' := by decide +kernel)
    (hs : ∀ env v, foldedSetIterable iter env v = pure v := by intro _ _; with_unfolding_all rfl) : EvS c (.Assign [.Name x pos2] (.ListComp elt [⟨tg, iter, ifs, 0⟩] scope pos) posA) ρ nx p := fun σ H Hf D S o pins s I => by
  have hsw' : swapsWith (.ListComp elt [⟨tg, iter, ifs, 0⟩] scope pos) (some (.Name x pos2)) posA.line c.X.env = pure true := by
    have e1 : c.X.env.blockKind = .function := by unfold Env.blockKind; rw [show c.X.env.scope.kind = .function from I.ok.kind]; rfl
    have e2 : c.X.env.kindOf x = some .local := by unfold Env.kindOf; rw [c.esc]; exact hl
    show pure (c.X.env.blockKind == ScopeKind.function && c.X.env.kindOf x == some NameKind.local && pos2.line == pos.line && !scope.names.any fun (n, k) => n == x && (k == NameKind.local || k == NameKind.cell)) = pure true
    rw [e1, e2]; exact congrArg pure hsw
  rw [hq, exec_Assign_Name_used x pos2 _ posA hsw']
  refine wpAny_bind (wpAny_standAt ?_)
  refine wpAny_bind ?_
  rw [show (evalThenUse (.ListComp elt [⟨tg, iter, ifs, 0⟩] scope pos) c.X.env (assign (.Name x pos2) c.X.env)) = (do let _ ← comprehension (.ListComp elt [⟨tg, iter, ifs, 0⟩] scope pos) scope c.X.env (firstIterPos [⟨tg, iter, ifs, 0⟩] pos) (newList []) (firstAsync [⟨tg, iter, ifs, 0⟩]) (firstIter [⟨tg, iter, ifs, 0⟩] c.X.env) (some (assign (.Name x pos2) c.X.env)); pure ()) from rfl]
  refine wpAny_bind (x_compG hq hfr h hcp hs S I fun s' H' Hf' a C r hr ⟨m, hm⟩ hCX hCf hrep g hJ => ?_)
  have J := hJ s'.heap samebut_refl
  obtain ⟨oC, es, ep, e1, e2, e3, e4⟩ := hm
  have fps : ∀ b ∈ [C], FpOk c.X pins H' b := fun b hb => by rw [List.mem_singleton.mp hb]; exact hCf
  have hob : ∀ b ∈ [C], ∃ o, s'.heap.get? b = some o ∧ ∀ v : Option Value, o.data ≠ .cell v := fun b hb => by
    rw [List.mem_singleton.mp hb]; exact ⟨oC, e1, fun v z => by rw [e2] at z; cases z⟩
  have J2 := J.pinned fps hob
  have hmem : (C, oC) ∈ pinsAt [C] s'.heap := mem_pinsAt List.mem_cons_self e1
  obtain ⟨ρ', hset, hx⟩ := hr
  have st := bG_of (pg_name (X := c.X) (i := i) (pos := pos2) (by rw [c.eN]; exact c.nd) (by rw [c.eN]; exact hN.get) (by rw [c.esc]; exact c.vis x hN.mem) (c.fn x (.inr hl))) (v := .ref a) (σ := σ) (H := H') (Q := fun σ' H'' => D.nx σ' H'') (o.nx _ H' Hf' _ (hset.eq ▸ S.set g hrep) hx) _ s' (.ref a) J2 rfl
  rw [hq] at st
  refine thn st fun _ s'' ⟨σ', H'', I'', dn⟩ => ?_
  have pC := I''.pin (C, oC) (List.mem_append_right _ (List.mem_append_right _ hmem))
  refine ⟨m, ⟨oC, es, ep, pC.1, e2, e3, e4⟩, fun h' hsb => ?_⟩
  have I3 : Inv c.X pins σ' H'' s'' := I''.unpinned
  have I4 := inv_but I3 (C := C) ⟨pC.2.1, hCf.2⟩ hsb
  exact wpAny_pure (wpAny_pure ⟨_, _, I4, dn⟩)
end

/-! ## data that hold no list -/
mutual
def D.nl : D → Prop
  | .lst _ => False
  | .fdK _ _ => False
  | .fdT _ _ => False
  | .tup ds => D.nls ds
  | _ => True
def D.nls : List D → Prop
  | [] => True
  | d :: ds => d.nl ∧ D.nls ds
end
theorem nl_int {i : Int} : (D.int i).nl := by simp [D.nl]
/-- a list or a dict, what may be owned -/
def HO.mt : HO → Prop | .lst _ => True | .dK _ => True | .dT _ => True | _ => False
theorem same_del' {Hf : Hp} {p : Addr} {K : PySem.W.Frag} {a : Addr} {xs : List V} {o : HO} (hp : Hf p = some o) (hm : HO.mt o) (h : SqT K Hf a xs) : SqT K (del Hf p) a xs := by
  rcases h with (h | ⟨o', h⟩) | h
  · exact .inl (.inl (by rw [del_ne (by rintro rfl; rw [hp] at h; cases h; exact hm)]; exact h))
  · exact .inl (.inr ⟨o', by rw [del_ne (by rintro rfl; rw [hp] at h; cases h; exact hm)]; exact h⟩)
  · exact .inr h
mutual
theorem nl_del {K : PySem.W.Frag} {Hf : Hp} {p : Addr} {o : HO} (hp : Hf p = some o) (hm : HO.mt o) : ∀ (d : D) {v : V}, d.nl → Rep K Hf d v → Rep K (del Hf p) d v
  | .non, _, _, h => by simpa [Rep] using h
  | .bl _, _, _, h => by simpa [Rep] using h
  | .int _, _, _, h => by simpa [Rep] using h
  | .str _, _, _, h => by simpa [Rep] using h
  | .adr _, _, _, h => by simpa [Rep] using h
  | .tup ds, v, f, h => by
    simp only [Rep] at h ⊢
    obtain ⟨a, xs, e, h1, h2⟩ := h
    exact ⟨a, xs, e, same_del' hp hm h1, nls_del hp hm ds (by simpa [D.nl] using f) h2⟩
  | .lst _, _, f, _ => by simp [D.nl] at f
  | .fdK _ _, _, f, _ => by simp [D.nl] at f
  | .fdT _ _, _, f, _ => by simp [D.nl] at f
  | .exc C, _, _, h => by
    simp only [Rep] at h ⊢
    obtain ⟨a, dx, e, h, g⟩ := h
    exact ⟨a, dx, e, by rw [del_ne (by rintro rfl; rw [hp] at h; cases h; exact hm)]; exact h, by rw [del_ne (by rintro rfl; rw [hp] at g; cases g; exact hm)]; exact g⟩
theorem nls_del {K : PySem.W.Frag} {Hf : Hp} {p : Addr} {o : HO} (hp : Hf p = some o) (hm : HO.mt o) : ∀ (ds : List D) {xs : List V}, D.nls ds → Reps K Hf ds xs → Reps K (del Hf p) ds xs
  | [], _, _, h => by simpa [Reps] using h
  | d :: ds, xs, f, h => by
    simp only [Reps] at h ⊢
    simp only [D.nls] at f
    obtain ⟨x, r, e, h1, h2⟩ := h
    exact ⟨x, r, e, nl_del hp hm d f.1 h1, nls_del hp hm ds f.2 h2⟩
end
section
variable {P : Program} {w : World} {K : PySem.W.Frag} {mg : Str → Option Value} {base : Heap} {k : Nat} {N : List Str} {sc : Scope} {bk : Bool} {c : Ctx P w K mg base k N sc bk} {ρ ρ' : List Sl} {pos ap cp px tp : Pos} {a b e f : Expr} {es : List Expr} {R : D → Prop} {T : Bool → Prop} {nx : List Sl → Prop} {p : Pt} {x : Str} {i : Nat} {r : Sl} {ds : List D}
def Sl.froz : Sl → Option D
  | .ow ds => some (.lst ds) | .aw _ ds => some (.lst ds)
  | _ => none
theorem froz_owned {d : D} (h : r.froz = some d) : r.owned = true := by cases r <;> first | rfl | cases h
theorem kvr_keys {κ : Type} {Hf : Hp} {kvs : List (κ × D)} {xs : List (κ × V)} (h : KVR K Hf kvs xs) : xs.map (·.1) = kvs.map (·.1) ∧ Reps K Hf (kvs.map (·.2)) (xs.map (·.2)) := by
  unfold KVR at h
  induction h with
  | nil => exact ⟨rfl, reps_nil.mpr rfl⟩
  | cons h t ih => exact ⟨by rw [List.map_cons, List.map_cons, ih.1, h.1], .cons h.2 ih.2⟩
theorem tvr_keys {Hf : Hp} {kvs : List (List Key × D)} {xs : List (List Key × Addr × V)} (h : TVR K Hf kvs xs) : xs.map (·.1) = kvs.map (·.1) ∧ (∀ y ∈ xs, SqT K Hf y.2.1 (y.1.map kV)) ∧ Reps K Hf (kvs.map (·.2)) (xs.map (·.2.2)) := by
  refine ⟨?_, h.keysT, ?_⟩
  · unfold TVR at h
    induction h with
    | nil => rfl
    | cons h t ih => rw [List.map_cons, List.map_cons, ih, h.1]
  · unfold TVR at h
    induction h with
    | nil => exact reps_nil.mpr rfl
    | cons h t ih => exact .cons h.2.2 ih
theorem RepS.froz {fr : Addr → Prop} {H Hf : Hp} {d : D} {v : V} (h : r.froz = some d) (q : RepS K fr H Hf r v) : ∃ p o, v = .ref p ∧ fr p ∧ H p = some o ∧ Hf p = none ∧ HO.mt o ∧ Rep K (upd Hf p o) d v := by
  have sf : ∀ {p : Addr} {o : HO}, Hf p = none → Same Hf (upd Hf p o) := fun hp b u e => by rw [upd_ne (ne_of_none e hp)]; exact e
  cases r with
  | ow ds => cases h; obtain ⟨p, xs, rfl, f, h1, h2, h3⟩ := q; exact ⟨p, _, rfl, f, h1, h2, trivial, rep_lst.mpr ⟨p, xs, rfl, .inl (.inl upd_same), h3.mono (sf h2)⟩⟩
  | aw a ds => cases h; obtain ⟨p, xs, rfl, f, h1, h2, h3⟩ := q; exact ⟨p, _, rfl, f.1, h1, h2, trivial, rep_lst.mpr ⟨p, xs, rfl, .inl (.inl upd_same), h3.mono (sf h2)⟩⟩
  | _ => cases h
theorem StR.freezeA {d : D} {H₀ Hf₀ H Hf : Hp} {σ : L2.St} (S : StR K H₀ Hf₀ σ H Hf ρ) (h : ρ[i]? = some r) (hr : r.froz = some d) :
    ∃ q o, H q = some o ∧ Hf q = none ∧ HO.mt o ∧ StR K H₀ Hf₀ σ H (L2.upd Hf q o) (ρ.set i (.va d)) := by
  obtain ⟨q, ev, rq⟩ := S.own h (froz_owned hr)
  obtain ⟨_, o, e0, fq, hq, hfq, hm, rd⟩ := rq.froz hr
  cases e0
  have hi : i < ρ.length := (List.getElem?_eq_some_iff.mp h).1
  have hown := froz_owned hr
  have sf : Same Hf (L2.upd Hf q o) := fun b u e => by rw [L2.upd_ne (ne_of_none e hfq)]; exact e
  have sb : Same (L2.upd Hf q o) H := fun b u e => by
    by_cases z : b = q
    · subst z; rw [L2.upd_same] at e; rw [hq]; exact e
    · rw [L2.upd_ne z] at e; exact S.sb b u e
  refine ⟨q, o, hq, hfq, hm, ⟨S.bas.s, S.bas.f.trans sf, sb, fun b h1 h2 h3 => ?_⟩, by simp [S.len], fun j r' hj hu => ?_, fun j j' r1 r2 q' hne h1 h2 o1 o2 => ?_⟩
  · have e := S.bas.n b h1 h2 h3
    by_cases z : b = q
    · subst z; exact absurd fq h2
    · rw [L2.upd_ne z]; exact e
  · by_cases z : j = i
    · subst z
      rw [List.getElem?_set_self hi] at hj
      cases hj
      exact ⟨_, ev, rd⟩
    · rw [List.getElem?_set_ne (Ne.symm z)] at hj
      obtain ⟨v, e1, e2⟩ := S.at_ j r' hj hu
      refine ⟨v, e1, ?_⟩
      have key : r'.owned = true → v ≠ .ref q := fun ho z => by
        subst z
        exact S.sep i j _ _ q (Ne.symm ‹_›) h hj hown ho ev e1
      exact RepS.mv (B := fun z => z = q) sf (fun z u hz e1 _ e3 => ⟨e1, by rw [L2.upd_ne hz]; exact e3⟩) (by rintro _ z rfl ⟨ys, e9⟩; rw [hq] at e9; cases e9; exact hm) (fun ho z e => by rintro rfl; exact key ho e) e2
  · have out : ∀ {j : Nat} {r : Sl}, (ρ.set i (.va d))[j]? = some r → r.owned = true → ρ[j]? = some r := fun {j r} hj ho => by
      by_cases z : j = i
      · subst z; rw [List.getElem?_set_self hi] at hj; cases hj; cases ho
      · rw [List.getElem?_set_ne (Ne.symm z)] at hj; exact hj
    exact S.sep j j' r1 r2 q' hne (out h1 o1) (out h2 o2) o1 o2
theorem grw_thaw {H Hf H' Hf' : Hp} {q : Addr} {o : HO} (sb : Same Hf H) (hq : H q = some o) (hfq : Hf q = none) (g : Grw H (upd Hf q o) H' Hf') : Grw H Hf H' (del Hf' q) :=
  ⟨g.s, fun b o e => by rw [del_ne (ne_of_none e hfq)]; exact g.f b o (by rw [upd_ne (ne_of_none e hfq)]; exact e), fun b o e => by obtain ⟨_, e2⟩ := del_some e; exact g.b b o e2, fun b h1 h2 h3 => by
    by_cases z : b = q
    · subst z; exact del_same
    · rw [del_ne z]; exact g.n b (by rw [upd_ne z]; exact h1) h2 h3⟩
section
variable {d0 : D}
theorem e_bor (i : Nat) (hi : At ρ i r) (hr : r.froz = some d0) (hs : SSet ρ i (.va d0) ρ') (h : EvE c e ρ' fun d => Sd d.nl (R d)) : EvE c e ρ R := fun σ H Hf Q S q => by
  obtain ⟨a, o, ha, hfa, hm, S1⟩ := S.freezeA hi.get hr
  rw [← hs.eq] at S1
  exact h σ H _ Q S1 fun d v H' Hf' ⟨fl, rd⟩ rv g => q d v H' _ rd (nl_del (g.f a _ upd_same) hm d fl rv) (grw_thaw S.sb ha hfa g)
theorem ss_frz {st : List Stmt} (i : Nat) (hi : At ρ i r) (hr : r.froz = some d0) (hs : SSet ρ i (.va d0) ρ') (h : EvSs c st ρ' nx p) : EvSs c st ρ nx p := fun σ H Hf D S o => by
  obtain ⟨a, ob, ha, hfa, hm, S1⟩ := S.freezeA hi.get hr
  rw [← hs.eq] at S1
  exact h σ H _ D S1 o
end
/-! ### an owned list, read -/
theorem e_ixO {p2 : Pos} (hN : At N i x) (hi : At ρ i r) (hr : r.froz = some (.lst ds)) (hs : SSet ρ i (.va (.lst ds)) ρ') (h : EvE c b ρ' fun y => Sd y.nl (∃ j d, y = .int j ∧ atI ds j = some d ∧ Sd d.nl (R d))) (hx : At ρ' i (.va (.lst ds)))
    (hd : (x == ("__debug__" : Str)) = false := by decide) (hcd : (x == ("__classdict__" : Str)) = false := by decide) (hp : PlainIx b := by with_unfolding_all exact fun _ _ => rfl) : EvE c (.Subscript (.Name x p2) b pos) ρ R :=
  e_bor i hi hr hs (e_ix (e_var hN hx (h.imp fun y ⟨_, j, d, e1, e2, e3⟩ => ⟨ds, j, d, rfl, e1, e2, e3⟩) hd hcd) hp)
theorem SSet.at {α : Type} {l l' : List α} {i : Nat} {r : α} (h : SSet l i r l') : At l' i r := by
  induction h with
  | z => exact .z
  | s _ ih => exact .s ih
theorem e_lenO {p1 p2 : Pos} (hm : mg (Str.ofString "len") = none) (hN : At N i x) (hi : At ρ i r) (hr : r.froz = some (.lst ds)) (hs : SSet ρ i (.va (.lst ds)) ρ') (h : R (.int ds.length)) (hg : sc.names.lookup (Str.ofString "len") = some .globalImplicit := by with_unfolding_all rfl)
    (hd : (x == ("__debug__" : Str)) = false := by decide) (hcd : (x == ("__classdict__" : Str)) = false := by decide)
    (he : ∀ env, starEach [.Name x p2] env = (false, eval (.Name x p2) env) :: starEach [] env := by intro _; with_unfolding_all rfl) : EvE c (.Call (.Name (Str.ofString "len") p1) [.Name x p2] [] pos) ρ R :=
  e_bor i hi hr hs (e_len hm (e_var hN hs.at ⟨ds, rfl, nl_int, h⟩ hd hcd) hg he)
end
end EV

set_option maxHeartbeats 0
namespace EV
open PySem PySem.Spec PyProof.Rows L2
section
variable {P : Program} {w : World} {K : PySem.W.Frag} {mg : Str → Option Value} {base h : Heap}
def DefIn (K : PySem.W.Frag) (mg : Str → Option Value) (x : Str) (st : Stmt) : Prop := ∃ f fd, mg x = some (.ref f) ∧ Fun K x x st f fd
theorem def_mk {x : Str} {st : Stmt} {f : Addr} {oc : Value} {od an : Option Addr} {osl : Array (Option Value)} {kV doc pm cdv ct : Value} (KX : K.In h) (G : h.Ns mainGlobals mg) (a : PySem.W.nsIn K mainGlobals x = some (some (.ref f)))
    (l : K.lookup f = some ⟨oc, od, .func (PySem.W.fnOf x x (defArgs st) (defBody st) (defScope st) .none kV doc pm an cdv ct), osl⟩) (c : PySem.W.codeIn K cdv x = true) (k : PySem.W.keepIn K (.ref f) = true) : DefIn K mg x st :=
  ⟨f, _, PySem.W.mg_of KX G a, fun_mk l c k⟩
theorem kit_ty {t : Value} {T : String} {b : Bool} (e : (t == Value.type T) = false) (m : PySem.W.kitMeta T = true) (s : PySem.W.subIn K t (.type T) = some b) : PySem.W.kitOne K t (.type T) = some b := by
  unfold PySem.W.kitOne PySem.W.kitCls
  simp [e, m, s]
theorem kit_same {t : Value} (e : (t == t) = true) : PySem.W.kitOne K t t = some true := by
  unfold PySem.W.kitOne
  simp [e]
/-- no built-in name is taken -/
structure Txt (K : PySem.W.Frag) (mg : Str → Option Value) : Prop where
  abs : mg (Str.ofString "abs") = none
  len : mg (Str.ofString "len") = none
  isin : mg (Str.ofString "isinstance") = none
  range : mg (Str.ofString "range") = none
  int : mg (Str.ofString "int") = none
  bool : mg (Str.ofString "bool") = none
  tuple : mg (Str.ofString "tuple") = none
  list : mg (Str.ofString "list") = none
  max : mg (Str.ofString "max") = none
  min : mg (Str.ofString "min") = none
  sum : mg (Str.ofString "sum") = none
  sorted : mg (Str.ofString "sorted") = none
  zip : mg (Str.ofString "zip") = none
  enum : mg (Str.ofString "enumerate") = none
  all : mg (Str.ofString "all") = none
  any : mg (Str.ofString "any") = none
  dict : mg (Str.ofString "dict") = none
  ib : PySem.W.kitOne K (.type "int") (.type "bool") = some false
theorem Txt.c_int (T : Txt K mg) : ClsName mg (Str.ofString "int") (.type "int") := .inr ⟨_, rfl, T.int, by decide +kernel, by decide +kernel⟩
theorem Txt.c_bool (T : Txt K mg) : ClsName mg (Str.ofString "bool") (.type "bool") := .inr ⟨_, rfl, T.bool, by decide +kernel, by decide +kernel⟩
theorem Txt.c_tuple (T : Txt K mg) : ClsName mg (Str.ofString "tuple") (.type "tuple") := .inr ⟨_, rfl, T.tuple, by decide +kernel, by decide +kernel⟩
theorem kit_ii : PySem.W.kitOne K (.type "int") (.type "int") = some true := kit_same (by decide)
theorem kit_bb : PySem.W.kitOne K (.type "bool") (.type "bool") = some true := kit_same (by decide)
theorem kit_tt : PySem.W.kitOne K (.type "tuple") (.type "tuple") = some true := kit_same (by decide)
theorem txt_mk (KX : K.In h) (G : h.Ns mainGlobals mg)
    (z1 : PySem.W.nsIn K mainGlobals (Str.ofString "abs") = some none)
    (z2 : PySem.W.nsIn K mainGlobals (Str.ofString "len") = some none)
    (z3 : PySem.W.nsIn K mainGlobals (Str.ofString "isinstance") = some none)
    (z4 : PySem.W.nsIn K mainGlobals (Str.ofString "range") = some none)
    (z5 : PySem.W.nsIn K mainGlobals (Str.ofString "int") = some none)
    (z6 : PySem.W.nsIn K mainGlobals (Str.ofString "bool") = some none)
    (z7 : PySem.W.nsIn K mainGlobals (Str.ofString "tuple") = some none)
    (z8 : PySem.W.nsIn K mainGlobals (Str.ofString "list") = some none)
    (z9 : PySem.W.nsIn K mainGlobals (Str.ofString "max") = some none)
    (z10 : PySem.W.nsIn K mainGlobals (Str.ofString "min") = some none)
    (z11 : PySem.W.nsIn K mainGlobals (Str.ofString "sum") = some none)
    (z12 : PySem.W.nsIn K mainGlobals (Str.ofString "sorted") = some none)
    (z13 : PySem.W.nsIn K mainGlobals (Str.ofString "zip") = some none)
    (z14 : PySem.W.nsIn K mainGlobals (Str.ofString "enumerate") = some none)
    (z15 : PySem.W.nsIn K mainGlobals (Str.ofString "all") = some none)
    (z16 : PySem.W.nsIn K mainGlobals (Str.ofString "any") = some none)
    (z17 : PySem.W.nsIn K mainGlobals (Str.ofString "dict") = some none)
    (sib : PySem.W.subIn K (.type "int") (.type "bool") = some false) : Txt K mg :=
  ⟨PySem.W.mg_none_of KX G z1, PySem.W.mg_none_of KX G z2, PySem.W.mg_none_of KX G z3, PySem.W.mg_none_of KX G z4, PySem.W.mg_none_of KX G z5, PySem.W.mg_none_of KX G z6, PySem.W.mg_none_of KX G z7, PySem.W.mg_none_of KX G z8,
   PySem.W.mg_none_of KX G z9, PySem.W.mg_none_of KX G z10, PySem.W.mg_none_of KX G z11, PySem.W.mg_none_of KX G z12, PySem.W.mg_none_of KX G z13, PySem.W.mg_none_of KX G z14, PySem.W.mg_none_of KX G z15, PySem.W.mg_none_of KX G z16, PySem.W.mg_none_of KX G z17,
   kit_ty (by decide) (by decide) sib⟩
theorem len0 {α : Type} (us : List α) (h : us.length = 0) : us = [] := by match us, h with | [], _ => rfl
theorem len1 {α : Type} (us : List α) (h : us.length = 1) : ∃ a, us = [a] := by match us, h with | [a], _ => exact ⟨a, rfl⟩
theorem len2 {α : Type} (us : List α) (h : us.length = 2) : ∃ a b, us = [a, b] := by match us, h with | [a, b], _ => exact ⟨a, b, rfl⟩
theorem len3 {α : Type} (us : List α) (h : us.length = 3) : ∃ a b c, us = [a, b, c] := by match us, h with | [a, b, c], _ => exact ⟨a, b, c, rfl⟩
theorem cal_of (P : Program) (w : World) (base : Heap) {k : Nat} {x : Str} {st : Stmt} {F : Fn} {ps : List Str} (D : DefIn K mg x st) (ok : ∀ {f : Addr} {fd : FuncData}, Fun K x x st f fd → FnOk P w K mg base (CXE P w) k f fd ps (spF K F))
    (hb : ∀ (kV doc pm : Value) (an : Option Addr) (cdv ct : Value) (us : List Value), us.length = ps.length → bindArgs (PySem.W.fnOf x x (defArgs st) (defBody st) (defScope st) .none kV doc pm an cdv ct) ⟨us, []⟩ = pure (ps.zip us) := by intro _ _ _ _ _ _ us hl; first | (obtain ⟨a, rfl⟩ := len1 us hl; rfl) | (obtain ⟨a, b, rfl⟩ := len2 us hl; rfl) | (obtain ⟨a, b, c, rfl⟩ := len3 us hl; rfl) | (obtain ⟨a, b, c, d, rfl⟩ := len4 us hl; rfl) | (obtain ⟨a, b, c, d, e, rfl⟩ := len5 us hl; rfl) | (obtain ⟨a, b, c, d, e, f, rfl⟩ := len6 us hl; rfl) | (obtain rfl := len0 us hl; rfl)) : Cal P w K mg base k x F :=
  let ⟨f, fd, m, Fu⟩ := D; ⟨f, fd, ps, m, Fu.kp, Fu.binds hb, ok Fu⟩
def Flaw : Fn := fun ds r => ∃ ns : List Int, ns.length ≤ 63 ∧ ds = [.lst (ns.map D.int)] ∧ r = .ok (.va (.bl true))
theorem law_ok {K : PySem.W.Frag} (H : Hp) (a : Addr) (ns : List Int) (hl : ns.length ≤ 63) (hS : SqL K H a (ns.map V.int)) : spF K Flaw [.ref a] H (fun v _ => v = .bl true) fun _ _ _ => False :=
  ⟨H, [.lst (ns.map D.int)], .ok (.va (.bl true)), .refl H, .cons (rep_lst.mpr ⟨a, _, rfl, hS, reps_ints ns⟩) (reps_nil.mpr rfl), ⟨ns, hl, rfl, rfl⟩, fun v H' Hf' _ r => (rep_bl (K := K) (H := Hf')).mp r⟩
theorem walk {k : Nat} {l : PySem.W.OpenLaw} {q : Program} {loose : List Str} {XP : (Str → Option Value) → Heap → Prop} {YP : World → Heap → Prop} {d : DefRec} {K : Params → PySem.W.Frag} (hk : k ≤ 20) (hn : l.most = some 63) (hdf : d.params.defaults = [])
    (hY : ∀ (w : World) (h : Heap), YP w h → (K w.params).In h)
    (F : ∀ (w : World) (mg : Str → Option Value) (fa : Addr) (h : Heap), (K w.params).In h → h.Ns mainGlobals mg → mg d.name = some (.ref fa) →
      ∃ fd : FuncData, (∀ (s : Shared) (u : Value), BindsTo s fd ⟨[u], []⟩ [("_law_script", u)]) ∧ ∀ base : Heap, (K w.params).In base → base.Ns mainGlobals mg → FnOk l.prog w (K w.params) mg base (CXE l.prog w) 20 fa fd ["_law_script"] (spF (K w.params) Flaw)) :
    PySem.W.WalkO q loose XP YP l.row.toRowW d [] (fun f vs => PySem.call f vs) :=
  L2.walk_of (n := 63) (k := 20) (x := "_law_script") (CX := fun w => CXE l.prog w) (sp := fun w => spF (K w.params) Flaw) hn (by decide) hdf ⟨rfl, by decide, by decide⟩ hY F (fun _ H a ns hl _ hS => law_ok H a ns hl hS) fun _ _ _ _ _ ⟨_, _, _, _, _, q⟩ => q
end
/-! fractions -/
/-! sums, differences, products go over fractions in lowest terms -/
section
variable {a b c d : Int}
end
theorem atI_pos {α : Type} {xs : List α} {j : Int} (h0 : 0 ≤ j) (h1 : j < xs.length) : atI xs j = xs[j.toNat]? := by
  unfold atI ixN
  rw [if_pos h0, if_pos h1]; rfl
theorem bits_few {a : Int} (h : a.natAbs < 2 ^ 63) : Builtin.Int.intBits a ≤ 64 := by
  unfold Builtin.Int.intBits
  by_cases z : a = 0
  · subst z; decide
  · have e : (a == 0) = false := by simpa using z
    rw [e, if_neg Bool.false_ne_true]
    have := (Nat.log2_lt (n := a.natAbs) (k := 63) (by lia)).mpr h
    lia
theorem mul_l {a b : Int} (h : a.natAbs < 2 ^ 63) : EV.MulOk a b := IntMulOk.of_left (bits_few h)
section
variable {P : Program} {w : World} {K : PySem.W.Frag} {mg : Str → Option Value} {base : Heap} {k : Nat} {N : List Str} {sc : Scope} {bk : Bool} {c : Ctx P w K mg base k N sc bk} {ρ : List Sl} {pos : Pos} {t : Expr} {A B : List Stmt} {nx : List Sl → Prop} {p : Pt}
theorem s_ifJ (I : List Sl → Prop) (h : EvT c t ρ (If2 (EvSs c A ρ I p) (EvSs c B ρ I p))) (hI : ∀ ρ', I ρ' → nx ρ') : EvS c (.If t A B pos) ρ nx p :=
  s_if (h.imp fun x hx => ⟨fun e σ H Hf D S o => hx.t e σ H Hf D S ⟨fun σ H Hf ρ S q => o.nx σ H Hf ρ S (hI _ q), o.rt, o.bk, o.ct⟩, fun e σ H Hf D S o => hx.f e σ H Hf D S ⟨fun σ H Hf ρ S q => o.nx σ H Hf ρ S (hI _ q), o.rt, o.bk, o.ct⟩⟩)
end
end EV

namespace EV
open PySem PySem.Spec PySem.Calls PyProof.Rows L2
/-! ## dicts, read -/
def HO.dct : HO → Prop | .dK _ => True | .dT _ => True | _ => False
/-- another view of the thing at a: the same object -/
theorem inv_re {X : Cx} {pins : List (Addr × Obj)} {σ : L2.St} {H : Hp} {s : Shared} {a : Addr} {u v : HO} (I : Inv X pins σ H s) (hu : H a = some u) (nu : ∀ xs, u ≠ .tup xs) (nw : ∀ y, u ≠ .own y) (nt : ∀ ps, u ≠ .tbl ps) (nf : ∀ o z, X.H₀ a ≠ some (.frz o z))
    (hv : ObjOk X.prog X.w H s.heap a v) : Inv X pins σ (upd H a v) s := by
  have hne : ∀ {b : Addr} {z : HO}, H b = some z → z ≠ u → b ≠ a := fun e d q => by subst q; rw [hu] at e; cases e; exact d rfl
  have hno : ∀ {b : Addr}, H b = none → b ≠ a := fun e q => by subst q; rw [hu] at e; cases e
  have hst : ∀ {b : Addr} {z : HO}, ObjOk X.prog X.w H s.heap b z → ObjOk X.prog X.w (upd H a v) s.heap b z := fun q =>
    q.stay (fun _ _ _ e => e) (fun b e => by rw [upd_ne (hne e (Ne.symm (nw _)))]; exact e) fun b xs e => by rw [upd_ne (hne e (Ne.symm (nu xs)))]; exact e
  have fr := I.free
  exact {
    ok := I.ok, os := I.os, bare := I.bare, loc := I.loc, cell := I.cell, len := I.len
    base := ⟨I.base.keep, I.base.slot, fun b o h1 h2 h3 => by have e := I.base.free b o h1 h2 h3; rw [upd_ne (hno e)]; exact e, I.base.there,
      fun b xs e => by have q := I.base.tups b xs e; rw [upd_ne (hne q (Ne.symm (nu xs)))]; exact q,
      fun b o z e => by
        have q := I.base.frzs b o z e
        by_cases w : b = a
        · subst w; exact absurd e (nf o z)
        · rw [upd_ne w]; exact q,
      fun b ps e => by obtain ⟨m, q⟩ := I.base.tbls b ps e; exact ⟨m, by rw [upd_ne (hne q (Ne.symm (nt _)))]; exact q⟩⟩
    free := by rw [upd_ne (hno I.free)]; exact I.free
    freeC := fun x c e => by have q := I.freeC x c e; rw [upd_ne (hno q)]; exact q
    pin := fun q hq => by obtain ⟨h1, h2, h3⟩ := I.pin q hq; exact ⟨h1, by rw [upd_ne (hno h2)]; exact h2, h3⟩
    hok := fun b z e => by
      by_cases w : b = a
      · subst w; rw [upd_same] at e; cases e; exact hst hv
      · rw [upd_ne w] at e; exact hst (I.hok b z e) }
theorem inv_frz {X : Cx} {pins : List (Addr × Obj)} {σ : L2.St} {H : Hp} {s : Shared} {a : Addr} {u : HO} (I : Inv X pins σ H s) (hu : H a = some u) (hd : HO.dct u) :
    ∃ o, Inv X pins σ (upd H a (.frz o u)) s ∧ ∀ o z, X.H₀ a ≠ some (.frz o z) := by
  obtain ⟨o, ho⟩ := obj_ex (I.hok a u hu)
  have nf : ∀ o z, X.H₀ a ≠ some (.frz o z) := fun o z e => by
    have q := I.base.frzs a o z e
    rw [hu] at q; cases q; exact hd
  exact ⟨o, inv_re I hu (by rintro xs rfl; exact hd) (by rintro y rfl; exact hd) (by rintro ps rfl; exact hd) nf ⟨ho, I.hok a u hu⟩, nf⟩
/-- a slot that holds a dict, as a value -/
def Sl.frzD : Sl → Option D
  | .oK kvs => some (.fdK (kvs.map (·.1)) (kvs.map (·.2))) | .aK _ kvs => some (.fdK (kvs.map (·.1)) (kvs.map (·.2)))
  | .oT kvs => some (.fdT (kvs.map (·.1)) (kvs.map (·.2))) | .aT _ kvs => some (.fdT (kvs.map (·.1)) (kvs.map (·.2)))
  | _ => none
theorem frzD_owned {r : Sl} {d : D} (h : r.frzD = some d) : r.owned = true := by cases r <;> first | rfl | cases h
section
variable {K : PySem.W.Frag} {H₀ Hf₀ H Hf H1 Hf1 : Hp} {σ : L2.St} {ρ : List Sl}
theorem RepS.frzD {fr : Addr → Prop} {r : Sl} {d : D} {v : V} (h : r.frzD = some d) (q : RepS K fr H Hf r v) : ∃ p u, v = .ref p ∧ fr p ∧ H p = some u ∧ Hf p = none ∧ HO.dct u ∧ ∀ o, Rep K (L2.upd Hf p (.frz o u)) d v := by
  have sf : ∀ {p : Addr} {o : HO}, Hf p = none → Same Hf (L2.upd Hf p o) := fun hp b u e => by rw [upd_ne (ne_of_none e hp)]; exact e
  cases r with
  | oK ds => cases h; obtain ⟨p, xs, rfl, f, h1, h2, h3⟩ := q; exact ⟨p, _, rfl, f, h1, h2, trivial, fun o => rep_fdK.mpr ⟨p, xs, o, rfl, upd_same, (kvr_keys h3).1, (kvr_keys h3).2.mono (sf h2)⟩⟩
  | aK a ds => cases h; obtain ⟨p, xs, rfl, f, h1, h2, h3⟩ := q; exact ⟨p, _, rfl, f.1, h1, h2, trivial, fun o => rep_fdK.mpr ⟨p, xs, o, rfl, upd_same, (kvr_keys h3).1, (kvr_keys h3).2.mono (sf h2)⟩⟩
  | oT ds => cases h; obtain ⟨p, xs, rfl, f, h1, h2, h3⟩ := q; exact ⟨p, _, rfl, f, h1, h2, trivial, fun o => rep_fdT.mpr ⟨p, xs, o, rfl, upd_same, (tvr_keys h3).1, fun y hy => same_tup (sf h2) ((tvr_keys h3).2.1 y hy), (tvr_keys h3).2.2.mono (sf h2)⟩⟩
  | aT a ds => cases h; obtain ⟨p, xs, rfl, f, h1, h2, h3⟩ := q; exact ⟨p, _, rfl, f.1, h1, h2, trivial, fun o => rep_fdT.mpr ⟨p, xs, o, rfl, upd_same, (tvr_keys h3).1, fun y hy => same_tup (sf h2) ((tvr_keys h3).2.1 y hy), (tvr_keys h3).2.2.mono (sf h2)⟩⟩
  | _ => cases h
/-- the dict in slot i is frozen -/
theorem StR.freezeD (S : StR K H₀ Hf₀ σ H Hf ρ) {i : Nat} {r : Sl} {d : D} (h : ρ[i]? = some r) (hr : r.frzD = some d) :
    ∃ q u, H q = some u ∧ Hf q = none ∧ HO.dct u ∧ ∀ o, StR K H₀ Hf₀ σ (L2.upd H q (.frz o u)) (L2.upd Hf q (.frz o u)) (ρ.set i (.va d)) := by
  obtain ⟨q, ev, rq⟩ := S.own h (frzD_owned hr)
  obtain ⟨_, u, e0, fq, hq, hfq, hd, rd⟩ := rq.frzD hr
  cases e0
  have hi : i < ρ.length := (List.getElem?_eq_some_iff.mp h).1
  have hown := frzD_owned hr
  refine ⟨q, u, hq, hfq, hd, fun o => ⟨⟨fun b z e => ?_, fun b z e => ?_, fun b z e => ?_, fun b h1 h2 h3 => ?_⟩, by simp [S.len], fun j r' hj hu => ?_, fun j j' r1 r2 q' hne h1 h2 o1 o2 => ?_⟩⟩
  · rw [L2.upd_ne (ne_of_none e fq)]; exact S.bas.s b z e
  · have e2 := S.bas.f b z e
    rw [L2.upd_ne (ne_of_none e2 hfq)]; exact e2
  · by_cases w : b = q
    · subst w; rw [L2.upd_same] at e ⊢; exact e
    · rw [L2.upd_ne w] at e ⊢; exact S.sb b z e
  · have e := S.bas.n b h1 h2 h3
    by_cases z : b = q
    · subst z; exact absurd fq h2
    · rw [L2.upd_ne z]; exact e
  · have sf : Same Hf (L2.upd Hf q (.frz o u)) := fun b z e => by rw [L2.upd_ne (ne_of_none e hfq)]; exact e
    by_cases z : j = i
    · subst z
      rw [List.getElem?_set_self hi] at hj
      cases hj
      exact ⟨_, ev, rd o⟩
    · rw [List.getElem?_set_ne (Ne.symm z)] at hj
      obtain ⟨v, e1, e2⟩ := S.at_ j r' hj hu
      refine ⟨v, e1, ?_⟩
      have key : r'.owned = true → v ≠ .ref q := fun ho z => by
        subst z
        exact S.sep i j _ _ q (Ne.symm ‹_›) h hj hown ho ev e1
      exact RepS.mv (B := fun z => z = q) sf (fun z w hz e1 _ e3 => ⟨by rw [L2.upd_ne hz]; exact e1, by rw [L2.upd_ne hz]; exact e3⟩) (by rintro _ z rfl ⟨ys, e9⟩; rw [hq] at e9; cases e9; exact hd) (fun ho z e => by rintro rfl; exact key ho e) e2
  · have out : ∀ {j : Nat} {r : Sl}, (ρ.set i (.va d))[j]? = some r → r.owned = true → ρ[j]? = some r := fun {j r} hj ho => by
      by_cases z : j = i
      · subst z; rw [List.getElem?_set_self hi] at hj; cases hj; cases ho
      · rw [List.getElem?_set_ne (Ne.symm z)] at hj; exact hj
    exact S.sep j j' r1 r2 q' hne (out h1 o1) (out h2 o2) o1 o2
end
section
variable {P : Program} {w : World} {K : PySem.W.Frag} {mg : Str → Option Value} {base : Heap} {k : Nat} {N : List Str} {sc : Scope} {bk : Bool} {c : Ctx P w K mg base k N sc bk} {ρ ρ' : List Sl} {e : Expr} {R : D → Prop} {T : Bool → Prop} {nx : List Sl → Prop} {p : Pt} {i : Nat} {r : Sl} {d0 : D}
end
/-! ## a dict's items, one by one -/
section
variable {prog : Program} {w : World} {A : Around} {E : Value → Shared → Prop} {s : Shared} {it d : Addr} {i n ep : Nat} {od : Obj} {es : Array DictEntry}
end
/-! ## d.items(), walked -/
theorem paired_get {α β : Type} {F : α → β → Prop} : ∀ {l : List α} {m : List β} {i : Nat} {a : α}, Paired F l m → l[i]? = some a → ∃ b, m[i]? = some b ∧ F a b
  | _, _, _, _, .nil, e => by simp at e
  | _, _, 0, _, .cons r _, e => by simp at e; subst e; exact ⟨_, rfl, r⟩
  | _, _, i + 1, a, .cons _ t, e => by
    obtain ⟨b, h1, h2⟩ := paired_get (i := i) t (by simpa using e)
    exact ⟨b, by simpa using h1, h2⟩
section
variable {prog : Program} {w : World} {A : Around} {E : Value → Shared → Prop} {s : Shared}
end
/-- the pairs as data -/
def keyD : Key → D | .inl i => .int i | .inr x => .str x
section
variable {K : PySem.W.Frag} {Hf : Hp}
end
section
variable {P : Program} {w : World} {K : PySem.W.Frag} {mg : Str → Option Value} {base : Heap} {k : Nat} {N : List Str} {sc : Scope} {bk : Bool} {c : Ctx P w K mg base k N sc bk} {ρ : List Sl} {ap cp : Pos} {e tg : Expr}
end
end EV

namespace SR
open PySem PyProof.Rows
local macro_rules | `(tactic| walk_at "dl gallop") => do
  let i := Lean.mkIdent (Lean.mkPrivateNameCore `PySem.Builtin.List.W1All `PySem.Builtin.gallop)
  `(tactic| delta $i)
/-! ## order by rank -/
section
variable {prog : Program} {w : World} {A : Around} {E : Value → Shared → Prop} {s : Shared} {L : List Keyed} {κ : SortKind} {rk : Keyed → Int}
end
section
variable {rk : Keyed → Int} {a b : Array Keyed}
end
section
variable {prog : Program} {w : World} {A : Around} {E : Value → Shared → Prop} {s : Shared} {L : List Keyed} {κ : SortKind} {rk : Keyed → Int} {a b : Array Keyed}
end
section
local macro_rules | `(tactic| walk_at "dl mergeLo") => do
  let i := Lean.mkIdent (Lean.mkPrivateNameCore `PySem.Builtin.List.W1All `PySem.Builtin.mergeLo)
  `(tactic| delta $i)
end
section
variable {prog : Program} {w : World} {A : Around} {E : Value → Shared → Prop} {s : Shared} {L : List Keyed} {κ : SortKind} {rk : Keyed → Int} {a b : Array Keyed}
end
local macro_rules | `(tactic| walk_at "dl mergeHi") => do
  let i := Lean.mkIdent (Lean.mkPrivateNameCore `PySem.Builtin.List.W1All `PySem.Builtin.mergeHi)
  `(tactic| delta $i)
section
variable {rk : Keyed → Int} {a b : Array Keyed}
end
/-! the merge from the right, in parts -/
section
variable {prog : Program} {w : World} {A : Around} {E : Value → Shared → Prop} {s : Shared} {L : List Keyed} {κ : SortKind} {rk : Keyed → Int} {a b : Array Keyed}
end
section
variable {L : List Keyed} {κ : SortKind} {rk : Keyed → Int} {st st' st'' : SortSt} {lo hi : Nat}
end
section
variable {prog : Program} {w : World} {A : Around} {E : Value → Shared → Prop} {s : Shared} {L : List Keyed} {κ : SortKind} {rk : Keyed → Int} {st : SortSt} {lo nrem : Nat}
local macro_rules | `(tactic| walk_at "dl countRun") => do
  let i := Lean.mkIdent (Lean.mkPrivateNameCore `PySem.Builtin.List.W1All `PySem.Builtin.countRun)
  `(tactic| delta $i)
end
section
variable {prog : Program} {w : World} {A : Around} {E : Value → Shared → Prop} {s : Shared} {L : List Keyed} {κ : SortKind} {rk : Keyed → Int} {st : SortSt} {lo : Nat}
local macro_rules | `(tactic| walk_at "dl binarySort") => do
  let i := Lean.mkIdent (Lean.mkPrivateNameCore `PySem.Builtin.List.W1All `PySem.Builtin.binarySort)
  `(tactic| delta $i)
/-! ## merging two runs in place -/
end
local macro_rules | `(tactic| walk_at "dl mergeAt") => do
  let i := Lean.mkIdent (Lean.mkPrivateNameCore `PySem.Builtin.List.W1All `PySem.Builtin.mergeAt)
  `(tactic| delta $i)
section
variable {prog : Program} {w : World} {A : Around} {E : Value → Shared → Prop} {s : Shared} {L : List Keyed} {κ : SortKind} {rk : Keyed → Int} {st : SortSt}
end
local macro_rules | `(tactic| walk_at "dl sortRuns") => do
  let i := Lean.mkIdent (Lean.mkPrivateNameCore `PySem.Builtin.List.W1All `PySem.Builtin.sortRuns)
  `(tactic| delta $i)
section
variable {rk : Keyed → Int} {xs ys : Array Keyed}
end
section
variable {prog : Program} {w : World} {A : Around} {E : Value → Shared → Prop} {s : Shared} {L : List Keyed} {κ : SortKind} {rk : Keyed → Int} {st : SortSt}
end
end SR

set_option autoImplicit false
namespace SR
open PySem PyProof.Rows
/-! ## list.sort by rank, any length -/
section
variable {prog : Program} {w : World} {A : Around} {E : Value → Shared → Prop} {s : Shared} {rk : Keyed → Int} {κ : SortKind}
end
/-! ## rank in a list -/
section
variable {α : Type} {lt : α → α → Bool} {L : List α}
open Classical in
end
section
variable {prog : Program} {w : World} {A : Around} {s : Shared} {κ : SortKind} {α : Type} {lt : α → α → Bool} {L : List α} {us : List Value}
end
end SR

namespace EV
open PySem PySem.Spec PySem.Calls PyProof.Rows L2
/-! ## terms in order -/
section
variable {X : Cx} {pins : List (Addr × Obj)} {σ : L2.St} {H Hf : Hp} {s : Shared} {A : Around} {E : Value → Shared → Prop}
end
/-! ## what an iterator yields, collected into a list -/
section
variable {X : Cx} {pins : List (Addr × Obj)} {σ : L2.St} {H : Hp} {s : Shared}
abbrev cxA (X : Cx) (A : Around) : Cx := { X with A := A }
theorem ok_at {A : Around} (ok : X.Ok) (h1 : X.calm = true → A.handled = none) (h2 : A.frames = some X.stack) : (cxA X A).Ok :=
  ⟨ok.mod, ok.kind, ok.glob, ok.blt, ok.above, ok.inj, ok.has, ok.cab, h1, h2, ok.stk, ok.exf, ok.bs, ok.bsz, ok.noex, ok.exfs, ok.funs, ok.frf⟩
theorem inv_at {A : Around} (I : Inv X pins σ H s) (h1 : X.calm = true → A.handled = none) (h2 : A.frames = some X.stack) : Inv (cxA X A) pins σ H s :=
  ⟨ok_at I.ok h1 h2, I.os, I.bare, I.base, I.loc, I.cell, I.free, I.freeC, I.pin, I.hok, I.len⟩
theorem inv_back {A : Around} (ok : X.Ok) (I : Inv (cxA X A) pins σ H s) : Inv X pins σ H s :=
  ⟨ok, I.os, I.bare, I.base, I.loc, I.cell, I.free, I.freeC, I.pin, I.hok, I.len⟩
end
section
variable {prog : Program} {w : World} {A : Around} {E : Value → Shared → Prop} {s : Shared}
end
section
variable {X : Cx} {pins : List (Addr × Obj)} {σ : L2.St} {H Hf : Hp} {s : Shared} {E : Value → Shared → Prop}
end
/-! ## sorted(d.items(), reverse=True) -/
section
variable {X : Cx} {pins : List (Addr × Obj)} {σ : L2.St} {H Hf : Hp} {s : Shared} {E : Value → Shared → Prop} {α : Type} {enc : α → D} {lt : α → α → Bool} {κ : SortKind}
end
section
variable {X : Cx} {pins : List (Addr × Obj)} {σ : L2.St} {H Hf : Hp} {s : Shared} {E : Value → Shared → Prop}
end
section
variable {P : Program} {w : World} {K : PySem.W.Frag} {mg : Str → Option Value} {base : Heap} {k : Nat} {N : List Str} {sc : Scope} {bk : Bool} {c : Ctx P w K mg base k N sc bk} {ρ : List Sl} {ap cp np pos kp kp1 : Pos} {e : Expr} {j : Nat}
end
/-! ## sorted(list, reverse=True) -/
section
variable {X : Cx} {pins : List (Addr × Obj)} {σ : L2.St} {H Hf : Hp} {s : Shared} {E : Value → Shared → Prop}
end
section
variable {P : Program} {w : World} {K : PySem.W.Frag} {mg : Str → Option Value} {base : Heap} {k : Nat} {N : List Str} {sc : Scope} {bk : Bool} {c : Ctx P w K mg base k N sc bk} {ρ : List Sl} {ap cp np pos kp kp1 : Pos} {e : Expr} {j : Nat}
end
end EV

namespace EV
open PySem PySem.Spec PyProof.Rows L2
/-! ## powers with no zeros behind -/
/-! ## x.pop() -/
section
variable {P : Program} {w : World} {K : PySem.W.Frag} {mg : Str → Option Value} {base : Heap} {k : Nat} {N : List Str} {sc : Scope} {bk : Bool} {c : Ctx P w K mg base k N sc bk} {ρ : List Sl} {pos ap cp px : Pos} {x : Str} {i : Nat} {nx : List Sl → Prop} {p : Pt}
end
/-! ## sums of terms, as a dict holds them -/
/-! ## in order, largest first -/
end EV

namespace EV
open PySem PySem.Spec PySem.Calls PyProof.Rows L2
/-! ## zip of two lists, walked -/
section
variable {X : Cx} {pins : List (Addr × Obj)} {σ : L2.St} {H : Hp} {s : Shared} {h' : Heap}
theorem turnedL {t' : Nat} {L : List Addr} (I : Inv X pins σ H s) (k : ∀ b o, b ∉ L → s.heap.get? b = some o → h'.get? b = some o) (hf : ∀ b ∈ L, FpOk X pins H b) : Inv X pins σ H { s with heap := h', toks := t' } := by
  have nit : ∀ b u, H b = some u → b ∉ L := fun b u e z => by rw [(hf b z).1] at e; cases e
  refine I.step (g' := s.gens) (d' := s.drawn) (ch := L) (fun b hb => ?_) (fun b o _ _ hc e _ => k b o hc e) (fun b o _ _ hc e _ => ⟨o.slots, k b o hc e⟩) (fun _ _ _ _ n => n)
    (fun b o hc e => ⟨o, k b o hc e⟩) (fun _ _ e => e) (fun _ _ _ e => e) (fun b ps e => ⟨#[], by rw [e]; simp⟩) (fun m hm => ?_) (fun b u e => ?_) I.bare
  · obtain ⟨_, f1, _, f3, f4, f5⟩ := hf b hb
    exact ⟨f3, f1, f4, f5⟩
  · obtain ⟨o, es, ep, ho, r⟩ := hm
    exact ⟨o, es, ep, k _ o (fun z => (hf _ z).2.1 rfl) ho, r⟩
  · refine (I.hok b u e).stay (fun c v hc q => k c v ?_ q) (fun _ q => q) fun _ _ q => q
    rcases hc with z | z
    · rw [z]; exact nit b u e
    · exact nit c _ z
end
/-! ## all(list of truths) -/
theorem reps_truths {K : PySem.W.Frag} {H : Hp} : ∀ {bs : List Bool} {xs : List V}, Reps K H (bs.map D.bl) xs → xs = bs.map V.bl
  | [], xs, h => by rw [List.map_nil, reps_nil] at h; subst h; rfl
  | b :: bs, xs, h => by
    rw [List.map_cons, reps_cons] at h
    obtain ⟨x, r, rfl, h1, h2⟩ := h
    rw [rep_bl] at h1
    rw [h1, reps_truths h2]; rfl
theorem vals_bls : ∀ {bs : List Bool} {us : List Value}, Vals (bs.map V.bl) us → us = bs.map Value.bool
  | [], _, h => by cases h; rfl
  | b :: bs, _, h => by
    cases h with
    | cons q t =>
      cases q
      rw [vals_bls t]; rfl
theorem range_all (bs : List Bool) : (List.range bs.length).all (fun i => bs.getD i true) = bs.all id := by
  induction bs with
  | nil => rfl
  | cons b bs ih =>
    rw [List.length_cons, List.range_succ_eq_map, List.all_cons, List.all_map, List.all_cons, ← ih]
    rfl
theorem call_allB {X : Cx} (hc : X.calm = true) : CallR X (.builtin "all") (fun xs H Q => ∃ (p : Addr) (bs : List Bool), xs = [.ref p] ∧ SqL X.K H p (bs.map V.bl) ∧ Q (.bl (bs.all id)) H) := by
  intro pins s σ H xs us Q I r h
  obtain ⟨p, bs, rfl, hq, q⟩ := h
  obtain ⟨u, rfl, rx⟩ := vals1 r
  cases rx
  obtain ⟨its, rv, pl, hz⟩ := I.list hq
  have e := vals_bls rv
  subst e
  have hlt : p < s.heap.objs.size := by obtain ⟨o, e, _⟩ := pl.isList; exact Heap.lt_size e
  refine call_all_walk (wpAny_pyIter_list pl.isList ?_)
  have hh : X.A.in1.handled = none := I.ok.hd hc
  refine ⟨_, _, _, _, _, _, fun i => bs.getD i true, rfl, Walks.list hh s.heap.objs.size p (Nat.ne_of_lt hlt) (bs.map Value.bool).toArray, ⟨⟨_, Heap.get?_push_size _ rfl, rfl, rfl⟩, pl.isList.at fun o e => Heap.get?_push_of_some _ e⟩, ?_, ?_⟩
  · intro i v s Q E hP hQ
    have hP' : (bs.map Value.bool)[i]? = some v := by simpa using hP
    rw [List.getElem?_map, Option.map_eq_some_iff] at hP'
    obtain ⟨b, hb, rfl⟩ := hP'
    have e : bs.getD i true = b := by rw [List.getD_eq_getElem?_getD, hb]; rfl
    have hQ' : Q (bs.getD i true) s := hQ
    rw [e] at hQ'
    exact wpAny_truthy_bool hQ'
  · intro h' tk hk
    have es : (bs.map Value.bool).toArray.size = bs.length := by simp
    rw [es, range_all]
    exact ⟨.bl (bs.all id), H, I.kept (h' := h') (t' := tk) (fun b u e => hk b u (by simpa using Nat.ne_of_lt (Heap.lt_size e)) (Heap.get?_push_of_some _ e)), rfl, q⟩
section
variable {P : Program} {w : World} {K : PySem.W.Frag} {mg : Str → Option Value} {base : Heap} {k : Nat} {N : List Str} {sc : Scope} {bk : Bool} {c : Ctx P w K mg base k N sc bk} {ρ : List Sl} {pos p : Pos} {e : Expr} {R : D → Prop}
theorem boot_all : bootBuiltins "all" = some (.builtin "all") := by decide +kernel
theorem e_all (hm : mg (Str.ofString "all") = none) (h : EvE c e ρ fun x => ∃ bs : List Bool, x = .lst (bs.map D.bl) ∧ R (.bl (bs.all id))) (hg : sc.names.lookup (Str.ofString "all") = some .globalImplicit := by with_unfolding_all rfl)
    (he : ∀ env, starEach [e] env = (false, eval e env) :: starEach [] env := by intro _; with_unfolding_all rfl) : EvE c (.Call (.Name (Str.ofString "all") p) [e] [] pos) ρ R :=
  e_blt (call_allB c.calm) (q := fun ds R => ∃ bs : List Bool, ds = [.lst (bs.map D.bl)] ∧ R (.bl (bs.all id))) (by
    rintro ds vs H Hf Q R s rs ⟨bs, rfl, hR⟩ q
    obtain ⟨v, rfl, rv⟩ := reps1 rs
    rw [rep_lst] at rv
    obtain ⟨a, xs, rfl, h1, h2⟩ := rv
    rw [reps_truths h2] at h1
    exact ⟨a, bs, rfl, s.seq h1, q _ _ H Hf hR (rep_bl.mpr rfl) (.refl s)⟩) hm boot_all (a_cons (h.imp fun d ⟨bs, e, hR⟩ => a_nil ⟨bs, by rw [e], hR⟩) he) hg (by decide) (by decide) he (by intro _; with_unfolding_all rfl)
end
end EV

namespace EV
open PySem PySem.Spec PyProof.Rows L2
/-! ## a polynomial summed again -/
end EV

namespace EV
open PySem PySem.Spec PySem.Calls PyProof.Rows L2
/-! ## max and min of two, shifts to the left -/
theorem calE_ii {K : PySem.W.Frag} {f : Int → Int → Int} : CalE K (fun xs H Q => ∃ i j, xs = [.int i, .int j] ∧ Q (.int (f i j)) H) (fun ds R => ∃ i j : Int, ds = [.int i, .int j] ∧ R (.int (f i j))) := by
  rintro ds vs H Hf Q R s rs ⟨i, j, rfl, hR⟩ q
  obtain ⟨v, r, rfl, r1, r2⟩ := reps_cons.mp rs
  obtain ⟨v', r', rfl, r1', r2'⟩ := reps_cons.mp r2
  rw [reps_nil] at r2'
  subst r2'
  rw [rep_int] at r1 r1'
  subst r1 r1'
  exact ⟨i, j, rfl, q _ _ H Hf hR (rep_int.mpr rfl) (.refl s)⟩
section
variable {P : Program} {w : World} {K : PySem.W.Frag} {mg : Str → Option Value} {base : Heap} {k : Nat} {N : List Str} {sc : Scope} {bk : Bool} {c : Ctx P w K mg base k N sc bk} {ρ : List Sl} {pos p : Pos} {a b : Expr} {R : D → Prop}
theorem boot_min : bootBuiltins "min" = some (.builtin "min") := by decide +kernel
theorem e_min2 (hm : mg (Str.ofString "min") = none) (h : EvE c a ρ fun x => EvE c b ρ fun y => I2 (fun i j => R (.int (if j < i then j else i))) x y) (hg : sc.names.lookup (Str.ofString "min") = some .globalImplicit := by with_unfolding_all rfl)
    (he : ∀ env, starEach [a, b] env = (false, eval a env) :: starEach [b] env := by intro _; with_unfolding_all rfl) (he2 : ∀ env, starEach [b] env = (false, eval b env) :: starEach [] env := by intro _; with_unfolding_all rfl)
    (hpl : ∀ env, (backTo pos (starEach [b] env)).any (·.1) = false := by intro _; with_unfolding_all rfl) : EvE c (.Call (.Name (Str.ofString "min") p) [a, b] [] pos) ρ R :=
  e_blt (call_min2 c.calm) (calE_ii (f := fun i j => if j < i then j else i)) hm boot_min (a_cons (h.imp fun x h1 => a_cons (h1.imp fun y ⟨i, j, e1, e2, hR⟩ => a_nil ⟨i, j, by rw [e1, e2], hR⟩) he2) he) hg (by decide) (by decide) he hpl
end
/-! ## a dict handed over: the def changes it -/
section
variable {P : Program} {w : World} {K : PySem.W.Frag} {mg : Str → Option Value} {base : Heap} {k : Nat} {N : List Str} {sc : Scope} {bk : Bool} {c : Ctx P w K mg base k N sc bk} {ρ : List Sl} {pos cp px py : Pos} {es : List Expr} {nx : List Sl → Prop} {p : Pt} {x y : Str} {i : Nat}
end
end EV

namespace EV
open PySem PySem.Spec PyProof.Rows L2
section
variable {P : Program} {w : World} {K : PySem.W.Frag} {mg : Str → Option Value} {base h : Heap}
theorem int_mk {x : Str} {i : Int} {tk : Tok} (KX : K.In h) (G : h.Ns mainGlobals mg) (a : PySem.W.nsIn K mainGlobals x = some (some (.int i tk))) : ∃ tk : Tok, mg x = some (.int i tk) := ⟨tk, PySem.W.mg_of KX G a⟩
end
end EV

namespace EV
open PySem PySem.Spec PySem.Calls PyProof.Rows L2
/-! ## a list many times, a list's item stored, the bits of a number -/
theorem Reps.set {K : PySem.W.Frag} {H : Hp} : ∀ {ds : List D} {xs : List V} (i : Nat) {d : D} {v : V}, Reps K H ds xs → Rep K H d v → Reps K H (ds.set i d) (xs.set i v)
  | [], _, i, _, _, h, _ => by rw [reps_nil] at h; subst h; exact reps_nil.mpr rfl
  | e :: ds, _, i, d, v, h, q => by
    obtain ⟨x, r, rfl, h1, h2⟩ := reps_cons.mp h
    cases i with
    | zero => exact .cons q h2
    | succ i => exact .cons h1 (Reps.set i h2 q)
/-- an item of a plain list stored -/
theorem put_walk {prog : Program} {w : World} {A : Around} {E : Value → Shared → Prop} {s : Shared} {l : Addr} {items : Array Value} {n k : Nat} {i : Int} {t : Tok} {v : Value} {Q : Unit → Shared → Prop} (hi : i = k) (e : s.heap.get? l = some { cls := .type "list", data := .seq items n }) (hk : k < items.size) (hf : items.size < 2 ^ 63)
    (hQ : Q () { s with heap := s.heap.update l (Obj.mapSeq fun xs => xs.setIfInBounds k v) }) : wpAny (model prog w) A (setItem (.ref l) (.int i t) v) Q E s := by
  have ht : s.TypeIs (.ref l) "list" := ⟨_, e, rfl⟩
  have hx : items[k]? = some items[k] := Array.getElem?_eq_getElem hk
  unfold setItem
  refine wpAny_holding (wpAny_bind (wpAny_sequenceKey ht (by decide) ?_))
  refine wpAny_bind (wpAny_callSpecial?_slot (name := Str.ofString "__setitem__") ht PySem.slot_list_setitem (wpAny_call_entry PySem.slot_list_setitem ht PySem.entry_list_setitem ?_ (PySem.args_list_setitem _ _ _)))
  show wpAny _ _ (Builtin.List.listSubscript? (.int i t) >>= _) _ _ s
  refine wpAny_bind (wpAny_listSubscript_int (fitsIndex_of (show 0 ≤ i by lia) (show i < 2 ^ 63 by lia)) ?_)
  clear hf
  subst hi
  show wpAny _ _ ((seqItemAt l k >>= fun r => pure (r.map fun x => (k, x))) >>= _) _ _ s
  refine wpAny_bind (wpAny_bind (wpAny_seqItemAt e rfl (wpAny_pure ?_)))
  rw [hx]
  show wpAny _ _ (setSeqItemAt l k v >>= _) _ _ s
  refine wpAny_bind (wpAny_setSeqItemAt e rfl ?_)
  first
    | exact wpAny_bind (wpAny_pure (wpAny_pure ⟨Value.none, rfl, wpAny_pure hQ⟩))
    | exact wpAny_pure ⟨Value.none, rfl, wpAny_pure hQ⟩
/-- xs[i] = v -/
def rLPut : TSet := fun o i v H Q => ∃ l xs k, o = .ref l ∧ i = .int (k : Nat) ∧ H l = some (.lst xs) ∧ k < xs.length ∧ Q (upd H l (.lst (xs.set k v)))
theorem put_list {X : Cx} : PSet X rLPut := by
  intro pins s σ H o i v ov iv u Q I r1 r2 r3 h
  obtain ⟨l, xs, k, rfl, rfl, hH, hk, q⟩ := h
  cases r1
  obtain ⟨t, rfl⟩ := r2
  obtain ⟨z, its, n, r, hl, e⟩ := I.lstM hH
  have hbig : xs.length < 2 ^ 63 := Nat.lt_of_le_of_lt z (by decide)
  refine put_walk rfl e (by rw [List.size_toArray, ← hl]; exact hk) (by rw [List.size_toArray, ← hl]; exact hbig) ⟨_, I.lset (its' := its.set k u) (t' := s.toks) hH e ?_ (Vals.set r3 k r) (by rw [List.length_set]; exact z), q⟩
  show its.toArray.setIfInBounds k u = (its.set k u).toArray
  simp
section
variable {P : Program} {w : World} {K : PySem.W.Frag} {mg : Str → Option Value} {base : Heap} {k : Nat} {N : List Str} {sc : Scope} {bk : Bool} {c : Ctx P w K mg base k N sc bk} {ρ : List Sl} {pos tp ap cp px p1 : Pos} {a b e : Expr} {R : D → Prop} {x : Str} {i : Nat} {nx : List Sl → Prop} {p : Pt}
theorem s_lput {r : Sl} {ds : List D} (hN : At N i x) (hi : At ρ i r) (hr : r.getL = some ds) (h : EvE c e ρ fun dv => EvE c b ρ fun dk => ∃ m : Nat, dk = .int m ∧ Sd (m < ds.length) (Nx ρ i nx (r.putL (ds.set m dv))))
    (hs : ∀ env, swapsWithSole [.Subscript (.Name x px) b tp] e pos.line env = pure false := by intro _; with_unfolding_all rfl) (hw : ∀ env, swappedStores [.Subscript (.Name x px) b tp] e env = pure none := by intro _; with_unfolding_all rfl)
    (h1 : ∀ env, (assignEach [.Subscript (.Name x px) b tp] env).map (·.2) = [assign (.Subscript (.Name x px) b tp) env] := by intro _; with_unfolding_all rfl)
    (ha : ∀ env v, assign (.Subscript (.Name x px) b tp) env v = (do
      let ov ← holding [v] (eval (.Name x px) env)
      let iv ← holding [v, ov] (eval b env)
      standAt tp
      holding [v, ov, iv] (setItem ov iv v)
      release [v, ov, iv] []) := by intro _ _; with_unfolding_all rfl)
    (hd : (x == ("__debug__" : Str)) = false := by decide) (hcd : (x == ("__classdict__" : Str)) = false := by decide) : EvS c (.Assign [.Subscript (.Name x px) b tp] e pos) ρ nx p := fun σ H Hf D S o => by
  obtain ⟨q, eq, rq⟩ := S.own hi.get (getL_owned hr)
  refine bS_of (ps_asg pbE (pg_sub (c.pvar hN hd hcd) pbE put_list (ha _)) (hs _) (hw _) (h1 _)) (h σ H Hf _ S fun dv v H1 Hf1 h2 rv g1 => ⟨_, eq, h2 σ H1 Hf1 _ (S.grw g1) fun dk y H2 Hf2 ⟨m, em, hm, ρ', hs', hn⟩ ry g2 => ?_⟩)
  subst em
  rw [rep_int] at ry; subst ry
  have g := g1.trans g2
  obtain ⟨xs, k1, k2, k3⟩ := repL hr (rq.grw g)
  refine ⟨q, xs, m, rfl, rfl, k1, by rw [← k3.length]; exact hm, o.nx _ _ Hf2 ρ' ?_ hn⟩
  rw [hs'.eq]
  exact (S.grw g).upd hi.get (getL_owned hr) eq (grw_mut g.b k2) (repL_put hr (rq.grw g) upd_same k2 (k3.set m (Rep.mono g2.f _ rv))) (putL_owned hr)
end
/-! ## max and sum of a list of numbers -/
section
variable {P : Program} {w : World} {K : PySem.W.Frag} {mg : Str → Option Value} {base : Heap} {k : Nat} {N : List Str} {sc : Scope} {bk : Bool} {c : Ctx P w K mg base k N sc bk} {ρ : List Sl} {pos p : Pos} {e : Expr} {R : D → Prop}
end
/-! ## enumerate of a tuple, walked -/
section
variable {prog : Program} {w : World} {A : Around} {E : Value → Shared → Prop} {s : Shared}
variable {jt tp : Addr} {i : Nat} {items : Array Value}
end
section
variable {prog : Program} {w : World} {A : Around} {E : Value → Shared → Prop} {s : Shared}
end
def enumD (ds : List D) : List D := ds.zipIdx.map fun x => D.tup [.int x.2, x.1]
theorem boot_enum : bootBuiltins "enumerate" = some (.type "enumerate") := by decide +kernel
section
variable {P : Program} {w : World} {K : PySem.W.Frag} {mg : Str → Option Value} {base : Heap} {k : Nat} {N : List Str} {sc : Scope} {bk : Bool} {c : Ctx P w K mg base k N sc bk} {ρ : List Sl} {pos tpos p : Pos} {a : Expr} {elts : List Expr} {kt : Nat}
end
/-! ## range downwards, walked -/
section
variable {P : Program} {w : World} {K : PySem.W.Frag} {mg : Str → Option Value} {base : Heap} {k : Nat} {N : List Str} {sc : Scope} {bk : Bool} {c : Ctx P w K mg base k N sc bk} {ρ : List Sl} {pos p : Pos} {a b e tg : Expr}
end
/-! ## sorted(d, reverse=True), the keys numbers -/
section
variable {X : Cx} {pins : List (Addr × Obj)} {σ : L2.St} {H Hf : Hp} {s : Shared} {E : Value → Shared → Prop} {d : Addr} {o : Obj} {ys : List (Key × V)}
end
section
variable {prog : Program} {w : World} {A : Around} {E : Value → Shared → Prop} {s : Shared}
end
section
variable {X : Cx} {pins : List (Addr × Obj)} {σ : L2.St} {H Hf : Hp} {s : Shared} {E : Value → Shared → Prop}
end
section
variable {P : Program} {w : World} {K : PySem.W.Frag} {mg : Str → Option Value} {base : Heap} {k : Nat} {N : List Str} {sc : Scope} {bk : Bool} {c : Ctx P w K mg base k N sc bk} {ρ : List Sl} {np pos kp kp1 : Pos} {e : Expr} {j : Nat}
end
/-! ## a tuple many times -/
section
variable {P : Program} {w : World} {K : PySem.W.Frag} {mg : Str → Option Value} {base : Heap} {k : Nat} {N : List Str} {sc : Scope} {bk : Bool} {c : Ctx P w K mg base k N sc bk} {ρ : List Sl} {pos : Pos} {a b : Expr} {R : D → Prop}
end
section
variable {P : Program} {w : World} {K : PySem.W.Frag} {mg : Str → Option Value} {base : Heap} {k : Nat} {N : List Str} {sc : Scope} {bk : Bool} {c : Ctx P w K mg base k N sc bk} {ρ : List Sl} {pos ap cp : Pos} {e o : Expr} {nx : List Sl → Prop} {p : Pt}
end
end EV

namespace EV
open PySem PySem.Spec PyProof.Rows L2
/-! ## powers packed into one number -/
/-! ## a dict by packed powers -/
/-! ## packing, step by step -/
/-! ## products of terms -/
end EV

namespace EV
open PySem PySem.Spec PySem.Calls PyProof.Rows L2
/-! ## a dict that is read alone, by a key -/
theorem kvr_of {K : PySem.W.Frag} {H : Hp} : ∀ {kvs : List (Key × D)} {ys : List (Key × V)}, ys.map (·.1) = kvs.map (·.1) → Reps K H (kvs.map (·.2)) (ys.map (·.2)) → KVR K H kvs ys
  | [], [], _, _ => .nil
  | [], y :: ys, h, _ => by simp at h
  | x :: kvs, [], h, _ => by simp at h
  | x :: kvs, y :: ys, h, r => by
    rw [List.map_cons, List.map_cons] at h r
    obtain ⟨v, t, e, r1, r2⟩ := reps_cons.mp r
    injection e with e1 e2
    injection h with h1 h2
    subst e1 e2
    exact .cons ⟨h1.symm, r1⟩ (kvr_of h2 r2)
section
variable {P : Program} {w : World} {K : PySem.W.Frag} {mg : Str → Option Value} {base : Heap} {k : Nat} {N : List Str} {sc : Scope} {bk : Bool} {c : Ctx P w K mg base k N sc bk} {ρ : List Sl} {pos : Pos} {a b : Expr} {R : D → Prop}
end
end EV

namespace EV
open PySem PySem.Spec PyProof.Rows L2
/-! ## how big a polynomial's numbers and powers are -/
/-! ## rows of polynomials side by side -/
theorem eqp_self {ds : List D} {T : Bool → Prop} (h : EqIt ds ds) (t : T true) : EqP (.lst ds) (.lst ds) T := eqp_lst ⟨h, by rw [decide_eq_true rfl]; exact t⟩
/-! ## functions as values -/
section
variable {P : Program} {w : World} {K : PySem.W.Frag} {mg : Str → Option Value} {base : Heap} {k : Nat} {N : List Str} {sc : Scope} {bk : Bool} {c : Ctx P w K mg base k N sc bk}
variable {a b e : Expr} {es rest : List Expr} {pos : Pos} {ρ : List Sl} {R : D → Prop} {T : Bool → Prop}
end
end EV

namespace EV
open PySem PySem.Spec PySem.Calls PyProof.Rows L2
/-! ## list(d.items()) -/
section
variable {X : Cx} {pins : List (Addr × Obj)} {σ : L2.St} {H Hf : Hp} {s : Shared} {E : Value → Shared → Prop}
end
section
variable {P : Program} {w : World} {K : PySem.W.Frag} {mg : Str → Option Value} {base : Heap} {k : Nat} {N : List Str} {sc : Scope} {bk : Bool} {c : Ctx P w K mg base k N sc bk} {ρ : List Sl} {ap cp np pos kp kp1 : Pos} {e : Expr} {j : Nat}
end
end EV

namespace SR
open PySem PySem.Calls PyProof.Rows L2 EV
section
variable {prog : Program} {w : World} {A : Around} {E : Value → Shared → Prop} {s : Shared}
end
end SR

namespace EV
open PySem PySem.Spec PySem.Calls PyProof.Rows L2
/-! ## sorted(list, key=len) -/
section
variable {X : Cx} {pins : List (Addr × Obj)} {σ : L2.St} {H Hf : Hp} {s : Shared} {E : Value → Shared → Prop}
end
section
variable {P : Program} {w : World} {K : PySem.W.Frag} {mg : Str → Option Value} {base : Heap} {k : Nat} {N : List Str} {sc : Scope} {bk : Bool} {c : Ctx P w K mg base k N sc bk} {ρ : List Sl} {ap cp np pos kp kp1 : Pos} {e : Expr} {j : Nat}
end
/-! ## what is owned, all the way down -/
section
variable {K : PySem.W.Frag} {H Hf H' Hf' : Hp}
end
section
variable {X : Cx} {pins : List (Addr × Obj)} {σ : L2.St} {H : Hp} {s : Shared}
end
section
variable {K : PySem.W.Frag} {H₀ Hf₀ H Hf H1 Hf1 : Hp} {σ : L2.St} {ρ : List Sl}
end
section
variable {P : Program} {w : World} {K : PySem.W.Frag} {mg : Str → Option Value} {base : Heap} {k : Nat} {N : List Str} {sc : Scope} {bk : Bool} {c : Ctx P w K mg base k N sc bk} {ρ ρ' : List Sl} {pos ap cp px tp : Pos} {a b e f : Expr} {es : List Expr} {R : D → Prop} {T : Bool → Prop} {nx : List Sl → Prop} {p : Pt} {x : Str} {i : Nat} {s : Sh}
end
/-! ## a thing that is owned all the way down is handed over: the def may change its lists -/
section
variable {P : Program} {w : World} {K : PySem.W.Frag} {mg : Str → Option Value} {base : Heap} {k : Nat} {N : List Str} {sc : Scope} {bk : Bool} {c : Ctx P w K mg base k N sc bk} {ρ ρ' : List Sl} {pos cp px py ap : Pos} {e : Expr} {es : List Expr} {nx : List Sl → Prop} {p : Pt} {x y : Str} {i : Nat} {s : Sh} {R : D → Prop}
/-! ### the lists by where they stand -/
end
section
variable {K : PySem.W.Frag} {H₀ Hf₀ H Hf H1 Hf1 : Hp} {σ : L2.St} {ρ : List Sl}
end
section
variable {P : Program} {w : World} {K : PySem.W.Frag} {mg : Str → Option Value} {base : Heap} {k : Nat} {N : List Str} {sc : Scope} {bk : Bool} {c : Ctx P w K mg base k N sc bk} {ρ ρ' : List Sl} {st : Stmt} {sts : List Stmt} {nx : List Sl → Prop} {p : Pt} {i j : Nat}
end
/-! ## several things that are owned all the way down: their lists stand at other places -/
section
variable {K : PySem.W.Frag} {H₀ Hf₀ H Hf H1 Hf1 H' Hf' : Hp} {σ : L2.St} {ρ : List Sl}
end
section
variable {P : Program} {w : World} {K : PySem.W.Frag} {mg : Str → Option Value} {base : Heap} {k : Nat} {N : List Str} {sc : Scope} {bk : Bool} {c : Ctx P w K mg base k N sc bk} {ρ ρ' : List Sl} {pos cp px py ap : Pos} {e : Expr} {es : List Expr} {nx : List Sl → Prop} {p : Pt} {x y : Str} {i : Nat} {s : Sh} {R : D → Prop} {T : Bool → Prop}
end
/-! ## a list of owned things; one of them is handed over -/
section
variable {K : PySem.W.Frag} {H₀ Hf₀ H Hf H1 Hf1 : Hp} {σ : L2.St} {ρ : List Sl}
end
section
variable {P : Program} {w : World} {K : PySem.W.Frag} {mg : Str → Option Value} {base : Heap} {k : Nat} {N : List Str} {sc : Scope} {bk : Bool} {c : Ctx P w K mg base k N sc bk} {ρ ρ' : List Sl} {pos cp px py pz sp : Pos} {e : Expr} {es : List Expr} {nx : List Sl → Prop} {p : Pt} {x y z : Str} {i : Nat} {s : Sh}
end
/-! ## a list taken apart: (a, b, ..) = a list of that length -/
section
variable {prog : Program} {w : World} {A : Around} {E : Value → Shared → Prop}
end
section
variable {P : Program} {w : World} {K : PySem.W.Frag} {mg : Str → Option Value} {base : Heap} {k : Nat} {N : List Str} {sc : Scope} {bk : Bool} {c : Ctx P w K mg base k N sc bk} {ρ : List Sl} {pos : Pos}
end
end EV

namespace EV
open PySem PySem.Spec PyProof.Rows L2
/-! a new thing owned all the way down, as a value -/
section
variable {H Hf H1 Hf1 : Hp}
end
section
variable {P : Program} {w : World} {K : PySem.W.Frag} {mg : Str → Option Value} {base : Heap} {k : Nat} {N : List Str} {sc : Scope} {bk : Bool} {c : Ctx P w K mg base k N sc bk} {ρ : List Sl} {e : Expr} {R : D → Prop}
end
end EV

namespace EV
open PySem PySem.Spec PySem.Calls PyProof.Rows L2
/-! ## a comprehension of owned things -/
section
variable {P : Program} {w : World} {K : PySem.W.Frag} {mg : Str → Option Value} {base : Heap} {k : Nat} {N : List Str} {sc : Scope} {bk : Bool} {c : Ctx P w K mg base k N sc bk} {ρ : List Sl} {pos : Pos}
end
/-! ## tuple(a list of owned things) -/
section
variable {P : Program} {w : World} {K : PySem.W.Frag} {mg : Str → Option Value} {base : Heap} {k : Nat} {N : List Str} {sc : Scope} {bk : Bool} {c : Ctx P w K mg base k N sc bk} {ρ : List Sl} {pos : Pos} {e : Expr}
end
/-! ## an owned thing lent to a call that tells another -/
section
variable {K : PySem.W.Frag} {H Hf H1 Hf1 : Hp}
end
section
variable {P : Program} {w : World} {K : PySem.W.Frag} {mg : Str → Option Value} {base : Heap} {k : Nat} {N : List Str} {sc : Scope} {bk : Bool} {c : Ctx P w K mg base k N sc bk} {ρ ρ' : List Sl} {e : Expr} {i : Nat} {s : Sh}
end
/-! ## x(y[n:]): the end of a tuple of owned things is handed over -/
section
variable {K : PySem.W.Frag} {H Hf H1 Hf1 : Hp}
end
section
variable {P : Program} {w : World} {K : PySem.W.Frag} {mg : Str → Option Value} {base : Heap} {k : Nat} {N : List Str} {sc : Scope} {bk : Bool} {c : Ctx P w K mg base k N sc bk} {ρ ρ' : List Sl} {pos cp px py p2 p3 sp : Pos} {nx : List Sl → Prop} {p : Pt} {x y : Str} {i kt : Nat} {s : Sh}
end
/-! ## n in a list of numbers -/
section
variable {P : Program} {w : World} {K : PySem.W.Frag} {mg : Str → Option Value} {base : Heap} {k : Nat} {N : List Str} {sc : Scope} {bk : Bool} {c : Ctx P w K mg base k N sc bk} {ρ : List Sl} {pos : Pos} {a b : Expr} {T : Bool → Prop}
end
/-! ## texts -/
/-- one text stands in another -/
def subS (b a : Str) : Bool := !(Builtin.Str.occurrences b a 0 b.length 1).isEmpty
section
variable {X : Cx}
theorem op_inStr : OpR X (compareOp .In) (fun v u H Q => ∃ a b : Str, v = .str a ∧ u = .str b ∧ Q (.bl (subS b a)) H) := fun pins s σ H v u v' u' Q I rv ru ⟨a, b, e1, e2, q⟩ => by
  subst e1 e2
  obtain ⟨t1, rfl⟩ : ∃ t, v' = .str a t := rv
  obtain ⟨t2, rfl⟩ : ∃ t, u' = .str b t := ru
  exact in_str ⟨.bl (subS b a), H, I, rfl, q⟩
theorem cmp_inStr {K : PySem.W.Frag} : CmpD K (fun v u H Q => ∃ a b : Str, v = .str a ∧ u = .str b ∧ Q (.bl (subS b a)) H) fun x y R => ∃ a b : Str, x = .str a ∧ y = .str b ∧ R (subS b a) := by
  rintro x y v u H Hf Q R s rx ry ⟨a, b, rfl, rfl, hR⟩ q
  rw [rep_str] at rx ry
  subst rx ry
  exact ⟨a, b, rfl, rfl, q _ hR⟩
theorem flat_strs (ns : List Str) : (ns.map V.str).all flatV = true := by
  rw [List.all_eq_true]
  intro x hx
  obtain ⟨n, _, rfl⟩ := List.mem_map.mp hx
  rfl
theorem inV_strs (i : Str) (ns : List Str) : inV (.str i) (ns.map V.str) = ns.any fun n => n == i := by
  unfold inV
  rw [List.any_map]; rfl
theorem cmp_inSL {K : PySem.W.Frag} (neg : Bool) : CmpD K (rIn K neg) fun x y R => ∃ (i : Str) (ns : List Str), x = .str i ∧ y = .lst (ns.map .str) ∧ R (if neg then !(ns.any fun n => n == i) else ns.any fun n => n == i) := by
  rintro x y v u H Hf Q R s rx ry ⟨i, ns, rfl, rfl, hR⟩ q
  rw [rep_str] at rx
  subst rx
  obtain ⟨p, xs, rfl, hs, hr⟩ := rep_lst.mp ry
  rw [reps_strs hr] at hs
  refine ⟨p, _, rfl, .inl (s.seq hs), rfl, flat_strs ns, q _ ?_⟩
  rw [inV_strs]
  exact hR
end
section
variable {P : Program} {w : World} {K : PySem.W.Frag} {mg : Str → Option Value} {base : Heap} {k : Nat} {N : List Str} {sc : Scope} {bk : Bool} {c : Ctx P w K mg base k N sc bk} {ρ : List Sl} {pos : Pos} {a b : Expr} {T : Bool → Prop} {R : D → Prop}
theorem e_inStr (h : EvE c a ρ fun x => EvE c b ρ fun y => ∃ u v : Str, x = .str u ∧ y = .str v ∧ R (.bl (subS v u))) (hm : behindInMarks CmpOp.In b = false := by with_unfolding_all rfl) : EvE c (.Compare a [.In] [b] pos) ρ R :=
  e_cmp op_inStr cmp_inStr (h.imp fun x h1 => h1.imp fun y ⟨u, v, e1, e2, q⟩ => ⟨u, v, e1, e2, q⟩) hm
theorem e_gstr {x : Str} {i : Str} {t : Tok} (hm : mg x = some (.str i t)) (hR : R (.str i)) (hg : sc.names.lookup x = some .globalImplicit := by with_unfolding_all rfl) (hd : (x == ("__debug__" : Str)) = false := by decide) :
    EvE c (.Name x pos) ρ R := fun σ H Hf Q S q =>
  bE_of (pe_glob (X := c.X) (v := .str i) (u := .str i t) (by unfold Gl Env.kindOf; rw [c.esc]; exact hg) (by rw [c.emg]; exact hm) ⟨t, rfl⟩ hd) (q _ _ H Hf hR (rep_str.mpr rfl) (.refl S.sb))
end
/-! ## a text's signs: text[i], len(text), for over a text -/
def sgD (x : Str) : List D := x.cps.toList.map fun c => D.str ⟨#[c]⟩
def Itz (x : Str) : It := ⟨fun i _ => i < x.cps.size, fun i H y H' => H' = H ∧ ∃ c, x.cps[i]? = some c ∧ y = .str ⟨#[c]⟩, fun i _ => x.cps.size ≤ i⟩
theorem turn_str {P : Program} {w : World} {K : PySem.W.Frag} {tg : Expr} (x : Str) (t : Tok) (it : Addr) : Turn P w K tg (Itz x) [it] it (fun i h => h.IsStrIter it "str_ascii_iterator" x t i) where
  mem := by simp
  obj := fun i h st b hb => by
    have e : b = it := by simpa using hb
    subst e
    obtain ⟨o, e, c, d⟩ := st
    exact ⟨o, e, fun v z => by rw [d] at z; cases z⟩
  keep := fun i h h' ⟨o, e, r⟩ k => ⟨o, k it (by simp) o e, r⟩
  item := by
    intro X hP hw hK hc i pins s σ H E I hf st hg
    subst hP hw hK
    have hi : i < x.cps.size := hg
    obtain ⟨f0, f1, f2, f3, f4, f5⟩ := hf it (by simp)
    have e1 : x.cps[i]? = some x.cps[i] := by simp [hi]
    refine wpAny_pyNext_ascii_item st e1 fun h' st' sb => ?_
    have I1 : Inv X pins σ H { s with heap := h', toks := s.toks + 1 } := I.turned (t' := s.toks + 1) (fun b o hb e => (sb.2 b hb).trans e) f0 f1 f3 f4 f5
    obtain ⟨o, e, c, d⟩ := id st'
    exact ⟨_, rfl, go_of (s := { s with heap := h', toks := s.toks + 1 }) e c d (by decide) ⟨.str ⟨#[x.cps[i]]⟩, H, I1, ⟨_, rfl⟩, ⟨rfl, _, e1, rfl⟩, st', fun b hb => (hf b hb).1⟩⟩
  done := by
    intro X hP hw hK hc i pins s σ H E I hf st hg
    subst hP hw hK
    have hi : x.cps.size ≤ i := hg
    obtain ⟨f0, f1, f2, f3, f4, f5⟩ := hf it (by simp)
    exact wpAny_pyNext_ascii_end (I.ok.hd hc) st (by simp [hi]) fun h' eb => ⟨rfl, I.turned (t' := s.toks) (fun b o hb e => eb b o hb e) f0 f1 f3 f4 f5⟩
  self := fun _ _ _ _ _ st h => wpAny_pyIter_striter_ascii st h
theorem itok_str {K : PySem.W.Frag} {x : Str} {Hf₀ : Hp} : ItOk K (Itz x) (sgD x) Hf₀ where
  go := fun i d H Hf s1 s2 e => by
    unfold sgD at e
    rw [List.getElem?_map] at e
    obtain ⟨c, e1, e2⟩ := Option.map_eq_some_iff.mp e
    rw [Array.getElem?_toList] at e1
    refine ⟨(Array.getElem?_eq_some_iff.mp e1).1, fun y H' ⟨e3, c', e4, e5⟩ => ?_⟩
    rw [e1] at e4; cases e4
    subst e3 e5 e2
    exact ⟨Hf, .refl s2, rep_str.mpr rfl⟩
  stop := fun i H Hf s1 s2 e => by
    show x.cps.size ≤ i
    simpa [sgD] using e
def iStr (tl : TE) : TI := fun σ H R => tl σ H fun y H1 => ∃ z : Str, y = .str z ∧ z.cps.all (· < 128) = true ∧ R (Itz z) H1
theorem pi_str {X : Cx} {tg l : Expr} {tl : TE} (hl : PE X l tl) : PI X tg l (iStr tl) := by
  intro pins s σ H R I h
  refine thn (hl pins s σ H _ I h) fun v s1 ⟨x, H1, I1, r1, q1⟩ => ?_
  obtain ⟨z, e, ha, q⟩ := q1
  subst e
  obtain ⟨t, rfl⟩ := r1
  refine wpAny_pyIter_ascii ha ?_
  refine ⟨s1.heap.objs.size, [s1.heap.objs.size], _, _, H1, rfl, I1.kept (t' := s1.toks) fun b o e => Heap.get?_push_of_some _ e, turn_str z t _, ⟨_, Heap.get?_push_size _ rfl, rfl, rfl⟩, fun b hb => ?_, q⟩
  have e : b = s1.heap.objs.size := by simpa using hb
  subst e
  exact I1.fpOk (Nat.le_refl _) (I1.hok.fresh (Nat.le_refl _))
section
variable {P : Program} {w : World} {K : PySem.W.Frag} {mg : Str → Option Value} {base : Heap} {k : Nat} {N : List Str} {sc : Scope} {bk : Bool} {c : Ctx P w K mg base k N sc bk} {ρ : List Sl} {pos p : Pos} {a b e : Expr} {R : D → Prop}
theorem i_str {tg : Expr} {R : List D → Prop} (h : EvE c e ρ fun d => ∃ z : Str, d = .str z ∧ z.cps.all (· < 128) = true ∧ R (sgD z)) : EvI c tg e ρ R := fun σ H Hf Q S q pins s I =>
  pi_str pbE pins s σ H Q I (h σ H Hf _ S fun d v H' Hf' ⟨z, er, ha, hR⟩ r g => by
    subst er
    rw [rep_str] at r
    subst r
    exact ⟨z, rfl, ha, q _ _ H' Hf' hR g itok_str⟩)
theorem e_ixS (h : EvE c a ρ fun x => EvE c b ρ fun y => ∃ (z : Str) (i : Int) (cc : Nat), x = .str z ∧ y = .int i ∧ z.length ≤ sizeLine ∧ atI z.cps.toList i = some cc ∧ R (.str ⟨#[cc]⟩)) (hs : ∀ o i, subscripted b false o i = operate [o, i] (getItem o i) := by intro _ _; with_unfolding_all rfl) : EvE c (.Subscript a b pos) ρ R := fun σ H Hf Q S q =>
  bE_of (pe_ix ix_str pbE pbE hs) (h σ H Hf _ S fun x v H1 Hf1 h1 r1 g1 => h1 σ H1 Hf1 _ (S.grw g1) fun y u H2 Hf2 ⟨z, i, cc, e1, e2, e3, e4, hR⟩ r2 g2 => by
    subst e1 e2
    rw [rep_int] at r2
    rw [rep_str] at r1
    subst r1 r2
    exact ⟨z, i, cc, rfl, rfl, e3, e4, q (.str ⟨#[cc]⟩) _ H2 Hf2 hR (rep_str.mpr rfl) (g1.trans g2)⟩)
theorem e_lenS (hm : mg (Str.ofString "len") = none) (h : EvE c e ρ fun x => ∃ z : Str, x = .str z ∧ Sd (z.length ≤ sizeLine) (R (.int z.length))) (hg : sc.names.lookup (Str.ofString "len") = some .globalImplicit := by with_unfolding_all rfl)
    (he : ∀ env, starEach [e] env = (false, eval e env) :: starEach [] env := by intro _; with_unfolding_all rfl) : EvE c (.Call (.Name (Str.ofString "len") p) [e] [] pos) ρ R :=
  e_blt call_len_str (q := fun ds R => ∃ z : Str, ds = [.str z] ∧ Sd (z.length ≤ sizeLine) (R (.int z.length))) (by
    rintro ds vs H Hf Q R s rs ⟨z, rfl, ⟨hz, hR⟩⟩ q
    obtain ⟨v, rfl, rv⟩ := reps1 rs
    rw [rep_str] at rv
    subst rv
    exact ⟨z, rfl, hz, q _ _ H Hf hR (rep_int.mpr rfl) (.refl s)⟩) hm PySem.boot_len (a_cons (h.imp fun d ⟨z, e1, hd⟩ => a_nil ⟨z, by rw [e1], hd⟩) he) hg (by decide) (by decide) he (by intro _; with_unfolding_all rfl)
end
/-! ## sep.join(a list of texts), a list's index of a text, y.pop(i) -/
theorem vals_strs {zs : List Str} : ∀ {its : List Value}, Vals (zs.map V.str) its → CarriedAll its (zs.map fun a => PyData.str (id a)) := by
  induction zs with
  | nil => intro its r; cases r; exact .nil
  | cons z zs ih =>
    intro its r
    cases r with
    | cons r0 r =>
      obtain ⟨t, rfl⟩ := r0
      exact .cons (.str z t) (ih r)
def rIndex (K : PySem.W.Frag) : V → List V → Hp → VK → Prop := fun x vs H Q => ∃ (l : Addr) (zs : List Str) (z : Str) (j : Nat), x = .ref l ∧ vs = [.str z] ∧ SqL K H l (zs.map V.str) ∧ zs[j]? = some z ∧ (∀ i, i < j → zs[i]? ≠ some z) ∧ Q (.int j) H
theorem mt_index {X : Cx} : MtR X "list.index" (rIndex X.K) := by
  intro pins s σ H x vs v us Q I rx rv h
  obtain ⟨l, zs, z, j, rfl, rfl, hq, hj, hno, q⟩ := h
  cases rx
  obtain ⟨u, rfl, ru⟩ := rv.one
  obtain ⟨t, rfl⟩ := ru
  obtain ⟨its, r, pl, hz⟩ := I.list hq
  have hl := r.length
  obtain ⟨⟨cls, dd, data, sl⟩, n, p1, p2, p3, p4⟩ := pl
  simp only at p2 p3 p4
  subst p2 p3 p4
  have at_ : ∀ (m : Nat) (hm : m < its.length), ∃ (a : Str) (ta : Tok), its[m] = .str a ta ∧ zs[m]? = some a := fun m hm => by
    have hm' : m < (zs.map V.str).length := by rw [hl]; exact hm
    obtain ⟨u, hu, ru⟩ := r.get (List.getElem?_eq_getElem hm')
    rw [List.getElem_map] at ru
    obtain ⟨ta, rfl⟩ := ru
    rw [List.getElem?_eq_getElem hm] at hu
    exact ⟨_, ta, Option.some.inj hu, by rw [List.length_map] at hm'; exact List.getElem?_eq_getElem hm'⟩
  have hj2 : j < its.toArray.size := by
    have := (List.getElem?_eq_some_iff.mp hj).1
    rw [List.length_map] at hl
    rw [List.size_toArray]; lia
  let e : Value → Bool := fun y => match y with
    | .str a _ => a == z
    | _ => false
  refine call_meets F.slot_list_index ⟨_, p1, rfl⟩ F.entry_list_index (F.args_list_index_2 _ _) (SeqAt.list_indexAt l its.toArray n none sl (.str z t) e j hj2 ?_ ?_ fun m hm hmj => ?_) ⟨p1, fun y hy => ?_, ?_⟩
  · rw [sizeLine_eq] at hz
    rw [List.size_toArray] at hj2
    lia
  · obtain ⟨a, ta, ea, e2⟩ := at_ j hj2
    rw [hj] at e2; cases e2
    show e its[j] = true
    rw [ea]
    exact beq_self_eq_true _
  · obtain ⟨a, ta, ea, e2⟩ := at_ m hm
    show e its[m] = false
    rw [ea]
    exact beq_eq_false_iff_ne.mpr fun q => hno m hmj (by rw [e2, q])
  · obtain ⟨m, hm, rfl⟩ := List.getElem_of_mem (List.mem_toArray.mp hy)
    obtain ⟨a, ta, ea, _⟩ := at_ m hm
    rw [ea]
    exact SeqAt.EqAt.str_str a ta z t
  · exact ⟨.int j, H, I.tok _, ⟨_, rfl⟩, q⟩
section
variable {P : Program} {w : World} {K : PySem.W.Frag} {mg : Str → Option Value} {base : Heap} {k : Nat} {N : List Str} {sc : Scope} {bk : Bool} {c : Ctx P w K mg base k N sc bk} {ρ : List Sl} {pos ap cp px p2 : Pos} {a b e : Expr} {R : D → Prop} {nx : List Sl → Prop} {p : Pt} {y : Str} {i : Nat}
theorem e_index (h : EvE c a ρ fun x => ∃ zs : List Str, x = .lst (zs.map .str) ∧ EvE c e ρ fun v => ∃ (z : Str) (j : Nat), v = .str z ∧ zs[j]? = some z ∧ (∀ i, i < j → zs[i]? ≠ some z) ∧ R (.int j))
    (hbase : ∀ env, attributeBase a (Str.ofString "index") env (eval a env) = eval a env := by intro _; with_unfolding_all rfl)
    (hfew : ∀ env, ((backTo cp (starEach [e] env)).all (fun x => !x.1) && (backToKw cp (keywordEach [] env)).all (fun x => x.1.isSome)
      && decide (([e] : List Expr).length + ([] : List Keyword).length + (if ([] : List Keyword).isEmpty then 0 else 1) < 30)) = true := by intro _; with_unfolding_all rfl)
    (hline : (ap.endLine == cp.line) = true := by with_unfolding_all rfl) (he : ∀ env, starEach [e] env = (false, eval e env) :: starEach [] env := by intro _; with_unfolding_all rfl) (hpl : ∀ env, (backTo cp (starEach [] env)).any (·.1) = false := by intro _; with_unfolding_all rfl) :
    EvE c (.Call (.Attribute a (Str.ofString "index") ap) [e] [] cp) ρ R := fun σ H Hf Q S q =>
  bE_of (pe_bm (X := c.X) PySem.F.plainAttrs_list PySem.F.slot_list_index PySem.F.type_list_index mt_index pbE (pa_cons pbE pa_nil (he _)) (hbase _) (hfew _) hline (he _) (hpl _)) (h σ H Hf _ S fun x v H1 Hf1 ⟨zs, ex, h1⟩ r1 g1 => by
    subst ex
    obtain ⟨l, xs, rfl, k1, k2⟩ := rep_lst.mp r1
    rw [reps_strs k2] at k1
    exact ⟨.inl ⟨rfl, _, g1.b.seq k1⟩, h1 σ H1 Hf1 _ (S.grw g1) fun v u H2 Hf2 ⟨z, j, ey, hj, hno, hR⟩ r2 g2 => by
      subst ey
      rw [rep_str] at r2
      subst r2
      exact ⟨l, zs, z, j, rfl, rfl, g2.b.seq (g2.f.seq k1), hj, hno, q _ _ H2 Hf2 hR (rep_int.mpr rfl) (g1.trans g2)⟩⟩)
end
/-! ## a module's dict of texts and tuples of texts: x in D, D[x] -/
def EntsOk (K : PySem.W.Frag) (P : Params) : List DictEntry → List (Str × List Str) → Prop
  | [], [] => True
  | e :: es, p :: W => (∃ t, e.key = .str p.1 t) ∧ e.hash = PyData.keyHash P p.1 ∧
      (∃ a o its n, e.val = .ref a ∧ K.lookup a = some o ∧ o.cls = .type "tuple" ∧ o.data = .seq its n ∧ its.size ≤ sizeLine ∧ Vals (p.2.map V.str) its.toList) ∧ EntsOk K P es W
  | _, _ => False
def GDat (K : PySem.W.Frag) (w : World) (S : Addr) (W : List (Str × List Str)) : Prop :=
  ∃ (es : Array DictEntry) (n : Nat), K.lookup S = some ⟨.type "dict", none, .dict es n, #[]⟩ ∧ (S == sysModules) = false ∧ EntsOk K w.params es.toList W
theorem EntsOk.lit {K : PySem.W.Frag} {P : Params} : ∀ {l : List DictEntry} {W : List (Str × List Str)}, EntsOk K P l W → PySem.W.KeysLit P l
  | [], [], _ => trivial
  | _ :: _, _ :: _, ⟨⟨t, e1⟩, e2, _, r⟩ => ⟨⟨_, t, e1, e2⟩, r.lit⟩
theorem EntsOk.find {K : PySem.W.Frag} {P : Params} {z : Str} : ∀ {l : List DictEntry} {W : List (Str × List Str)}, EntsOk K P l W →
    match W.find? (fun p => p.1 == z) with
    | none => (l.find? fun e => Value.isStrOf z e.key) = none
    | some p => ∃ e a, (l.find? fun e => Value.isStrOf z e.key) = some e ∧ e.val = .ref a ∧ ∀ H, SqT K H a (p.2.map V.str)
  | [], [], _ => rfl
  | e :: l, p :: W, ⟨⟨t, e1⟩, e2, ⟨a, o, its, n, k1, k2, k3, k4, k5, k6⟩, r⟩ => by
    have q : Value.isStrOf z e.key = (p.1 == z) := by
      rw [e1]
      show (p.1 == z) = _
      rfl
    rw [List.find?_cons, List.find?_cons, q]
    cases h : p.1 == z
    · exact r.find
    · exact ⟨e, a, rfl, k1, fun H => .inr ⟨o, its, n, k2, k3, k4, k5, k6⟩⟩
def rGIn (K : PySem.W.Frag) (w : World) : R2 := fun x y H Q => ∃ z S W, x = .str z ∧ y = .ref S ∧ GDat K w S W ∧ Q (.bl (W.any fun p => p.1 == z)) H
def rGIx (K : PySem.W.Frag) (w : World) : R2 := fun x y H Q => ∃ z S W p, y = .str z ∧ x = .ref S ∧ GDat K w S W ∧ W.find? (fun p => p.1 == z) = some p ∧ ∀ a, (∀ H, SqT K H a (p.2.map V.str)) → Q (.ref a) H
section
variable {X : Cx}
theorem op_gin : OpR X (compareOp .In) (rGIn X.K X.w) := fun pins s σ H x y v u Q I rx ry ⟨z, S, W, e1, e2, ⟨es, n, hl, hm, he⟩, q⟩ => by
  subst e1 e2
  obtain ⟨t, rfl⟩ := rx
  cases ry
  refine wpAny_in_of (strKind_is X.prog X.w z t) hm (PySem.W.mapOf_K (prog := X.prog) (w := X.w) I.kIn hl he.lit) ?_
  have h := he.find (z := z)
  have hb : (findBy Value.isStrOf es z).isSome = W.any fun p => p.1 == z := by
    unfold findBy
    rw [← Array.find?_toList, Option.isSome_map]
    cases hw : W.find? (fun p => p.1 == z) with
    | none =>
      rw [hw] at h
      rw [h, ← List.isSome_find?, hw]; rfl
    | some p =>
      rw [hw] at h
      obtain ⟨e, a, h1, _⟩ := h
      rw [h1, ← List.isSome_find?, hw]; rfl
  rw [hb]
  exact ⟨.bl _, H, I.tok _, rfl, q⟩
theorem ix_gd : IxR X (rGIx X.K X.w) := by
  intro value slice pins s σ H x y v u Q I rx ry ⟨z, S, W, p, e1, e2, ⟨es, n, hl, hm, he⟩, hw, q⟩ hs
  subst e1 e2
  obtain ⟨t, rfl⟩ := ry
  cases rx
  have h := he.find (z := z)
  rw [hw] at h
  obtain ⟨e, a, h1, h2, h3⟩ := h
  have hb : findBy Value.isStrOf es z = some (.ref a) := by
    unfold findBy
    rw [← Array.find?_toList, h1, ← h2]; rfl
  have hM := PySem.W.mapOf_K (prog := X.prog) (w := X.w) I.kIn hl he.lit
  exact tail_any hM.typeIs slot_dict_getitem.lookup (wpAny_getItem_of (strKind_is X.prog X.w z t) hM hb ⟨.ref a, H, I.tok _, rfl, q a h3⟩) hs
end
theorem reps_str {K : PySem.W.Frag} {H : Hp} : ∀ (L : List Str), Reps K H (L.map D.str) (L.map V.str)
  | [] => reps_nil.mpr rfl
  | x :: L => .cons (rep_str.mpr rfl) (reps_str L)
section
variable {P : Program} {w : World} {K : PySem.W.Frag} {mg : Str → Option Value} {base : Heap} {k : Nat} {N : List Str} {sc : Scope} {bk : Bool} {c : Ctx P w K mg base k N sc bk} {ρ : List Sl} {pos gp : Pos} {a b e : Expr} {R : D → Prop} {T : Bool → Prop} {x : Str} {S : Addr} {W : List (Str × List Str)}
theorem e_gdin (hm : mg x = some (.ref S)) (hG : GDat K w S W) (h : EvE c a ρ fun d => ∃ z, d = .str z ∧ R (.bl (W.any fun p => p.1 == z))) (hg : sc.names.lookup x = some .globalImplicit := by with_unfolding_all rfl) (hd : (x == ("__debug__" : Str)) = false := by decide)
    (hmk : behindInMarks CmpOp.In (.Name x gp) = false := by with_unfolding_all rfl) : EvE c (.Compare a [.In] [.Name x gp] pos) ρ R := fun σ H Hf Q SR q =>
  bE_of (pe_cmpR op_gin pbE (pe_glob (X := c.X) (v := .ref S) (u := .ref S) (by unfold Gl Env.kindOf; rw [c.esc]; exact hg) (by rw [c.emg]; exact hm) rfl hd) hmk) (h σ H Hf _ SR fun d v H1 Hf1 ⟨z, e1, hR⟩ r g => by
    subst e1
    rw [rep_str] at r
    subst r
    exact ⟨z, S, W, rfl, rfl, by rw [c.eK, c.ew]; exact hG, q _ _ H1 Hf1 hR (rep_bl.mpr rfl) g⟩)
theorem e_gdix (hm : mg x = some (.ref S)) (hG : GDat K w S W) (h : EvE c b ρ fun d => ∃ z p, d = .str z ∧ W.find? (fun p => p.1 == z) = some p ∧ R (.tup (p.2.map D.str))) (hg : sc.names.lookup x = some .globalImplicit := by with_unfolding_all rfl) (hd : (x == ("__debug__" : Str)) = false := by decide)
    (hs : ∀ o i, subscripted b false o i = operate [o, i] (getItem o i) := by intro _ _; with_unfolding_all rfl) : EvE c (.Subscript (.Name x gp) b pos) ρ R := fun σ H Hf Q SR q =>
  bE_of (pe_ix ix_gd (pe_glob (X := c.X) (v := .ref S) (u := .ref S) (by unfold Gl Env.kindOf; rw [c.esc]; exact hg) (by rw [c.emg]; exact hm) rfl hd) pbE hs) (h σ H Hf _ SR fun d v H1 Hf1 ⟨z, p, e1, hp, hR⟩ r g => by
    subst e1
    rw [rep_str] at r
    subst r
    refine ⟨z, S, W, p, rfl, rfl, by rw [c.eK, c.ew]; exact hG, hp, fun a ha => q _ _ H1 Hf1 hR (rep_tup.mpr ⟨a, p.2.map V.str, rfl, ?_, reps_str _⟩) g⟩
    exact ha Hf1)
/-- i <= j < k -/
theorem e_chainI {e' : Expr} (h : EvE c a ρ fun x => EvE c b ρ fun y => ∃ i j, x = .int i ∧ y = .int j ∧ (i ≤ j → EvE c e' ρ fun z => ∃ k, z = .int k ∧ R (.bl (decide (j < k)))) ∧ (¬ i ≤ j → R (.bl false)))
    (hm : lastMarks [.LtE, .Lt] [b, e'] = false := by with_unfolding_all rfl) : EvE c (.Compare a [.LtE, .Lt] [b, e'] pos) ρ R := fun σ H Hf Q S q =>
  bE_of (pe_chain (X := c.X) op_le op_lt pbE pbE pbE hm) (h σ H Hf _ S fun x v1 H1 Hf1 h1 r1 g1 => h1 σ H1 Hf1 _ (S.grw g1) fun y v2 H2 Hf2 ⟨i, j, e1, e2, ht, hf⟩ r2 g2 => by
    subst e1 e2
    rw [rep_int] at r1 r2
    subst r1 r2
    refine ⟨i, j, rfl, rfl, _, rfl, ?_⟩
    by_cases hij : i ≤ j
    · rw [if_pos (decide_eq_true hij)]
      exact ht hij σ H2 Hf2 _ ((S.grw g1).grw g2) fun z v3 H3 Hf3 ⟨kk, e3, hR⟩ r3 g3 => by
        subst e3
        rw [rep_int] at r3
        subst r3
        exact ⟨j, kk, rfl, rfl, q _ _ H3 Hf3 hR (rep_bl.mpr rfl) ((g1.trans g2).trans g3)⟩
    · rw [if_neg (by rw [decide_eq_false hij]; decide)]
      exact q _ _ H2 Hf2 (hf hij) (rep_bl.mpr rfl) (g1.trans g2))
/-- len(an expression that makes a dict) -/
theorem e_lenD (hm : mg (Str.ofString "len") = none) (h : EvX c e ρ fun r => ∃ kvs, r = .oK kvs ∧ R (.int kvs.length)) (hg : sc.names.lookup (Str.ofString "len") = some .globalImplicit := by with_unfolding_all rfl)
    (he : ∀ env, starEach [e] env = (false, eval e env) :: starEach [] env := by intro _; with_unfolding_all rfl) (hpl : ∀ env, (backTo pos (starEach [] env)).any (·.1) = false := by intro _; with_unfolding_all rfl) : EvE c (.Call (.Name (Str.ofString "len") gp) [e] [] pos) ρ R := fun σ H Hf Q S q =>
  bE_of (pe_callB (X := c.X) (x := Str.ofString "len") call_lenD (by unfold Gl Env.kindOf; rw [c.esc]; exact hg) (by rw [c.emg]; exact hm) PySem.boot_len (pa_cons pbE pa_nil (he _)) (by decide) (by decide) (he _) (hpl _)) (h σ H Hf _ S fun r v H1 Hf1 ⟨kvs, er, hR⟩ rs g => by
    subst er
    obtain ⟨p, xs, rfl, _, h1, h2, h3⟩ := rs
    exact ⟨p, xs, rfl, h1, q (.int kvs.length) _ H1 Hf1 hR (rep_int.mpr (by rw [Paired.length h3])) g⟩)
end
/-! ## dict(a list of pairs) -/
section
variable {prog : Program} {w : World} {A : Around} {E : Value → Shared → Prop} {s : Shared}
theorem no_keys {a : Addr} {o : Obj} {xs : Array Value} {k : Nat} {Q : Option Value → Shared → Prop}
    (hx : s.heap.get? a = some o) (hc : o.cls = .type "list") (hdat : o.data = .seq xs k) (hd : o.dict = none) (hA : A.handled = none)
    (h : ∀ h' tk, (∀ b ob, s.heap.get? b = some ob → h'.get? b = some ob) → Q none { s with heap := h', toks := tk }) : wpAny (model prog w) A (getAttr? (.ref a) (Str.ofString "keys")) Q E s := by
  obtain ⟨c, dct, dat, sl⟩ := o
  simp only at hc hdat hd
  subst hc hdat hd
  obtain ⟨hp, g, d, tk, os⟩ := s
  have hT : ∀ tk', (⟨hp, g, d, tk', os⟩ : Shared).TypeIs (.ref a) "list" := fun _ => ⟨_, hx, rfl⟩
  have hmiss : typeLookup (.type "list") (Str.ofString "keys") = pure none := am_miss_of_fast (by decide +kernel)
  have f1 := sub_AttributeError
  have f3 := F.slot_list_getattribute.lookup
  have f4 := F.slot_list_getattribute.bind (.ref a)
  have f5 := am_list_getattr_none
  unfold getAttr? getAttrBy? getAttrBy
  repeat (any_goals (first | assumption | exact hT _ | ((with_reducible show wpAny _ _ (call (Value.builtin "list.__getattribute__") _ _) _ _ _); refine call_meets F.slot_list_getattribute (hT _) am_entry_list_getattribute (F.args_list_getattribute_2 _ _) (meets_getattribute_miss_list a xs k sl (Str.ofString "keys") _ hmiss (by decide) (by decide)) ⟨hx, hA, fun h' tk' e hx' => ?_⟩) | wp_step))
  obtain ⟨t', u', he⟩ := hx'.there
  show wpAny _ _ (getattributeRaised _ _ _ _ _ _ _) _ _ _
  unfold getattributeRaised
  repeat (any_goals (first | assumption | wp_step))
  exact h h' tk' hx'.of.keeps
end
theorem entry_upd_loop : entryFor table "dict.update.loop" = some Builtin.«dict.update.loop» := entryFor_of_tree (by kernel_rfl)
theorem plain_upd_loop : plainId "dict.update.loop" = true := by decide +kernel
theorem merge_snoc (kvs ps : List (Key × V)) (k : Key) (v : V) : mergeK kvs (ps ++ [(k, v)]) = putK (mergeK kvs ps) k v := by unfold mergeK; rw [List.foldl_append]; rfl
section
variable {X : Cx} {pins : List (Addr × Obj)} {σ : L2.St} {H Hf : Hp} {s : Shared}
def PrsAt (K : PySem.W.Frag) (H : Hp) : List V → List (Key × V) → Prop := Paired fun y kv => ∃ t, y = .ref t ∧ SqT K H t [kV kv.1, kv.2]
theorem pair_items {A : Around} {E : Value → Shared → Prop} {t : Addr} {u v : Value} {Q : List Value → Shared → Prop} (h : s.heap.IsTuple t #[u, v]) (hQ : Q [u, v] s) : wpAny (model X.prog X.w) A (Builtin.Dict.pairItems (.ref t)) Q E s := by
  obtain ⟨⟨c, dct, dat, sl⟩, ho, hc, n, hd⟩ := h
  simp only at hc hd
  subst hc hd
  obtain ⟨hp, g, dd, tk, os⟩ := s
  have hT : (⟨hp, g, dd, tk, os⟩ : Shared).TypeIs (.ref t) "tuple" := ⟨_, ho, rfl⟩
  unfold Builtin.Dict.pairItems
  repeat (any_goals (first | assumption | wp_step))
theorem dict_turn {d it l : Addr} {ys : List V} {ps : List (Key × V)} {R : Result → Shared → Prop} (hc : X.calm = true) (okX : X.Ok) (h1 : X.A.in1.handled = none) (hl : SqL X.K H l ys) (hp : PrsAt X.K H ys ps) (hd : H d = none) (hid : it ≠ d) (hz : ps.length ≤ sizeLine)
    (fin : ∀ s', Inv X pins σ (upd H d (.dK (mergeK [] ps))) s' → R (.ok (.ret .none)) s') :
    ∀ (k i : Nat) (s : Shared) (tok : Tok), ps.length - i = k → i ≤ ps.length → Inv X pins σ (upd H d (.dK (mergeK [] (ps.take i)))) s → s.heap.IsListIter it l i → FpOk X pins H it →
      codeAny (model X.prog X.w) X.A (.builtin "dict.update.loop" ⟨[.ref d, .ref it, .int i tok, .none], []⟩) R s := by
  have sd : ∀ o : HO, Same H (upd H d o) := fun o b q e => by rw [upd_ne (ne_of_none e hd)]; exact e
  have elen := Paired.length hp
  intro k
  induction k with
  | zero =>
    intro i s tok hk hi I st hf
    have e : i = ps.length := by omega
    subst e
    rw [List.take_length] at I
    obtain ⟨its, rv, p, _⟩ := I.list ((sd _).seq hl)
    have hlen := rv.length
    obtain ⟨f0, f1, f2, f3, f4, f5⟩ := hf
    have f0' : upd H d (.dK (mergeK [] ps)) it = none := by rw [upd_ne hid]; exact f0
    refine codeAny_builtin entry_upd_loop ?_
    rw [Around.under_plainId plain_upd_loop _]
    show wpAny _ X.A.in1 (pyNext (.ref it) >>= _) _ _ s
    refine wpAny_bind (wpAny_pyNext_list_end h1 st p.isList (by simp; omega) fun h' eb => ?_)
    exact wpAny_bind (wpAny_pure (wpAny_pure (fin _ (I.turned (t' := s.toks) (fun b o hb e => eb b o hb e) f0' f1 f3 f4 f5))))
  | succ k ih =>
    intro i s tok hk hi I st hf
    have lt : i < ps.length := by omega
    obtain ⟨its, rv, p, _⟩ := I.list ((sd _).seq hl)
    have hlen := rv.length
    have f' := hf
    obtain ⟨f0, f1, f2, f3, f4, f5⟩ := hf
    have f0' : upd H d (.dK (mergeK [] (ps.take i))) it = none := by rw [upd_ne hid]; exact f0
    have hiy : i < ys.length := by omega
    obtain ⟨kv, ekv, t, ey, ht⟩ := paired_get hp (List.getElem?_eq_getElem hiy)
    obtain ⟨u, hu, ru⟩ := rv.get (List.getElem?_eq_getElem hiy)
    rw [ey] at ru
    cases ru
    refine codeAny_builtin entry_upd_loop ?_
    rw [Around.under_plainId plain_upd_loop _]
    show wpAny _ X.A.in1 (pyNext (.ref it) >>= _) _ _ s
    refine wpAny_bind (wpAny_pyNext_list_item st p.isList (x := .ref t) (by simpa using hu) fun h' st' sb => ?_)
    have I1 : Inv X pins σ (upd H d (.dK (mergeK [] (ps.take i)))) { s with heap := h' } := I.turned (t' := s.toks) (fun b o hb e => (sb.2 b hb).trans e) f0' f1 f3 f4 f5
    obtain ⟨us, r2, t2, _⟩ := I1.tuple (same_tup (sd _) ht)
    cases r2 with
    | cons rk r2 =>
      obtain ⟨uv, rfl, rvv⟩ := Vals.one r2
      rename_i uk _
      dsimp only
      refine wpAny_bind (wpAny_holding (wpAny_bind (wpAny_tryCatch (pair_items t2 ?_))))
      dsimp only
      refine wpAny_holding ?_
      have ed : upd H d (.dK (mergeK [] (ps.take i))) d = some (.dK (mergeK [] (ps.take i))) := upd_same
      obtain ⟨z, hdm, vs, rel, dd⟩ := dk_of I1.hok ed
      have hzv : vs.length ≤ sizeLine := by rw [← rel.length]; exact z
      have hl2 := length_mergeK (ps.take i ++ [(kv.1, kv.2)]) []
      rw [merge_snoc, List.length_append, List.length_take, List.length_singleton, List.length_nil] at hl2
      refine wpAny_dictSet_pairs (kV_is rk) dd (fun h2 dd2 hs => ?_) hzv
      have he : ∃ q, h2.get? d = some q := let ⟨q, _, _, hq, _⟩ := dd2; ⟨q, hq⟩
      have I2 := d_write (t' := s.toks + 1) I1 (by rw [ed]; exact True.intro) hs he (dk_new (by omega) hdm (rel.put kv.1 rvv) dd2)
      rw [upd_upd, ← merge_snoc] at I2
      have ekv' : ps.take (i + 1) = ps.take i ++ [(kv.1, kv.2)] := by
        obtain ⟨hk1, e1⟩ := List.getElem?_eq_some_iff.mp ekv
        rw [List.take_succ_eq_append_getElem hk1, e1]
      rw [← ekv'] at I2
      refine wpAny_pure ⟨plainId_quiet plain_upd_loop _, ih (i + 1) _ _ (by omega) lt I2 ?_ f'⟩
      exact st'.at fun o e => (hs.2 it hid).trans e
theorem call_dictL (hc : X.calm = true) : CallR X (.type "dict") (fun xs H Q => ∃ (l : Addr) (ys : List V) (ps : List (Key × V)), xs = [.ref l] ∧ SqL X.K H l ys ∧ PrsAt X.K H ys ps ∧ ps.length ≤ sizeLine ∧ ∀ d, H d = none → Q (.ref d) (upd H d (.dK (mergeK [] ps)))) := by
  intro pins s σ H xs us Q I r ⟨l, ys, ps, e, hl, hp, hz, q⟩
  subst e
  obtain ⟨u, rfl, rx⟩ := vals1 r
  cases rx
  have hd : H s.heap.objs.size = none := I.hok.fresh (Nat.le_refl _)
  have h1 : X.A.in1.handled = none := I.ok.hd hc
  refine callType_codes (Q₁ := fun obj s₁ => obj = .ref s.heap.objs.size ∧ s₁ = { s with heap := s.heap.push { cls := .type "dict", data := .dict #[] } }) F.kt_called_dict (F.kt_typeCall_dict_1 _) F.entry_dict_init (kt_code_dict_new _ ⟨rfl, rfl⟩) ?_
  rintro obj s₁ ⟨rfl, rfl⟩
  have hnew : (s.heap.push { cls := .type "dict", data := .dict #[] }).DictOf (mixKind X.prog X.w) s.heap.objs.size [] := Heap.DictOf.new s.heap
  refine ⟨hnew.typeIs, F.args_dict_init_2 _ _, ?_⟩
  have I1 := I.laid (a := s.heap.objs.size) (o := .dK []) (h' := s.heap.push { cls := .type "dict", data := .dict #[] }) (t' := s.toks) (fun _ _ q => Heap.get?_push_of_some _ q) (Nat.le_refl _) (dk_empty s.heap I.big)
  clear hnew
  generalize s.heap.objs.size = d at *
  generalize ({ s with heap := s.heap.push { cls := .type "dict", data := .dict #[] } } : Shared) = s1 at *
  obtain ⟨_, hdm, vs, rel, dd⟩ := dk_of I1.hok upd_same
  have sd : Same H (upd H d (.dK [])) := fun b q e => by rw [upd_ne (ne_of_none e hd)]; exact e
  obtain ⟨its, rv, p, _⟩ := I1.list (sd.seq hl)
  obtain ⟨o, n, p1, p2, p3, p4⟩ := id p
  unfold Builtin.«dict.__init__»
  refine wpAny_bind ?_
  unfold Builtin.Dict.selfAndRest
  refine wpAny_bind (wpAny_notOrdered_dict dd.typeIs ?_)
  show wpAny _ _ (pure (d, [Value.ref l])) _ _ _
  refine wpAny_pure ?_
  show wpAny _ _ (Builtin.Dict.updateFrom "dict.__init__" d (.ref l) [] .none) _ _ _
  unfold Builtin.Dict.updateFrom
  refine wpAny_bind (wpAny_typeOf (T := "list") ⟨o, p1, p2⟩ ?_)
  rw [if_pos (by decide)]
  refine wpAny_bind (no_keys p1 p2 p4 p3 h1 fun h' tk keep => ?_)
  have I2 : Inv X pins σ (upd H d (.dK [])) { s1 with heap := h', toks := tk } := I1.kept (t' := tk) keep
  obtain ⟨its2, rv2, pp2, _⟩ := I2.list (sd.seq hl)
  rw [if_pos (by rfl)]
  refine wpAny_bind (wpAny_rule ?_)
  refine wpAny_bind (wpAny_pyIter_list pp2.isList ?_)
  have h2 : X.A.in1.frames = some X.stack := I.ok.frames
  have I3 : Inv X pins σ (upd H d (.dK [])) { s1 with heap := h'.push { cls := .type "list_iterator", data := .fields #[.ref l, .int 0 0] }, toks := tk } := I2.kept (t' := tk) fun b o e => Heap.get?_push_of_some _ e
  have hn : (upd H d (.dK [])) h'.objs.size = none := I2.hok.fresh (Nat.le_refl _)
  have hid : h'.objs.size ≠ d := fun e => by rw [e, upd_same] at hn; cases hn
  have hn' : H h'.objs.size = none := by rw [upd_ne hid] at hn; exact hn
  have ff : FpOk X pins H h'.objs.size := I2.fpOk (Nat.le_refl _) hn'
  refine wpAny_pure ⟨plainId_quiet plain_upd_loop _, ?_⟩
  exact dict_turn (X := cxA X X.A.in1) hc (ok_at I.ok (fun _ => h1) h2) h1 hl hp hd hid hz (fun s' I' => ⟨rfl, .ref d, _, inv_back I.ok I', rfl, q d hd⟩) ps.length 0 _ _ (by simp) (Nat.zero_le _) (inv_at I3 (fun _ => h1) h2) ⟨_, Heap.get?_push_size _ rfl, rfl, rfl⟩ ff
end
/-! ## sorted(d), the keys tuples of numbers -/
section
variable {X : Cx} {pins : List (Addr × Obj)} {σ : L2.St} {H Hf : Hp} {s : Shared} {A : Around} {E : Value → Shared → Prop}
end
section
variable {prog : Program} {w : World} {A : Around} {E : Value → Shared → Prop} {s : Shared}
open PySem in
end
section
variable {X : Cx} {pins : List (Addr × Obj)} {σ : L2.St} {H Hf : Hp} {s : Shared} {E : Value → Shared → Prop} {α : Type} {enc : α → D} {lt : α → α → Bool} {κ : SortKind}
end
section
variable {X : Cx} {pins : List (Addr × Obj)} {σ : L2.St} {H Hf : Hp} {s : Shared} {E : Value → Shared → Prop}
end
section
variable {P : Program} {w : World} {K : PySem.W.Frag} {mg : Str → Option Value} {base : Heap} {k : Nat} {N : List Str} {sc : Scope} {bk : Bool} {c : Ctx P w K mg base k N sc bk} {ρ : List Sl} {np pos : Pos} {e : Expr}
end
/-! ## list.insert(0, ..) -/
section
variable {X : Cx} {pins : List (Addr × Obj)} {σ : L2.St} {H Hf : Hp} {s : Shared} {E : Value → Shared → Prop}
end
section
variable {P : Program} {w : World} {K : PySem.W.Frag} {mg : Str → Option Value} {base : Heap} {k : Nat} {N : List Str} {sc : Scope} {bk : Bool} {c : Ctx P w K mg base k N sc bk} {ρ : List Sl} {pos ap cp px p0 : Pos} {e : Expr} {nx : List Sl → Prop} {p : Pt} {x : Str} {i j : Nat}
end
/-! ## dict(a list of pairs), sorted(d) with numbers as keys, y.insert(i, x), z = y.pop() -/
def prD (kv : Key × D) : D := .tup [keyD kv.1, kv.2]
def mergeD (kvs ps : List (Key × D)) : List (Key × D) := ps.foldl (fun acc kv => putD acc kv.1 kv.2) kvs
section
variable {P : Program} {w : World} {K : PySem.W.Frag} {mg : Str → Option Value} {base : Heap} {k : Nat} {N : List Str} {sc : Scope} {bk : Bool} {c : Ctx P w K mg base k N sc bk} {ρ : List Sl} {pos ap cp np px pos2 : Pos} {e a b : Expr} {nx : List Sl → Prop} {p : Pt} {x y z : Str} {i m : Nat}
theorem rep_key {Hf : Hp} {kk : Key} {v : V} (h : Rep K Hf (keyD kk) v) : v = kV kk := by
  cases kk with
  | inl i => exact rep_int.mp h
  | inr s => exact rep_str.mp h
theorem prs_of {H Hf : Hp} (sb : Same Hf H) : ∀ {ps : List (Key × D)} {ys : List V}, Reps K Hf (ps.map prD) ys → ∃ qs : List (Key × V), PrsAt K H ys qs ∧ KVR K Hf ps qs
  | [], _, h => by
    rw [List.map_nil, reps_nil] at h; subst h
    exact ⟨[], .nil, .nil⟩
  | p :: ps, _, h => by
    rw [List.map_cons, reps_cons] at h
    obtain ⟨x, r, rfl, h1, h2⟩ := h
    obtain ⟨qs, a1, a2⟩ := prs_of sb h2
    obtain ⟨t, zs, rfl, h3, h4⟩ := rep_tup.mp h1
    obtain ⟨v, v', rfl, h5, h6⟩ := reps2 h4
    rw [rep_key h5] at h3
    exact ⟨(p.1, v') :: qs, .cons ⟨t, rfl, same_tup sb h3⟩ a1, .cons ⟨rfl, h6⟩ a2⟩
theorem kvr_merge {Hf : Hp} : ∀ {ps : List (Key × D)} {qs : List (Key × V)} {kvs : List (Key × D)} {xs : List (Key × V)}, KVR K Hf ps qs → KVR K Hf kvs xs → KVR K Hf (mergeD kvs ps) (mergeK xs qs) := by
  intro ps qs kvs xs r
  unfold KVR at r
  induction r generalizing kvs xs with
  | nil => intro q; exact q
  | @cons p q ps qs h t ih =>
    intro r0
    have e : KVR K Hf (putD kvs p.1 p.2) (putK xs q.1 q.2) := by rw [← h.1]; exact r0.put p.1 h.2
    exact ih e
theorem calE_dictL : CalD K (fun xs H Q => ∃ (l : Addr) (ys : List V) (ps : List (Key × V)), xs = [.ref l] ∧ SqL K H l ys ∧ PrsAt K H ys ps ∧ ps.length ≤ sizeLine ∧ ∀ d, H d = none → Q (.ref d) (upd H d (.dK (mergeK [] ps)))) (fun ds R => ∃ kps : List (Key × D), ds = [.lst (kps.map prD)] ∧ Sd (kps.length ≤ sizeLine) (R (.oK (mergeD [] kps)))) := by
  rintro ds vs H Hf Q R s rs ⟨kps, rfl, ⟨hz, hR⟩⟩ q
  obtain ⟨v, rfl, rv⟩ := reps1 rs
  obtain ⟨l, ys, rfl, h1, h2⟩ := rep_lst.mp rv
  obtain ⟨qs, a1, a2⟩ := prs_of s h2
  refine ⟨l, ys, qs, rfl, s.seq h1, a1, by rw [← Paired.length a2]; exact hz, fun d hd => ?_⟩
  have g2 := Grw.newO s hd (o := .dK (mergeK [] qs))
  exact q _ _ _ _ hR ⟨d, _, rfl, hd, upd_same, s.free hd, kvr_merge a2 .nil⟩ g2
theorem x_dictL {R : Sl → Prop} (hm : mg (Str.ofString "dict") = none) (h : EvE c e ρ fun d => ∃ kps : List (Key × D), d = .lst (kps.map prD) ∧ Sd (kps.length ≤ sizeLine) (R (.oK (mergeD [] kps)))) (hg : sc.names.lookup (Str.ofString "dict") = some .globalImplicit := by with_unfolding_all rfl)
    (he : ∀ env, starEach [e] env = (false, eval e env) :: starEach [] env := by intro _; with_unfolding_all rfl) : EvX c (.Call (.Name (Str.ofString "dict") np) [e] [] pos) ρ R :=
  x_bty (call_dictL c.calm) calE_dictL hm (by decide +kernel) (a_cons (h.imp fun d ⟨kps, e, hd⟩ => a_nil ⟨kps, by rw [e], hd⟩) he) hg (by decide) (by decide) he (by intro _; with_unfolding_all rfl)
def rInsAt : V → List V → Hp → VK → Prop := fun x vs H Q => ∃ l xs y, ∃ k : Nat, x = .ref l ∧ vs = [.int k, y] ∧ H l = some (.lst xs) ∧ k ≤ xs.length ∧ xs.length < sizeLine ∧ Q .non (upd H l (.lst (xs.take k ++ y :: xs.drop k)))
theorem Vals.takeN {xs : List V} {us : List Value} (h : Vals xs us) (k : Nat) : Vals (xs.take k) (us.take k) ∧ Vals (xs.drop k) (us.drop k) := by
  induction h generalizing k with
  | nil => simp only [List.take_nil, List.drop_nil]; exact ⟨.nil, .nil⟩
  | cons r t ih =>
    cases k with
    | zero => exact ⟨.nil, .cons r t⟩
    | succ k => exact ⟨.cons r (ih k).1, (ih k).2⟩
theorem fits_idx {i : Int} (h : 0 ≤ i) (g : i < 2 ^ 62) : Builtin.List.listFitsIndex i = true := by
  unfold Builtin.List.listFitsIndex
  rw [decide_eq_true (by lia), decide_eq_true (by lia)]; rfl
theorem mt_insAt {X : Cx} : MtM X "list.insert" rInsAt := by
  intro pins s σ H x vs v us Q I rx rv h
  obtain ⟨l, xs, y, k, rfl, rfl, hH, hk, hz, q⟩ := h
  cases rx
  cases rv with
  | cons r0 rv =>
    obtain ⟨t, rfl⟩ := r0
    obtain ⟨u, rfl, ru⟩ := Vals.one rv
    obtain ⟨w, its, n, r, hl, e⟩ := I.lstM hH
    have hlen := r.length
    have hfit : ¬ (!Builtin.List.listFitsIndex (k : Int)) = true := by
      have hk2 : (k : Int) < 16777217 := by
        rw [sizeLine_eq] at hz
        lia
      have h1 : Builtin.List.listFitsIndex (k : Int) = true := fits_idx (Int.natCast_nonneg _) (Int.lt_trans hk2 (by decide))
      rw [h1]; decide
    have hsz : its.toArray.size ≤ sizeLine := by rw [List.size_toArray, ← hlen]; exact Nat.le_of_lt hz
    generalize hK : (k : Int) = K at hfit ⊢
    refine call_meets F.slot_list_insert ⟨_, e, rfl⟩ F.entry_list_insert (F.args_list_insert_3 _ _ _) (PySem.AutoSeq1.list_insert_list_int_val_1 l its.toArray n K t u hfit hsz) ⟨e, ?_⟩
    subst hK
    refine ⟨.non, _, I.lset (its' := its.take k ++ u :: its.drop k) hH e ?_ ((Vals.takeN r k).1.append (.cons ru (Vals.takeN r k).2)) ?_, rfl, q⟩
    · have hki : ((k : Int).toNat) = k := Int.toNat_natCast k
      have hm : min k its.length = k := Nat.min_eq_left (by omega)
      simp only [show ¬ ((k : Int) < 0) by omega, if_false, hki, List.size_toArray, hm]
      simp
      exact List.take_of_length_le (by rw [List.length_drop]; omega)
    · rw [List.length_append, List.length_cons, List.length_take, List.length_drop]
      have : min k xs.length + (xs.length - k + 1) = xs.length + 1 := by omega
      rw [this]; exact hz
/-- y.insert(a, b) -/
theorem s_insG {r : Sl} {ds : List D} (hN : At N i y) (hi : At ρ i r) (hr : r.getL = some ds) (h : EvE c a ρ fun d1 => EvE c b ρ fun d2 => ∃ k : Nat, d1 = .int k ∧ k ≤ ds.length ∧ Sd (ds.length < sizeLine) (Nx ρ i nx (r.putL (ds.take k ++ d2 :: ds.drop k))))
    (hs : ∀ env, swapsWith (.Call (.Attribute (.Name y px) (Str.ofString "insert") ap) [a, b] [] cp) none pos.line env = pure false := by intro _; with_unfolding_all rfl) (hd : (y == ("__debug__" : Str)) = false := by decide) (hcd : (y == ("__classdict__" : Str)) = false := by decide)
    (hbase : ∀ env, attributeBase (.Name y px) (Str.ofString "insert") env (eval (.Name y px) env) = eval (.Name y px) env := by intro _; with_unfolding_all rfl)
    (hfew : ∀ env, ((backTo cp (starEach [a, b] env)).all (fun x => !x.1) && (backToKw cp (keywordEach [] env)).all (fun x => x.1.isSome)
      && decide (([a, b] : List Expr).length + ([] : List Keyword).length + (if ([] : List Keyword).isEmpty then 0 else 1) < 30)) = true := by intro _; with_unfolding_all rfl)
    (hline : (ap.endLine == cp.line) = true := by with_unfolding_all rfl) (he0 : ∀ env, starEach [a, b] env = (false, eval a env) :: starEach [b] env := by intro _; with_unfolding_all rfl) (he : ∀ env, starEach [b] env = (false, eval b env) :: starEach [] env := by intro _; with_unfolding_all rfl) (hpl : ∀ env, (backTo cp (starEach [b] env)).any (·.1) = false := by intro _; with_unfolding_all rfl) :
    EvS c (.Expr (.Call (.Attribute (.Name y px) (Str.ofString "insert") ap) [a, b] [] cp) pos) ρ nx p := fun σ H Hf D S o => by
  obtain ⟨q, eq, rq⟩ := S.own hi.get (getL_owned hr)
  obtain ⟨xs, h1, h2, h3⟩ := repL hr rq
  refine bS_of (ps_expr (pe_bm PySem.F.plainAttrs_list PySem.F.slot_list_insert PySem.F.type_list_insert mt_insAt (c.pvar hN hd hcd) (pa_cons pbE (pa_cons pbE pa_nil (he _)) (he0 _)) (hbase _) (hfew _) hline (he0 _) (hpl _)) (hs _)) ⟨_, eq, .inl ⟨rfl, xs, .inl (.inl h1)⟩, ?_⟩
  refine h σ H Hf _ S fun d1 v1 H1 Hf1 hb rd1 g1 => hb σ H1 Hf1 _ (S.grw g1) fun d v H' Hf' ⟨k, e1, hk, hz, ρ', hs', hn⟩ rd g2 => ?_
  subst e1
  rw [rep_int] at rd1
  subst rd1
  have g := g1.trans g2
  have S' := S.grw g
  have e1 : H' q = some (.lst xs) := g.s _ _ h1
  have e2 : Hf' q = none := g.n q h2 (by rw [h1]; simp) (by intro ys; rw [h1]; simp)
  refine ⟨q, xs, v, k, rfl, rfl, e1, by rw [← h3.length]; exact hk, by rw [← h3.length]; exact hz, ?_⟩
  refine o.nx _ _ Hf' ρ' ?_ hn
  rw [hs'.eq]
  have rq' := rq.grw g
  have h3' := h3.mono g.f
  exact S'.upd hi.get (getL_owned hr) eq (grw_mut g.b e2) (repL_put hr rq' upd_same e2 ((h3'.take k).append (.cons rd (h3'.drop k)))) (putL_owned hr)
end
/-! ## texts: slices, repeated, split -/
def partOf : Value → Option (Int × Tok)
  | .int i t => some (i, t)
  | _ => none
theorem part_of {v : Value} {o : Option Int} (h : IsPart v o) : v = partValue (partOf v) ∧ (partOf v).map (·.1) = o := by
  cases h <;> exact ⟨rfl, rfl⟩
def rSlS : V → Option Int → Option Int → Hp → VK → Prop := fun x lo hi H Q => ∃ z : Str, x = .str z ∧ z.length ≤ sizeLine ∧ Q (.str (Txt.slice z lo hi)) H
theorem sl_str {X : Cx} : SlR X rSlS := by
  intro pins s σ H x v vl vu lo hi sl Q I rx hs pl pu h
  obtain ⟨z, rfl, hz, q⟩ := h
  obtain ⟨t, rfl⟩ := rx
  obtain ⟨e1, rfl⟩ := part_of pl
  obtain ⟨e2, rfl⟩ := part_of pu
  refine ⟨"str", _, PySem.F.slot_str_getitem.lookup, typeIs_str _ _ _, wpAny_getItem_str_slice (l := partOf vl) (u := partOf vu) (st := none) ?_ rfl ?_⟩
  · obtain ⟨o, h1, h2, h3⟩ := hs
    exact ⟨o, h1, h2, by rw [h3]; rw [← e1, ← e2]; rfl⟩
  · refine post_val_or_str ⟨Nat.le_trans (Txt.slice_le z _ _) hz, fun t' k => ⟨.str (Txt.slice z ((partOf vl).map (·.1)) ((partOf vu).map (·.1))), H, I.tok k, ⟨t', rfl⟩, q⟩⟩
def repC (c : Nat) (n : Nat) : Str := ⟨(List.replicate n c).toArray⟩
theorem rep_fold (c : Nat) : ∀ (n : Nat) (A : Array Nat), (List.replicate n #[c]).foldl (· ++ ·) A = A ++ (List.replicate n c).toArray
  | 0, A => by simp
  | n + 1, A => by
    rw [List.replicate_succ, List.foldl_cons, rep_fold c n, List.replicate_succ]
    apply Array.ext'
    simp
theorem op_mulS {X : Cx} : OpR X (binaryOp .Mult) (fun x y H Q => ∃ (c : Nat) (n : Int), x = .str ⟨#[c]⟩ ∧ y = .int n ∧ 0 ≤ n ∧ n ≤ 1000 ∧ Q (.str (repC c n.toNat)) H) := fun pins s σ H x y v u Q I rx ry ⟨c, n, e1, e2, h0, h1, q⟩ => by
  subst e1 e2
  obtain ⟨t1, rfl⟩ : ∃ t, v = Value.str ⟨#[c]⟩ t := rx
  obtain ⟨t2, rfl⟩ : ∃ t, u = Value.int n t := ry
  have hl1 : (⟨#[c]⟩ : Str).length = 1 := rfl
  refine PySem.P.mul_str ?_ (fun _ _ => ?_) (fun _ _ => ?_) ?_
  · rw [decide_eq_false (by omega), decide_eq_false (by omega)]; rfl
  · rw [hl1]
    intro z
    have hn : 0 < n := by omega
    have := (Int.le_ediv_iff_mul_le (a := 1) (b := 2 ^ 63 - 1) hn).mpr (by omega)
    omega
  · rw [hl1]
    unfold Builtin.Str.tooLong
    rw [decide_eq_false]
    rw [sizeLine_eq]; omega
  · have key : ∀ z : Str, z = repC c n.toNat → ∀ tk k, (EP X pins σ Q (.str z tk) { s with toks := k }) := fun z e tk k => by
      subst e
      exact ⟨.str (repC c n.toNat), H, I.tok k, ⟨tk, rfl⟩, q⟩
    by_cases hn : n < 1
    · rw [if_pos hn]
      have : n = 0 := by omega
      subst this
      exact ⟨by decide, key _ rfl _ _⟩
    · rw [if_neg hn]
      by_cases h2 : (n == 1 || (⟨#[c]⟩ : Str).length == 0) = true
      · rw [if_pos h2]
        have : n = 1 := by
          rw [hl1, Bool.or_eq_true] at h2
          rcases h2 with h2 | h2
          · exact beq_iff_eq.mp h2
          · cases h2
        subst this
        exact key _ rfl _ s.toks
      · rw [if_neg h2]
        have e : (⟨(List.replicate n.toNat (⟨#[c]⟩ : Str).cps).foldl (· ++ ·) #[]⟩ : Str) = repC c n.toNat := by
          rw [rep_fold]
          unfold repC
          simp
        refine ⟨?_, key _ e _ _⟩
        rw [e]
        show (List.replicate n.toNat c).toArray.size ≤ sizeLine
        rw [List.size_toArray, List.length_replicate, sizeLine_eq]; omega
def sumL (zs : List Str) : Nat := (zs.map (·.length)).sum
theorem sumL_le {B : Nat} : ∀ {zs : List Str}, (∀ z ∈ zs, z.length ≤ B) → sumL zs ≤ zs.length * B
  | [], _ => Nat.zero_le _
  | z :: zs, h => by
    have h1 := sumL_le (fun x hx => h x (List.mem_cons_of_mem _ hx)) (zs := zs)
    have h2 := h z List.mem_cons_self
    have e : sumL (z :: zs) = z.length + sumL zs := by unfold sumL; rw [List.map_cons, List.sum_cons]
    rw [e, List.length_cons, Nat.succ_mul]; omega
def rJoinS (K : PySem.W.Frag) : V → List V → Hp → VK → Prop := fun x vs H Q => ∃ (sep : Str) (l : Addr) (zs : List Str), x = .str sep ∧ vs = [.ref l] ∧ SqL K H l (zs.map V.str) ∧ sumL zs + zs.length * sep.length ≤ 16777216 ∧ Q (.str (PySem.Txt.join sep zs)) H
theorem strs_are {zs : List Str} : ∀ {its : List Value}, Vals (zs.map V.str) its → StrsAre its zs := by
  induction zs with
  | nil => intro its r; cases r; exact StrsAre.of_carried .nil
  | cons z zs ih =>
    intro its r
    refine StrsAre.of_carried ?_
    have := vals_strs (zs := z :: zs) r
    simpa using this
theorem mt_joinS {X : Cx} : MtR X "str.join" (rJoinS X.K) := by
  intro pins s σ H x vs v us Q I rx rv h
  obtain ⟨sep, l, zs, rfl, rfl, hq, hB, q⟩ := h
  obtain ⟨t, rfl⟩ := rx
  obtain ⟨u, rfl, ru⟩ := rv.one
  cases ru
  obtain ⟨its, r, pl, hz⟩ := I.list hq
  exact join_list pl.isList (strs_are r) hB fun t' k => ⟨.str _, H, I.tok k, ⟨t', rfl⟩, q⟩
/-- x.split(y) -/
theorem split_len (x y : Str) : (Txt.split x y).length ≤ x.length + 2 := by
  unfold Txt.split
  split
  · show 1 ≤ _; omega
  · split
    · show 1 ≤ _; omega
    · have := StrLaws.occ_length_le_len x y 0 x.length (x.length + 1)
      unfold Builtin.Str.partsBetween
      rw [List.length_map, List.length_zip, List.length_cons, List.length_map, List.length_append]
      show min _ (_ + 1) ≤ _
      omega
theorem split_pos (x y : Str) : 1 ≤ (Txt.split x y).length := by
  unfold Txt.split
  split
  · exact Nat.le_refl _
  · split
    · exact Nat.le_refl _
    · unfold Builtin.Str.partsBetween
      rw [List.length_map, List.length_zip, List.length_cons, List.length_map, List.length_append]
      show 1 ≤ min _ (_ + 1)
      omega
theorem split_each (x y : Str) : ∀ p ∈ Txt.split x y, p.length ≤ x.length := by
  intro p hp
  unfold Txt.split at hp
  split at hp
  · rw [List.mem_singleton.mp hp]; exact Nat.le_refl _
  · split at hp
    · rw [List.mem_singleton.mp hp]; exact Nat.le_refl _
    · unfold Builtin.Str.partsBetween at hp
      obtain ⟨⟨i, j⟩, _, rfl⟩ := List.mem_map.mp hp
      show (Builtin.Str.strSub x i j).length ≤ x.length
      have e := StrLaws.strSub_toList x i j
      have l1 : (Builtin.Str.strSub x i j).length = (Builtin.Str.strSub x i j).cps.toList.length := Array.length_toList.symm
      have l2 : x.length = x.cps.toList.length := Array.length_toList.symm
      rw [l1, e, l2, List.length_take, List.length_drop]
      omega
def rSplit : V → List V → Hp → VK → Prop := fun x vs H Q => ∃ z y : Str, x = .str z ∧ vs = [.str y] ∧ (y.length == 0) = false ∧ z.length ≤ 100000 ∧ ∀ l, H l = none → Q (.ref l) (upd H l (.lst ((Txt.split z y).map V.str)))
theorem vals_str : ∀ (l : List (Str × Tok)), Vals ((l.map (·.1)).map V.str) (strValues l)
  | [] => .nil
  | p :: l => .cons (show RelV (.str p.1) (.str p.1 p.2) from ⟨p.2, rfl⟩) (vals_str l)
theorem mt_split {X : Cx} : MtR X "str.split" rSplit := by
  intro pins s σ H x vs v us Q I rx rv h
  obtain ⟨z, y, rfl, rfl, hy, hz, q⟩ := h
  obtain ⟨t, rfl⟩ := rx
  obtain ⟨u, rfl, ru⟩ := rv.one
  obtain ⟨tu, rfl⟩ := ru
  have hz2 : z.length ≤ sizeLine := by rw [sizeLine_eq]; omega
  have hsz : (Txt.split z y).length ≤ sizeLine := by have := split_len z y; rw [sizeLine_eq]; omega
  have fin : ∀ (l : List (Str × Tok)) (k : Nat), l.map (·.1) = Txt.split z y → EP X pins σ Q (.ref s.heap.objs.size) { s with heap := s.heap.push { cls := .type "list", data := .seq (strValues l).toArray }, toks := k } := fun l k e => by
    have hv := vals_str l
    rw [e] at hv
    exact ⟨.ref s.heap.objs.size, _, I.lnew (t' := k) hv (by rw [List.length_map]; exact hsz), rfl, q _ I.fresh⟩
  cases h1 : (decide (z.length < y.length) || decide (Builtin.Str.strKind z < Builtin.Str.strKind y))
  · cases hf : (Builtin.Str.occurrences z y 0 z.length (z.length + 1)).isEmpty
    · have e : Txt.split z y = Builtin.Str.partsBetween z (Builtin.Str.occurrences z y 0 z.length (z.length + 1)) y.length := by
        unfold Txt.split; rw [h1, hf]; rfl
      refine call_meets PySem.F.slot_str_split (typeIs_str _ _ _) PySem.F.entry_str_split (PySem.F.args_str_split_2 _ _) (meets_str_split_sep z y t tu h1 hy hf hz2 (by rw [← e]; exact hsz)) ?_
      show wants _ _ _ _
      rw [strsFrom_eq]
      exact fin _ _ ((numbered_texts _ _).trans e.symm)
    · refine call_meets PySem.F.slot_str_split (typeIs_str _ _ _) PySem.F.entry_str_split (PySem.F.args_str_split_2 _ _) (meets_str_split_not_found z y t tu h1 hy hf) ?_
      exact fin [(z, t)] s.toks (by unfold Txt.split; rw [h1, hf]; rfl)
  · refine call_meets PySem.F.slot_str_split (typeIs_str _ _ _) PySem.F.entry_str_split (PySem.F.args_str_split_2 _ _) (meets_str_split_cannot_occur z y t tu h1) ?_
    exact fin [(z, t)] s.toks (by unfold Txt.split; rw [h1]; rfl)
def oD : Option Int → D
  | none => .non
  | some i => .int i
def oV : Option Int → V
  | none => .non
  | some i => .int i
theorem reps_os {K : PySem.W.Frag} {H : Hp} : ∀ {os : List (Option Int)} {xs : List V}, Reps K H (os.map oD) xs → xs = os.map oV
  | [], _, h => by rw [List.map_nil, reps_nil] at h; exact h
  | o :: os, _, h => by
    rw [List.map_cons, reps_cons] at h
    obtain ⟨x, r, rfl, h1, h2⟩ := h
    rw [reps_os h2]
    cases o with
    | none => rw [show oD none = .non from rfl, rep_non] at h1; subst h1; rfl
    | some i => rw [show oD (some i) = .int i from rfl, rep_int] at h1; subst h1; rfl
theorem flat_os (os : List (Option Int)) : (os.map oV).all flatV = true := by
  rw [List.all_eq_true]
  intro x hx
  obtain ⟨o, _, rfl⟩ := List.mem_map.mp hx
  cases o <;> rfl
theorem inV_os (os : List (Option Int)) : inV .non (os.map oV) = os.any (·.isNone) := by
  unfold inV
  rw [List.any_map]
  congr 1
  funext o
  cases o <;> rfl
theorem cmp_inN {K : PySem.W.Frag} : CmpD K (rIn K false) fun x y R => ∃ os : List (Option Int), x = .non ∧ y = .lst (os.map oD) ∧ R (os.any (·.isNone)) := by
  rintro x y v u H Hf Q R s rx ry ⟨os, rfl, rfl, hR⟩ q
  rw [rep_non] at rx
  subst rx
  obtain ⟨p, xs, rfl, hs, hr⟩ := rep_lst.mp ry
  rw [reps_os hr] at hs
  refine ⟨p, _, rfl, .inl (s.seq hs), rfl, flat_os os, q _ ?_⟩
  rw [show (if false = true then !inV .non (os.map oV) else inV .non (os.map oV)) = inV .non (os.map oV) from rfl, inV_os]
  exact hR
theorem reps_st {K : PySem.W.Frag} {H : Hp} : ∀ (ns : List Str), Reps K H (ns.map D.str) (ns.map V.str)
  | [] => reps_nil.mpr rfl
  | n :: ns => .cons (rep_str.mpr rfl) (reps_st ns)
section
variable {P : Program} {w : World} {K : PySem.W.Frag} {mg : Str → Option Value} {base : Heap} {k : Nat} {N : List Str} {sc : Scope} {bk : Bool} {c : Ctx P w K mg base k N sc bk} {ρ : List Sl} {pos ap cp px p2 : Pos} {a b e : Expr} {R : D → Prop} {Z : Bool → Prop} {nx : List Sl → Prop} {p : Pt} {y : Str} {i : Nat}
theorem t_inN (h : EvE c a ρ fun x => EvE c b ρ fun y => ∃ os : List (Option Int), x = .non ∧ y = .lst (os.map oD) ∧ Z (os.any (·.isNone))) (hm : behindInMarks CmpOp.In b = false := by with_unfolding_all rfl) : EvT c (.Compare a [.In] [b] pos) ρ Z :=
  t_cmp op_in_seq cmp_inN (h.imp fun x h1 => h1.imp fun y ⟨os, e1, e2, q⟩ => ⟨os, e1, e2, q⟩) hm
theorem e_mulS (h : EvE c a ρ fun x => EvE c b ρ fun y => ∃ (cc : Nat) (n : Int), x = .str ⟨#[cc]⟩ ∧ y = .int n ∧ Sd (0 ≤ n ∧ n ≤ 1000) (R (.str (repC cc n.toNat)))) : EvE c (.BinOp a .Mult b pos) ρ R := fun σ H Hf Q S q =>
  bE_of (pe_op op_mulS pbE pbE) (h σ H Hf _ S fun x v1 H1 Hf1 h1 r1 g1 => h1 σ H1 Hf1 _ (S.grw g1) fun y v2 H2 Hf2 ⟨cc, n, e1, e2, ⟨hz, hR⟩⟩ r2 g2 => by
    subst e1 e2
    rw [rep_str] at r1
    rw [rep_int] at r2
    subst r1 r2
    exact ⟨cc, n, rfl, rfl, hz.1, hz.2, q _ _ H2 Hf2 hR (rep_str.mpr rfl) (g1.trans g2)⟩)
theorem e_cutS {lo hi : Option Expr} (h : EvE c e ρ fun x => EvP c lo ρ fun l => EvP c hi ρ fun u => ∃ z : Str, x = .str z ∧ Sd (z.length ≤ sizeLine) (R (.str (Txt.slice z l u)))) : EvE c (.Subscript e (.Slice lo hi none p2) pos) ρ R := fun σ H Hf Q S q =>
  bE_of (pe_slice sl_str pbE pbP pbP) (h σ H Hf _ S fun x v H1 Hf1 h1 r1 g1 => h1 σ H1 Hf1 _ (S.grw g1) fun l H2 Hf2 h2 g2 => h2 σ H2 Hf2 _ (S.grw (g1.trans g2)) fun u H3 Hf3 ⟨z, e1, ⟨hz, hR⟩⟩ g3 => by
    subst e1
    rw [rep_str] at r1
    subst r1
    exact ⟨z, rfl, hz, q _ _ H3 Hf3 hR (rep_str.mpr rfl) ((g1.trans g2).trans g3)⟩)
theorem x_split {R : Sl → Prop} (h : EvE c a ρ fun x => ∃ z : Str, x = .str z ∧ EvE c e ρ fun v => ∃ y : Str, v = .str y ∧ Sd ((y.length == 0) = false ∧ z.length ≤ 100000) (R (.ow ((Txt.split z y).map .str))))
    (hbase : ∀ env, attributeBase a (Str.ofString "split") env (eval a env) = eval a env := by intro _; with_unfolding_all rfl)
    (hfew : ∀ env, ((backTo cp (starEach [e] env)).all (fun x => !x.1) && (backToKw cp (keywordEach [] env)).all (fun x => x.1.isSome)
      && decide (([e] : List Expr).length + ([] : List Keyword).length + (if ([] : List Keyword).isEmpty then 0 else 1) < 30)) = true := by intro _; with_unfolding_all rfl)
    (hline : (ap.endLine == cp.line) = true := by with_unfolding_all rfl) (he : ∀ env, starEach [e] env = (false, eval e env) :: starEach [] env := by intro _; with_unfolding_all rfl) (hpl : ∀ env, (backTo cp (starEach [] env)).any (·.1) = false := by intro _; with_unfolding_all rfl) :
    EvX c (.Call (.Attribute a (Str.ofString "split") ap) [e] [] cp) ρ R := fun σ H Hf Q S q =>
  bE_of (pe_bm (X := c.X) PySem.F.plainAttrs_str PySem.F.slot_str_split PySem.F.type_str_split mt_split pbE (pa_cons pbE pa_nil (he _)) (hbase _) (hfew _) hline (he _) (hpl _)) (h σ H Hf _ S fun x v H1 Hf1 ⟨z, ex, h1⟩ r1 g1 => by
    subst ex
    rw [rep_str] at r1
    subst r1
    exact ⟨rfl, h1 σ H1 Hf1 _ (S.grw g1) fun v u H2 Hf2 ⟨y, ey, ⟨hz, hR⟩⟩ r2 g2 => by
      subst ey
      rw [rep_str] at r2
      subst r2
      refine ⟨z, y, rfl, rfl, hz.1, hz.2, fun l hl => ?_⟩
      have hr : Reps c.X.K Hf2 ((Txt.split z y).map D.str) ((Txt.split z y).map V.str) := reps_st _
      exact q _ _ _ _ hR ⟨l, _, rfl, (g1.trans g2).s.free hl, upd_same, g2.b.free hl, hr⟩ ((g1.trans g2).trans (Grw.newO g2.b hl))⟩)
theorem e_joinS {sep : Str} {j : Nat} (h : EvE c e ρ fun x => ∃ zs : List Str, x = .lst (zs.map .str) ∧ Sd (sumL zs + zs.length * sep.length ≤ 16777216) (R (.str (PySem.Txt.join sep zs))))
    (hbase : ∀ env, attributeBase (.Constant (.str sep) j px) (Str.ofString "join") env (eval (.Constant (.str sep) j px) env) = eval (.Constant (.str sep) j px) env := by intro _; with_unfolding_all rfl)
    (hfew : ∀ env, ((backTo cp (starEach [e] env)).all (fun x => !x.1) && (backToKw cp (keywordEach [] env)).all (fun x => x.1.isSome)
      && decide (([e] : List Expr).length + ([] : List Keyword).length + (if ([] : List Keyword).isEmpty then 0 else 1) < 30)) = true := by intro _; with_unfolding_all rfl)
    (hline : (ap.endLine == cp.line) = true := by with_unfolding_all rfl) (he : ∀ env, starEach [e] env = (false, eval e env) :: starEach [] env := by intro _; with_unfolding_all rfl) (hpl : ∀ env, (backTo cp (starEach [] env)).any (·.1) = false := by intro _; with_unfolding_all rfl) :
    EvE c (.Call (.Attribute (.Constant (.str sep) j px) (Str.ofString "join") ap) [e] [] cp) ρ R := fun σ H Hf Q S q =>
  bE_of (pe_bm (X := c.X) PySem.F.plainAttrs_str PySem.F.slot_str_join PySem.F.type_str_join mt_joinS pe_str (pa_cons pbE pa_nil (he _)) (hbase _) (hfew _) hline (he _) (hpl _)) ⟨rfl, h σ H Hf _ S fun d v H1 Hf1 ⟨zs, e1, ⟨hB, hR⟩⟩ r g => by
    subst e1
    obtain ⟨l, xs, rfl, h1, h2⟩ := rep_lst.mp r
    rw [reps_strs h2] at h1
    exact ⟨sep, l, zs, rfl, rfl, g.b.seq h1, hB, q _ _ H1 Hf1 hR (rep_str.mpr rfl) g⟩⟩
/-- d.get(y) of a dict that is read alone -/
theorem e_fget (h : EvE c a ρ fun x => ∃ kvs : List (Key × D), x = .fdK (kvs.map (·.1)) (kvs.map (·.2)) ∧ EvE c e ρ fun y => ∃ kk : Key, y.key1 = some kk ∧ R ((valD kvs kk).getD .non))
    (m1 : ∀ env, attributeBase a (Str.ofString "get") env (eval a env) = eval a env := by intro _; with_unfolding_all rfl)
    (m2 : ∀ env, ((backTo cp (starEach [e] env)).all (fun x => !x.1) && (backToKw cp (keywordEach [] env)).all (fun x => x.1.isSome)
      && decide (([e] : List Expr).length + ([] : List Keyword).length + (if ([] : List Keyword).isEmpty then 0 else 1) < 30)) = true := by intro _; with_unfolding_all rfl)
    (m3 : (ap.endLine == cp.line) = true := by with_unfolding_all rfl) (m4 : ∀ env, backTo cp (starEach [e] env) = [(false, eval e env)] := by intro _; with_unfolding_all rfl) :
    EvE c (.Call (.Attribute a (Str.ofString "get") ap) [e] [] cp) ρ R := fun σ H Hf Q S q =>
  bE_of (pe_dget1 c.hu pbE pbE ⟨m1 _, m2 _, m3, m4 _⟩) (h σ H Hf _ S fun x v H1 Hf1 ⟨kvs, e1, h1⟩ r1 g1 => by
    subst e1
    obtain ⟨p, ys, o, rfl, k1, k2, k3⟩ := rep_fdK.mp r1
    refine ⟨p, rfl, .inl ⟨ys, .inr ⟨o, g1.b _ _ k1⟩⟩, h1 σ H1 Hf1 _ (S.grw g1) fun y u H2 Hf2 ⟨kk, e2, hR⟩ r2 g2 => ?_⟩
    have kv := (kvr_of k2 k3).mono g2.f
    have rel := kv.val kk
    rw [rep_key1 e2 r2]
    refine ⟨valV ys kk, .inl ⟨ys, kk, .inr ⟨o, g2.b _ _ (g2.f _ _ k1)⟩, rfl, rfl⟩, ?_⟩
    cases z : valD kvs kk with
    | none =>
      rw [z] at rel hR
      cases z2 : valV ys kk with
      | none => exact q _ _ H2 Hf2 hR (rep_non.mpr rfl) (g1.trans g2)
      | some v => rw [z2] at rel; exact rel.elim
    | some d =>
      rw [z] at rel hR
      cases z2 : valV ys kk with
      | none => rw [z2] at rel; exact rel.elim
      | some v => rw [z2] at rel; exact q _ _ H2 Hf2 hR rel (g1.trans g2))
end
def IteL (K : PySem.W.Frag) (t : Addr) : It :=
  ⟨fun i H => ∃ xs x, SqL K H t xs ∧ xs[i]? = some x,
   fun i H v H' => ∃ p x, v = .ref p ∧ H p = none ∧ H' = upd H p (.tup [.int (i : Nat), x]) ∧ ∀ xs, SqL K H t xs → xs[i]? = some x,
   fun i H => ∃ xs, SqL K H t xs ∧ xs.length ≤ i⟩
theorem drawsEndL {prog : Program} {w : World} {A : Around} (hh : A.handled = none) (j t : Addr) (items : Array Value) (i : Nat) (hx : items[i]? = none) :
    Draws prog w A j [j, t] i (fun _ _ => False) (fun k h => k = i ∧ h.IsListIter j t i ∧ h.IsList t items) where
  live := fun _ _ ⟨_, ⟨o, ho, _⟩, _⟩ => ⟨o, ho⟩
  frame := fun _ _ _ ⟨ek, ⟨o, e, r⟩, ⟨o', e', r'⟩⟩ hk => ⟨ek, ⟨o, hk j (by simp) o e, r⟩, o', hk t (by simp) o' e', r'⟩
  item := fun k s Q E hi ⟨ek, _⟩ _ => absurd ek (Nat.ne_of_lt hi)
  done := fun s Q E ⟨_, s1, s2⟩ q => wpAny_nextOf_list_end hh s1 s2 hx q
theorem turn_enumL {P : Program} {w : World} {K : PySem.W.Frag} {elts : List Expr} {k : Nat} {pos : Pos} {e j t : Addr} (hne : e ≠ j) :
    Turn P w K (.Tuple elts k pos) (IteL K t) [e, j] e (fun i h => (∃ old, IsEnum h e j i old) ∧ h.IsListIter j t i) where
  mem := by simp
  obj := fun i h ⟨⟨old, he⟩, ⟨o1, e1, _, d1⟩⟩ b hb => by
    simp only [List.mem_cons, List.not_mem_nil, or_false] at hb
    rcases hb with rfl | rfl
    · exact ⟨_, he, fun v q => by have q' : Data.fields _ = Data.cell v := q; cases q'⟩
    · exact ⟨_, e1, fun v q => by rw [d1] at q; cases q⟩
  keep := fun i h h' ⟨⟨old, he⟩, ⟨o1, e1, r1⟩⟩ hk => ⟨⟨old, hk e (by simp) _ he⟩, ⟨o1, hk j (by simp) _ e1, r1⟩⟩
  item := by
    intro X hP hw hK hc i pins s σ H E I hf st hg
    subst hP hw hK
    obtain ⟨⟨old, he⟩, hj⟩ := st
    obtain ⟨xs, x, q1, hx⟩ := hg
    obtain ⟨its, rv, p1, z1⟩ := I.list q1
    obtain ⟨u, hu, ru⟩ := rv.get hx
    have pT : s.heap.IsList t its.toArray := p1.isList
    have hjt : t ≠ j := by
      obtain ⟨o, ho, hc', n, hd⟩ := pT
      obtain ⟨o', ho', hc'', _⟩ := hj
      rintro rfl
      rw [ho] at ho'; cases ho'
      rw [hc'] at hc''; exact absurd hc'' (by simp)
    have het : e ≠ t := by
      obtain ⟨o, ho, hc', n, hd⟩ := pT
      rintro rfl
      rw [he] at ho; cases ho
      exact absurd hc' (by simp)
    have hi : i < its.toArray.size := by
      have : i < its.length := (List.getElem?_eq_some_iff.mp hu).1
      simpa using this
    have hh : X.A.in1.handled = none := I.ok.hd hc
    refine wpAny_pyNext_enum_itemD (Draws.list hh j t hjt its.toArray) he ⟨hj, pT⟩ hi hne (by simp; exact ⟨hne, het⟩) fun x' h' tk hPx a1 a2 a3 a4 hk => ?_
    have ex : x' = u := by
      have : its[i]? = some x' := by simpa using hPx
      rw [hu] at this; cases this; rfl
    subst ex
    have Hp : H s.heap.objs.size = none := I.hok.fresh (Nat.le_refl _)
    have IA : Inv X pins σ (upd H s.heap.objs.size (.tup [.int (i : Nat), x])) { s with heap := s.heap.push { cls := .type "tuple", data := .seq #[.int (i : Nat) tk, x'] }, toks := tk + 1 } :=
      I.laid (a := s.heap.objs.size) (o := .tup [.int (i : Nat), x]) (fun _ _ q => Heap.get?_push_of_some _ q) (Nat.le_refl _) ⟨by show 2 ≤ sizeLine; decide, [.int (i : Nat) tk, x'], .cons ⟨tk, rfl⟩ (.cons ru .nil), _, Heap.get?_push_size _ rfl, rfl, 0, rfl⟩
    have lt : ∀ b ∈ [e, j], b < s.heap.objs.size := fun b hb => by
      obtain ⟨o1, e1, _⟩ := hj
      simp only [List.mem_cons, List.not_mem_nil, or_false] at hb
      rcases hb with rfl | rfl
      · exact Heap.lt_size he
      · exact Heap.lt_size e1
    have gf : ∀ b ∈ [e, j], FpOk X pins (upd H s.heap.objs.size (.tup [.int (i : Nat), x])) b := fun b hb => ⟨by rw [upd_ne (Nat.ne_of_lt (lt b hb))]; exact (hf b hb).1, (hf b hb).2⟩
    have I1 : Inv X pins σ (upd H s.heap.objs.size (.tup [.int (i : Nat), x])) { s with heap := h', toks := tk + 1 } :=
      turnedL (s := { s with heap := s.heap.push { cls := .type "tuple", data := .seq #[.int (i : Nat) tk, x'] }, toks := tk + 1 }) (t' := tk + 1) (h' := h') (L := [e, j]) IA (fun b o hb q => by
        simp only [List.mem_cons, List.not_mem_nil, or_false, not_or] at hb
        by_cases z : b = s.heap.objs.size
        · subst z
          rw [Heap.get?_push_size _ rfl] at q; cases q; exact a3
        · refine hk b o hb.1 hb.2 ?_
          rw [Heap.get?_push_ne _ _ _ z] at q; exact q) gf
    refine ⟨_, rfl, wpAny_letOwnedTupleGo_enum (s := { s with heap := h', toks := tk + 1 }) a1 fun h2' hz' hs' => ?_⟩
    refine ⟨.ref s.heap.objs.size, _, turnedL (s := { s with heap := h', toks := tk + 1 }) (t' := tk + 1) (h' := h2') (L := [e, j]) I1 (fun b o hb q => hs'.extBut b o (fun z => hb (by simp [z])) q) gf, rfl,
      ⟨_, x, rfl, Hp, rfl, fun xs' h => by rw [I.list_inj h q1]; exact hx⟩, ⟨⟨x', ?_⟩, a2.1.extBut hs'.extBut (Ne.symm hne)⟩, fun b hb => (gf b hb).1⟩
    have hz2 := hz'
    rw [show ((i : Int) + 1) = ((i + 1 : Nat) : Int) by lia] at hz2
    exact hz2
  done := by
    intro X hP hw hK hc i pins s σ H E I hf st hg
    subst hP hw hK
    obtain ⟨⟨old, he⟩, hj⟩ := st
    obtain ⟨xs, q1, hend⟩ := hg
    obtain ⟨its, rv, p1, z1⟩ := I.list q1
    have pT : s.heap.IsList t its.toArray := p1.isList
    have hl := rv.length
    have hx : its.toArray[i]? = none := by simp; lia
    have hh : X.A.in1.handled = none := I.ok.hd hc
    exact wpAny_pyNext_enum_endD (drawsEndL hh j t its.toArray i hx) he ⟨rfl, hj, pT⟩ fun h' hk => ⟨rfl, turnedL (t' := s.toks) (L := [e, j]) I (fun b o hb q => hk b o (fun z => hb (by simp [z])) q) hf⟩
  self := fun A i s Q E ⟨⟨old, he⟩, _⟩ h => wpAny_pyIter_enum he h
theorem itok_enumL {K : PySem.W.Frag} {Hf : Hp} {ds : List D} {xs : List V} {t : Addr} (h1 : SqL K Hf t xs) (r1 : Reps K Hf ds xs) : ItOk K (IteL K t) (enumD ds) Hf where
  go := fun i d H Hf1 s1 s2 e => by
    unfold enumD at e
    rw [List.getElem?_map, Option.map_eq_some_iff] at e
    obtain ⟨⟨x, m⟩, ex, rfl⟩ := e
    rw [List.getElem?_zipIdx, Option.map_eq_some_iff] at ex
    obtain ⟨x', ex, ee⟩ := ex
    cases ee
    obtain ⟨v1, f1, g1⟩ := r1.get ex
    have q1 := (s1.trans s2).seq h1
    refine ⟨⟨xs, v1, q1, f1⟩, fun v H' ⟨p, y, e1, e2, e3, e4⟩ => ?_⟩
    have z1 := e4 xs q1
    rw [f1] at z1; cases z1
    subst e1 e3
    have g := Grw.new s2 e2 (o := .tup [.int (i : Nat), v1])
    rw [Nat.zero_add]
    exact ⟨upd Hf1 p (.tup [.int (i : Nat), v1]), g, rep_tup.mpr ⟨p, _, rfl, .inl (.inl upd_same), .cons (rep_int.mpr rfl) (.cons (Rep.mono (s1.trans g.f) _ g1) (reps_nil.mpr rfl))⟩⟩
  stop := fun i H Hf1 s1 s2 e => ⟨xs, (s1.trans s2).seq h1, by
    rw [← r1.length]
    simpa [enumD] using e⟩
def iEnumL (K : PySem.W.Frag) (ta : TA) : TI := fun σ H R => ta σ H fun vs H1 => ∃ t xs, vs = [.ref t] ∧ SqL K H1 t xs ∧ R (IteL K t) H1
theorem pi_enumL {X : Cx} {elts : List Expr} {kt : Nat} {tpos : Pos} {a : Expr} {ta : TA} {p pos : Pos} (hg : Gl X "enumerate") (hm : X.mg "enumerate" = none) (ha : PA X [a] ta) (hs : starEach [a] X.env = [(false, eval a X.env)]) :
    PI X (.Tuple elts kt tpos) (.Call (.Name "enumerate" p) [a] [] pos) (iEnumL X.K ta) := by
  intro pins s σ H R I h
  refine Call_ (ld_blt I hg hm boot_enum (PyProof.Rows.callWith_type1 (thn (ha pos pins s σ H _ I h) fun us s1 ⟨vs, H1, I1, r1, q1⟩ => ?_) hs (by rfl)))
  obtain ⟨t, xs, e, q1, q⟩ := q1
  subst e
  obtain ⟨u, rfl, rx⟩ := vals1 r1
  cases rx
  obtain ⟨its, rv, p1, z1⟩ := I1.list q1
  have pT : s1.heap.IsList t its.toArray := p1.isList
  refine call_enumerate_list pT fun h' a1 a2 _ hk => wpAny_pyIter_enum a1 ?_
  refine ⟨s1.heap.objs.size + 1, [s1.heap.objs.size + 1, s1.heap.objs.size], _, _, H1, rfl, I1.kept (t' := s1.toks) hk, turn_enumL (Nat.ne_of_gt (Nat.lt_succ_self _)), ⟨⟨.none, a1⟩, a2⟩, fun b hb => ?_, q⟩
  have hb' : s1.heap.objs.size ≤ b := by
    simp only [List.mem_cons, List.not_mem_nil, or_false] at hb
    rcases hb with rfl | rfl
    · exact Nat.le_add_right _ _
    · exact Nat.le_refl _
  exact I1.fpOk hb' (I1.hok.fresh hb')
section
variable {P : Program} {w : World} {K : PySem.W.Frag} {mg : Str → Option Value} {base : Heap} {k : Nat} {N : List Str} {sc : Scope} {bk : Bool} {c : Ctx P w K mg base k N sc bk} {ρ : List Sl} {pos tpos p : Pos} {a : Expr} {elts : List Expr} {kt : Nat}
theorem i_enumL {R : List D → Prop} (hm : mg (Str.ofString "enumerate") = none) (h : EvE c a ρ fun x => ∃ ds, x = .lst ds ∧ R (enumD ds)) (hg : sc.names.lookup (Str.ofString "enumerate") = some .globalImplicit := by with_unfolding_all rfl)
    (hs : ∀ env, starEach [a] env = (false, eval a env) :: starEach [] env := by intro _; with_unfolding_all rfl) : EvI c (.Tuple elts kt tpos) (.Call (.Name (Str.ofString "enumerate") p) [a] [] pos) ρ R := fun σ H Hf Q S q pins s I =>
  pi_enumL (by unfold Gl Env.kindOf; rw [c.esc]; exact hg) (by rw [c.emg]; exact hm) (pa_cons pbE pa_nil (hs _)) (by rw [hs]; rfl) pins s σ H Q I
    (h σ H Hf _ S fun x v1 H1 Hf1 ⟨ds, e1, hR⟩ r1 g1 => by
      subst e1
      rw [rep_lst] at r1
      obtain ⟨t, xs, rfl, s1, t1⟩ := r1
      exact ⟨t, xs, rfl, g1.b.seq s1, q _ _ H1 Hf1 hR g1 (itok_enumL s1 t1)⟩)
end
open PySem.W Builtin Builtin.ObjectAttr Builtin.Getset_descriptor
/-! ## exceptions with a field of their own -/
/-- what the class of such an exception is -/
structure ExI (K : PySem.W.Frag) (C : Addr) (nm : Str) (cd : ClassData) : Prop where
  cl : PySem.W.clsIn K C = some cd
  dc : cd.hasDict = true
  sa : PySem.W.findIn K (.ref C) "__setattr__" = some (some (.builtin "object.__setattr__"))
  no : PySem.W.findIn K (.ref C) nm = some none
  ps : ∀ self, refuseLoop self "__setattr__" cd.mro = pure ()
  mo : PySem.W.mroIn K C (.type "object") = some true
section
variable {prog : Program} {w : World} {A : Around} {E : Value → Shared → Prop} {s : Shared} {K : PySem.W.Frag} {x C : Addr} {cd : ClassData} {name : Str} {v : Value}
theorem exc_set {t : Addr} {Q : Unit → Shared → Prop} (X : K.In s.heap) (k : ExI K C name cd) (hx : s.heap.get? x = some (xO C none t))
    (h : ∀ h' tk dx, h'.get? x = some (xO C (some dx) t) → h'.Ns1 dx (fun y => if y = name then some v else none) → s.heap.get? dx = none → (∀ b o, b ≠ x → s.heap.get? b = some o → h'.get? b = some o) → Q () { s with heap := h', toks := tk }) :
    wpAny (model prog w) A (setAttr (.ref x) name v) Q E s := by
  have I : PySem.W.InstAt s.heap x (xO C none t) C none := ⟨hx, rfl, rfl, True.intro⟩
  refine PySem.W.set_plain X I k.sa ?_
  obtain ⟨hh, g, d, tk, os⟩ := s
  have SF := PySem.F.store_ValueError
  have Lo : Looks (model prog w) hh (isInstance (.ref x) (.type "object")) true := I.type.andThen (looks_mroIn X k.mo)
  refine codeAny_call_builtin SF.slot.plain SF.entry (@check_slot (model prog w) _ _ ⟨hh, g, d, tk + 1, os⟩ "object.__setattr__" "object" "__setattr__" (.ref x) [.str name tk, v] [] _ SF.kind SF.split Lo (SF.args (.ref x) (.str name tk) v) ?_)
  have Lm : Looks (model prog w) hh (mroOf (.ref C)) cd.mro := (looks_clsIn X k.cl).andThen .now
  have Lc := looks_clsIn (M := model prog w) X k.cl
  have Ln := looks_findIn (M := model prog w) X k.no
  have Lt := I.type (M := model prog w)
  rw [osa_eq, refuse_eq]
  refine wpAny_bind (wpAny_bind (Lt.at (wpAny_bind (Lm.at ?_))))
  rw [k.ps]
  refine wpAny_pure (wpAny_bind (Lt.at (wpAny_bind (Ln.at (wpAny_bind (wpAny_pure ?_))))))
  show wpAny _ _ (storeInOwnDict _ _ _ _ _ _) _ _ _
  unfold storeInOwnDict ownDictForStores instanceDict
  refine wpAny_bind (wpAny_pure (wpAny_bind (wpAny_bind (wpAny_loadPart hx ?_))))
  dsimp only
  refine wpAny_bind (Lc.at ?_)
  rw [k.dc]
  have hx1 : (hh.push { cls := .type "dict", data := .dict #[] }).get? x = some (xO C none t) := Heap.get?_push_of_some _ hx
  have nxd : x ≠ hh.objs.size := Nat.ne_of_lt (Heap.lt_size hx)
  show wpAny _ _ (do
            let d ← alloc { cls := Value.type "dict", data := Data.dict #[] }
            update x fun o => { cls := o.cls, dict := some d, data := o.data, slots := o.slots }
            dictMade (xO C none t).cls x d) _ _ _
  refine wpAny_bind (wpAny_alloc' (wpAny_bind (wpAny_update' hx1 ?_)))
  show wpAny _ _ (pure (some hh.objs.size)) _ _ _
  refine wpAny_pure ?_
  have gd : ((hh.push { cls := .type "dict", data := .dict #[] }).update x fun o => { cls := o.cls, dict := some hh.objs.size, data := o.data, slots := o.slots }).get? hh.objs.size = some { cls := .type "dict", data := .dict #[] } :=
    (Heap.get?_update_ne _ _ _ _ nxd.symm).trans (Heap.get?_push_at rfl rfl)
  have nd : ((hh.push { cls := .type "dict", data := .dict #[] }).update x fun o => { cls := o.cls, dict := some hh.objs.size, data := o.data, slots := o.slots }).Ns hh.objs.size (fun _ => none) :=
    ⟨_, #[], _, gd, rfl, fun e he => absurd he (by simp), fun _ => rfl⟩
  dsimp only
  show wpAny _ _ (storeInDict hh.objs.size (.str name _) name v) _ _ _
  unfold storeInDict newKeyGuard
  refine wpAny_bind (wpAny_pure (wpAny_bind (wpAny_nsSet1 (Heap.Ns1.of_empty nd) fun h' n' sb => ?_)))
  obtain ⟨oD, es, ep, e1, e2, e3⟩ := n'.count (Within.cons name v Within.nil)
  refine wpAny_bind (wpAny_lookBehind e1 (by rw [e2]; exact pastItsLine_dict (Nat.le_trans e3 (by rw [List.length_cons, List.length_nil, sizeLine_eq]; omega))) ?_)
  refine wpAny_pure (h h' _ hh.objs.size ?_ ?_ ?_ ?_)
  · refine (sb.2 x nxd).trans ((Heap.get?_update_self _ hx1 rfl).trans rfl)
  · obtain ⟨o', es', ep', f1, f2, f3, f4, f5⟩ := n'
    exact ⟨o', es', ep', f1, f2, f3, f4, fun y => by rw [f5 y]⟩
  · exact Heap.get?_none_of_le (Nat.le_refl _)
  · exact fun b o hb e => (sb.2 b (Nat.ne_of_lt (Heap.lt_size e))).trans ((Heap.get?_update_ne _ _ _ _ hb).trans (Heap.get?_push_of_some _ e))
end
open PySem.W Builtin Builtin.ObjectAttr Builtin.Getset_descriptor
section
variable {prog : Program} {w : World} {A : Around} {E : Value → Shared → Prop} {s : Shared} {K : PySem.W.Frag} {x C dx : Addr} {cd : ClassData} {name : Str} {v : Value} {expr : Bool}
theorem exc_get {o od : Obj} {Q : Value → Shared → Prop} (X : K.In s.heap) (k : ExK K C) (I : PySem.W.InstAt s.heap x o C (some od)) (hf : PySem.W.findObj K C (some od) name = some (.value v)) (hh : handedIn v = true)
    (h : ∀ tk, Q v { s with toks := tk }) : wpAny (model prog w) A (getAttr (.ref x) name expr) Q E s := by
  obtain ⟨hp, g, d, t, os⟩ := s
  have L0 := I.type (M := model prog w)
  have L1 := looks_findIn (M := model prog w) X k.ga
  have L2 := looks_findIn (M := model prog w) X k.hk
  have L3 := looks_mroIn (M := model prog w) X k.mb
  have L4 := looks_find (M := model prog w) X I hf
  unfold getAttr getAttrBy
  refine wpAny_bind (wpAny_mkText (wpAny_holding (wpAny_bind (L0.at (wpAny_bind (L1.at ?_))))))
  dsimp only
  have hx2 : (Value.builtin "BaseException.__getattribute__" == Value.builtin "object.__getattribute__") = false := by decide +kernel
  rw [hx2, Bool.and_false, if_neg Bool.false_ne_true]
  unfold getAttrByItsOwn hookBefore
  rw [if_pos (by rfl)]
  refine wpAny_bind (L2.at ?_)
  refine wpAny_bind (wpAny_attempt (wpAny_holding ?_))
  unfold callGetattribute
  rw [show (expr && onTheHeap (Value.builtin "BaseException.__getattribute__")) = false from Bool.and_false _, if_neg (by decide)]
  unfold boundAndCalled
  rw [PySem.F.attrBase_ValueError.ga.bind (.ref x)]
  refine wpAny_bind (wpAny_pure ?_)
  refine wpAny_call (codeAny_call_builtin PySem.F.attrBase_ValueError.ga.plain PySem.F.entry_bexc_ga ?_)
  have ki : builtinKind "BaseException.__getattribute__" = some .slot := by decide +kernel
  have ks : splitId "BaseException.__getattribute__" = some ("BaseException", "__getattribute__") := by decide +kernel
  have LI : Looks (model prog w) hp (isInstance (.ref x) (.type "BaseException")) true := L0.andThen L3
  refine @check_slot (model prog w) _ _ _ "BaseException.__getattribute__" "BaseException" "__getattribute__" (.ref x) [.str name t] [] _ ki ks LI (PySem.F.args_bexc_ga (.ref x) (Value.str name t)) ?_
  unfold «object.__getattribute__»
  repeat (first | with_reducible refine wpAny_call ?_ | lk)
  show wpAny _ _ (handedOut v) _ _ _
  rw [handedOut_of hh]
  exact wpAny_pure (h _)
end
open PySem.W Builtin Builtin.ObjectAttr Builtin.Getset_descriptor
section
variable {prog : Program} {w : World} {A : Around} {E : Value → Shared → Prop} {h : Heap} {g : Array GenState} {d : Drawn} {t : Nat} {os : OsState}
variable {nm q : Str} {C N x t0 : Addr} {bs bm : List Value} {hdct : Bool} {sn : List Str} {sub : List Value} {ab : Bool} {col : Option Bool} {dd : Option Addr} {k0 k1 k2 k3 k5 : Option Value} {newId : String} {v : Value}
theorem exc_binit {Q : Value → Shared → Prop} (hC : h.get? C = some (excClassObj nm q C N bs bm hdct sn sub ab col dd k0 k1 k2 k3 k5 "ValueError.__new__")) (T : OwnTail h vErr bm) (hx : h.get? x = some (xO C none t0))
    (hq : ∀ h' t', h'.get? x = some (xO C none t') → (∀ b o, b ≠ x → h.get? b = some o → h'.get? b = some o) → Q .none ⟨h', g, d, t, os⟩) :
    wpAny (model prog w) A (call (.builtin "ValueError.__init__") [.ref x, v]) Q E ⟨h, g, d, t, os⟩ := by
  have F := PySem.F.excBase_ValueError
  have hx' := hx
  unfold xO at hx'
  refine wpAny_call (codeAny_call_builtin F.init.plain F.initEntry (wpAny_check_init_subT F T hC hx rfl ?_))
  wp_walk
  refine hq _ h.objs.size ((Heap.get?_update_self _ (Heap.get?_push_of_some _ hx) rfl).trans rfl) fun b o hb e => ?_
  rw [Heap.get?_update_other _ _ (Ne.symm hb)]
  exact Heap.get?_push_of_some _ e
theorem exc_made {rest : List Value} {fI : Addr} {mN : Str → Option Value} {Q : Fin → Shared → Prop} (hC : h.get? C = some (excClassObj nm q C N bs bm hdct sn sub ab col dd k0 k1 k2 k3 k5 "ValueError.__new__")) (T : OwnTail h vErr bm)
    (hn : h.Ns N mN) (hi : mN "__init__" = some (.ref fI)) (hf : ∃ o, h.get? fI = some o ∧ o.cls = .type "function")
    (hq : ∀ h' e t', h'.get? e = some (xO C none t') → h.objs.size ≤ e → (∀ b o, h.get? b = some o → h'.get? b = some o) →
      wpAny (model prog w) A (call (.ref fI) (.ref e :: rest)) (fun r s' => r = .none ∧ Q (.done (.ret (.ref e))) s') E ⟨h', g, d, t, os⟩) (hz : rest.length ≤ sizeLine) :
    wpAny (model prog w) A (Builtin.«type.__call__» ⟨.ref C :: rest, []⟩) Q E ⟨h, g, d, t, os⟩ := by
  have F := PySem.F.excBase_ValueError
  repeat (first | with_reducible refine wpAny_loadPart_at hC ?_ | with_reducible refine wpAny_madeBy_exc hC ?_ | wp_step)
  refine codeAny_call_builtin_code (Code.quiet_builtin _ F.quiet) (wpAny_check_new_subT F T hC (codeAny_exc_new_subT F T hC ?_ hz))
  show wpAny _ _ _ _ _ _
  generalize hh : (h.push { cls := .type "tuple", data := .seq rest.toArray }).push { cls := .ref C, data := .fields #[.ref h.objs.size, .none, .none, .none, .bool false, .none] } = h2
  have kp : ∀ b o, h.get? b = some o → h2.get? b = some o := fun b o e => by rw [← hh]; exact Heap.get?_push_of_some _ (Heap.get?_push_of_some _ e)
  have gx : h2.get? (h.objs.size + 1) = some (xO C none h.objs.size) := by rw [← hh]; unfold xO; heap_get
  have cC := kp _ _ hC
  obtain ⟨o, ho, hc⟩ := hf
  have hcC : (Value.ref C :: bm).contains (.ref C) = true := by simp
  unfold isInstance
  repeat (first | with_reducible refine wpAny_loadPart_at gx ?_ | (with_reducible refine wpAny_isSubtype_exc cC ?_; rw [hcC]) | wp_step)
  show wpAny _ _ (isSubtype (.ref C) (.ref C)) _ _ _
  refine wpAny_isSubtype_exc cC ?_
  rw [hcC, if_neg (by decide)]
  have ty : ∀ s' : Shared, s'.heap = h2 → ∀ {Q' E'}, Q' (Value.ref C) s' → wpAny (model prog w) A (typeOf (.ref (h.objs.size + 1))) Q' E' s' := fun s' e Q' E' q => by
    subst e
    unfold typeOf
    exact wpAny_bind (wpAny_loadPart gx (wpAny_pure q))
  refine wpAny_bind (wpAny_holding ?_)
  unfold callSpecial? specialOf
  refine wpAny_bind (wpAny_bind (ty _ rfl ?_))
  refine wpAny_typeLookup_tail cC (hn.keeps kp) (T.keeps kp) F.mroIs F.init.lookup ?_
  rw [hi]
  refine wpAny_holding (wpAny_bind ?_)
  unfold bindSpecial
  refine wpAny_bind (wpAny_typeOf (T := "function") ⟨o, kp _ _ ho, hc⟩ ?_)
  rw [if_pos (by decide)]
  refine wpAny_pure (wpAny_bind (wpAny_mono (hq h2 _ _ gx (Nat.le_succ _) kp) (fun r s' hr => ?_) fun _ _ z => z))
  obtain ⟨rfl, hQ⟩ := hr
  wp_walk
  exact hQ
theorem exc_call {rest : List Value} {fI : Addr} {mN : Str → Option Value} {Q : Value → Shared → Prop} (hC : h.get? C = some (excClassObj nm q C N bs bm hdct sn sub ab col dd k0 k1 k2 k3 k5 "ValueError.__new__")) (T : OwnTail h vErr bm)
    (hn : h.Ns N mN) (hi : mN "__init__" = some (.ref fI)) (hf : ∃ o, h.get? fI = some o ∧ o.cls = .type "function")
    (hq : ∀ h' e t', h'.get? e = some (xO C none t') → h.objs.size ≤ e → (∀ b o, h.get? b = some o → h'.get? b = some o) →
      wpAny (model prog w) (A.under (.builtin "type.__call__" ⟨.ref C :: rest, []⟩)) (call (.ref fI) (.ref e :: rest)) (fun r s' => r = .none ∧ Q (.ref e) s') E ⟨h', g, d, t, os⟩) (hz : rest.length ≤ sizeLine) :
    wpAny (model prog w) A (call (.ref C) rest) Q E ⟨h, g, d, t, os⟩ := by
  have f1 := tc_lookup
  have f2 := tc_bind (.ref C)
  have hT : (⟨h, g, d, t, os⟩ : Shared).TypeIs (.ref C) "type" := ⟨_, hC, rfl⟩
  refine wpAny_call (codeAny_of_tree ?_)
  show wpAny _ _ (callAny (.ref C) _) _ _ _
  repeat (any_goals (first | assumption | with_reducible refine wpAny_loadPart_at hC ?_ | wp_step))
  exact ⟨rfl, codeAny_call_builtin_at (Code.quiet_builtin _ (by decide +kernel)) entry_typeCall (wpAny_check_type_call_sub hC (exc_made hC T hn hi hf hq hz))⟩
end
structure ExL (K : PySem.W.Frag) (C f : Addr) (nm : Str) : Prop where
  ob : ∃ (n q : Str) (N : Addr) (bs bm : List Value) (sn : List Str) (sub : List Value) (ab : Bool) (col : Option Bool) (dd : Option Addr) (k0 k1 k2 k3 k5 : Option Value),
    K.lookup C = some (excClassObj n q C N bs bm true sn sub ab col dd k0 k1 k2 k3 k5 "ValueError.__new__") ∧ PySem.W.tailIn K vErr bm = true ∧ PySem.W.nsOkIn K N = true ∧ PySem.W.nsIn K N "__init__" = some (some (.ref f))
  fn : PySem.W.typeIn K (.ref f) = some (.type "function")
  sa : PySem.W.findIn K (.ref C) "__setattr__" = some (some (.builtin "object.__setattr__"))
  no : PySem.W.findIn K (.ref C) nm = some none
  mo : PySem.W.mroIn K C (.type "object") = some true
theorem tail_pass {K : PySem.W.Frag} (self : Value) : ∀ {l : List Value}, PySem.W.tailIn K vErr l = true → refuseLoop self "__setattr__" l = pure ()
  | [], e => by cases e
  | v :: r, e => by
    unfold PySem.W.tailIn at e
    rcases Bool.or_eq_true_iff.mp e with q | q
    · rw [beq_iff_eq.mp q]; exact PySem.F.store_ValueError.passes self
    · cases v with
      | ref A =>
        rw [refuseLoop_ref]
        dsimp only at q
        split at q
        · simp only [Bool.and_eq_true] at q
          exact tail_pass self q.2
        · cases q
      | _ => cases q
theorem ExL.exi {K : PySem.W.Frag} {C f : Addr} {nm : Str} (L : ExL K C f nm) : ∃ cd, ExI K C nm cd := by
  obtain ⟨n, q, N, bs, bm, sn, sub, ab, col, dd, k0, k1, k2, k3, k5, lk, tl, _⟩ := L.ob
  refine ⟨_, ⟨by unfold PySem.W.clsIn; rw [lk], rfl, L.sa, L.no, fun self => ?_, L.mo⟩⟩
  show refuseLoop self "__setattr__" (.ref C :: bm) = pure ()
  rw [refuseLoop_ref]
  exact tail_pass self tl
/-- the contract of __init__ of such a class -/
def spI (C : Addr) : Sp := fun vs H Q _ => ∃ e t, vs = [.ref e, .int 0] ∧ H e = some (.ext (madP e C none t)) ∧ ∀ t' dx, H dx = none → dx ≠ e → Q .non (upd (upd H e (.ext (madP e C (some dx) t'))) dx (.xd lineF))
section
variable {P : Program} {w : World} {K : PySem.W.Frag} {mg : Str → Option Value} {base : Heap} {x qual : Str} {st : Stmt} {f C Dr : Addr} {fd : FuncData} {mc : Value} {p1 p2 p3 p4 p5 p6 p7 p8 p9 p10 p11 p12 p13 p14 : Pos} {s1 s2 : Str}
theorem mad_ok {H : Hp} {h : Heap} {e : Addr} {dd : Option Addr} {t : Addr} (k : h.get? e = some (xO C dd t)) : ObjOk P w H h e (.ext (madP e C dd t)) :=
  ⟨k, ⟨_, k⟩, fun _ _ z k => k _ z⟩
theorem init_ok (Fu : Fun K x qual st f fd) (SV : FS ["self", "line"] ["self", "line"] st) (L : ExL K C f "line")
    (hb : defBody st = [.Expr (.Call (.Attribute (.Name "DrawError" p1) "__init__" p2) [.Name "self" p3, .JoinedStr [.Constant (.str s1) 0 p4, .FormattedValue (.Name "line" p5) (-1) none p6, .Constant (.str s2) 0 p7] p8] [] p9) p10,
      .Assign [.Attribute (.Name "self" p11) "line" p12] (.Name "line" p13) p14])
    (hpos : (p2.endLine == p9.line) = true) (hs1 : s1.length ≤ 100) (hs2 : s2.length ≤ 100)
    (hgD : (defScope st).names.lookup (Str.ofString "DrawError") = some .globalImplicit) (hD : mg "DrawError" = some (.ref Dr)) (hg : PySem.W.specialIn K (.ref Dr) "__getattribute__" = some (some (.builtin "type.__getattribute__"))) (hr : PySem.W.readsIn K Dr mc = true)
    (hf : PySem.W.findCls K (.ref Dr) mc "__init__" = some (.val (.builtin "ValueError.__init__"))) : FnOk P w K mg base (CXE P w) 1 f fd ["self", "line"] (spI C) := by
  obtain ⟨Sc, Vi⟩ := fs_ok SV
  obtain ⟨oc, od, kV, doc, pm, an, cdv, ct, osl, rfl, lk, hcd⟩ := Fu.ex
  refine fn_of lk hcd Sc (fun vs H Q E ⟨e, t, h, _⟩ => by rw [h]; rfl) fun A outer s H vs Q E hrm ⟨e, t, hv, he, hq⟩ => ?_
  subst hv
  refine ⟨fun D σ H' => σ = [some (.ref e), some (.int 0)] ∧ H' = H ∧ ∀ t' dx, H dx = none → dx ≠ e → D.nx σ (upd (upd H e (.ext (madP e C (some dx) t'))) dx (.xd lineF)), ?_, rfl, rfl, fun t' dx h1 h2 => hq t' dx h1 h2⟩
  intro pins s1' σ H' D I ⟨hσ, hH, hD'⟩
  subst hσ hH
  rw [hb]
  have vS : Vis (defScope st) "self" := (Vi "self" (by simp)).elim .inl fun h => .inr (.inl h)
  have vL : Vis (defScope st) "line" := (Vi "line" (by simp)).elim .inl fun h => .inr (.inl h)
  refine wpAny_execs_cons (wpAny_Expr_any ?_ I.quiet)
  have ht : ∀ env : Env, eval (.Call (.Attribute (.Name (Str.ofString "DrawError") p1) (Str.ofString "__init__") p2) [.Name (Str.ofString "self") p3, .JoinedStr [.Constant (.str s1) 0 p4, .FormattedValue (.Name (Str.ofString "line") p5) (-1) none p6, .Constant (.str s2) 0 p7] p8] [] p9) env = (do
      let ov ← eval (.Name (Str.ofString "DrawError") p1) env
      standAt p2.atName
      let (f, first) ← holding [ov] (getMethod ov (Str.ofString "__init__") (do return (← importBound (.Name (Str.ofString "DrawError") p1) env).getD true))
      callWith p9 f first (backTo p9 (starEach [.Name (Str.ofString "self") p3, .JoinedStr [.Constant (.str s1) 0 p4, .FormattedValue (.Name (Str.ofString "line") p5) (-1) none p6, .Constant (.str s2) 0 p7] p8] env)) (backToKw p9 (keywordEach [] env))) := fun env => by
    show (do
      let ov ← eval (.Name (Str.ofString "DrawError") p1) env
      standAt p2.atName
      methodCall (.Name (Str.ofString "DrawError") p1) (Str.ofString "__init__") p2 p9 env ov 2 (backTo p9 (starEach [.Name (Str.ofString "self") p3, .JoinedStr [.Constant (.str s1) 0 p4, .FormattedValue (.Name (Str.ofString "line") p5) (-1) none p6, .Constant (.str s2) 0 p7] p8] env)) (backToKw p9 (keywordEach [] env))) = _
    unfold methodCall methodCallPos
    rw [hpos, Bool.or_true]
    rfl
  refine PySem.W.methodCall_KW (pl := _) ?_ (ht _)
  refine ld_glob I (by unfold Gl Env.kindOf; exact hgD) hD ?_ (by decide)
  have KX : K.In s1'.heap := I.kIn
  refine PySem.W.method_cls KX hg (PySem.W.cls_value KX hr hf (by decide) ?_)
  refine callWith_builtin1 ?_ (by rfl) (by rfl)
  refine spliced_more ?_ (by rfl)
  have I1 := I.tok (s1'.toks + 1)
  refine var_A (i := 0) I1 (by rfl) vS (by rfl) (fun u ru => ?_) (by decide) (by decide)
  obtain rfl : u = Value.ref e := ru
  refine spliced_more ?_ (by rfl)
  have pl' : ∀ env : Env, evalEach [.Constant (.str s1) 0 p4, .FormattedValue (.Name (Str.ofString "line") p5) (-1) none p6, .Constant (.str s2) 0 p7] env = [eval (.Constant (.str s1) 0 p4) env, eval (.FormattedValue (.Name (Str.ofString "line") p5) (-1) none p6) env, eval (.Constant (.str s2) 0 p7) env] := fun _ => rfl
  refine wpAny_JoinedStr ?_
  rw [pl']
  have z0 : ∀ n : Nat, n ≤ 1000 → n ≤ sizeLine := fun n h => Nat.le_trans h (by decide)
  have e0 : (Str.ofString (toString (0 : Int))).length = 1 := by decide +kernel
  refine wpAny_Constant_str ⟨s1, _, rfl, z0 _ (by rw [PySem.Str.length_append]; show 0 + s1.length ≤ 1000; omega), ?_⟩
  refine wpAny_FormattedValue_plain (var_A (i := 1) (I.tok _) (by rfl) vL (by rfl) (fun u ru => ?_) (by decide) (by decide))
  obtain ⟨tk, rfl⟩ : ∃ tk, u = Value.int 0 tk := ru
  refine wpAny_formatField_int (by decide) ⟨_, _, rfl, z0 _ ?_, ?_⟩
  · rw [PySem.Str.length_append, PySem.Str.length_append, e0]; show 0 + s1.length + 1 ≤ 1000; omega
  refine wpAny_Constant_str ⟨s2, _, rfl, z0 _ ?_, ?_⟩
  · rw [PySem.Str.length_append, PySem.Str.length_append, PySem.Str.length_append, e0]; show 0 + s1.length + 1 + s2.length ≤ 1000; omega
  refine ⟨z0 _ ?_, spliced_none ?_⟩
  · rw [PySem.Str.length_append, PySem.Str.length_append, PySem.Str.length_append, e0]; show 0 + s1.length + 1 + s2.length ≤ 1000; omega
  obtain ⟨n, q, N, bs, bm, sn, sub, ab, col, dd, k0, k1, k2, k3, k5, lkC, tl, nk, ni⟩ := L.ob
  have he1 : s1'.heap.get? e = some (xO C none t) := (show ObjOk P w H' s1'.heap e (.ext (madP e C none t)) from I.hok e _ he).1
  refine exc_binit (KX _ _ lkC) (PySem.W.tail_of_in KX tl) he1 fun h' t' g1 g2 => ?_
  have I2 := fun tk => I.write (x := e) (e := e) (o := .ext (madP e C none t')) (h' := h') (t' := tk) (by rw [he]; exact True.intro) (.inl rfl) g2 ⟨_, g1⟩ (mad_ok g1)
  obtain ⟨cd, EI⟩ := L.exi
  refine wpAny_execs_cons (plainObj_wpAny_Assign_Attribute (var_A (i := 1) (I2 _) (by rfl) vL (by rfl) (fun u ru => ?_) (by decide) (by decide)) (by rfl))
  obtain ⟨tk2, rfl⟩ : ∃ tk, u = Value.int 0 tk := ru
  refine var_A (i := 0) (I2 _) (by rfl) vS (by rfl) (fun u ru => ?_) (by decide) (by decide)
  obtain rfl : u = Value.ref e := ru
  refine exc_set (I2 _).kIn EI g1 fun h2 tk dx r1 r2 r3 r4 => ?_
  have ndx : dx ≠ e := by
    intro z; subst z
    have r3 : h'.get? dx = none := r3
    rw [g1] at r3; cases r3
  have hn : H' dx = none := by
    cases q : H' dx with
    | none => rfl
    | some u =>
      obtain ⟨o, ho⟩ := obj_ex (I.hok dx u q)
      have := g2 dx o ndx ho
      have r3 : h'.get? dx = none := r3
      rw [this] at r3; cases r3
  refine wpAny_execs_nil ⟨_, _, ?_, hD' t' dx hn ndx⟩
  have J := I2 tk
  have r4 : ∀ b o, b ≠ e → h'.get? b = some o → h2.get? b = some o := r4
  have nd : ∀ b o, h'.get? b = some o → b ≠ dx := fun b o q z => by
    subst z
    have r3 : h'.get? b = none := r3
    rw [q] at r3; cases r3
  have eH : upd (upd H' e (.ext (madP e C (some dx) t'))) dx (.xd lineF) = upd (upd (upd H' e (.ext (madP e C none t'))) e (.ext (madP e C (some dx) t'))) dx (.xd lineF) := by rw [upd_upd]
  rw [eH]
  have he2 : (upd H' e (.ext (madP e C none t'))) e = some (.ext (madP e C none t')) := upd_same
  generalize upd H' e (.ext (madP e C none t')) = H1 at J he2 ⊢
  have hs : ∀ b, b ≠ e → b ≠ dx → (upd (upd H1 e (.ext (madP e C (some dx) t'))) dx (.xd lineF)) b = H1 b := fun b q1 q2 => by rw [upd_ne q2, upd_ne q1]
  have ne_of' : ∀ b u, H1 b = some u → (∀ φ, u ≠ .ext φ) → b ≠ e ∧ b ≠ dx := fun b u q n => ⟨fun z => by subst z; rw [he2] at q; cases q; exact n _ rfl, by
    obtain ⟨o, ho⟩ := obj_ex (J.hok b u q)
    exact nd b o ho⟩
  refine J.un (t' := tk) ⟨fun b o q n hb _ => ?_, fun b o q n hb _ => ?_, fun b o q n _ => ?_, fun b o q _ => ?_, fun b xs q => ?_, fun b o u q => ?_, fun b ps q => ?_⟩ ?_
  · exact r4 b o (fun z => by subst z; rw [he2] at n; cases n) q
  · exact ⟨o.slots, r4 b o (fun z => by subst z; rw [he2] at n; cases n) q⟩
  · exact (hs b (fun z => by subst z; rw [he2] at n; cases n) (nd b o q)).trans n
  · by_cases z : b = e
    · subst z; exact ⟨_, r1⟩
    · exact ⟨o, r4 b o z q⟩
  · obtain ⟨z1, z2⟩ := ne_of' b _ q fun _ z => by cases z
    exact (hs b z1 z2).trans q
  · obtain ⟨z1, z2⟩ := ne_of' b _ q fun _ z => by cases z
    exact (hs b z1 z2).trans q
  · obtain ⟨z1, z2⟩ := ne_of' b _ q fun _ z => by cases z
    exact ⟨#[], by rw [Array.append_empty]; exact (hs b z1 z2).trans q⟩
  · intro b u q
    by_cases z1 : b = dx
    · subst z1
      rw [upd_same] at q; cases q
      refine ⟨_, r2, fun y => ?_⟩
      by_cases hy : y = Str.ofString "line"
      · subst hy
        rw [if_pos rfl]
        exact ⟨tk2, rfl⟩
      · rw [if_neg hy]
        have : (lineF.lookup y) = none := by
          unfold lineF
          rw [List.lookup_cons, show (y == Str.ofString "line") = false from by simpa using hy]
          rfl
        rw [this]
        exact True.intro
    · by_cases z2 : b = e
      · subst z2
        rw [upd_ne z1, upd_same] at q; cases q
        exact mad_ok r1
      · rw [hs b z2 z1] at q
        refine (J.hok b u q).stay (fun c v hc k => r4 c v ?_ k) (fun c k => ?_) fun c xs k => ?_
        · rcases hc with rfl | hc
          · exact z2
          · exact (ne_of' c _ hc fun _ z => by cases z).1
        · obtain ⟨y1, y2⟩ := ne_of' c _ k fun _ z => by cases z
          exact (hs c y1 y2).trans k
        · obtain ⟨y1, y2⟩ := ne_of' c _ k fun _ z => by cases z
          exact (hs c y1 y2).trans k
end
section
variable {M : Model} {A : Around} {E : Value → Shared → Prop} {s : Shared} {env : Env} {n q : Str} {C N : Addr} {bs bm : List Value} {hd : Bool} {sn : List Str} {sub : List Value} {ab : Bool} {col : Option Bool} {dd : Option Addr} {k0 k1 k2 k3 k5 : Option Value} {newId : String}
theorem raise_made {x : Sem Value} {Q : Flow → Shared → Prop} (hbase : bm.contains (.type "BaseException") = true) (hh : A.handled = none)
    (h : wpAny M A x (fun v s1 => ∃ e t du, v = .ref e ∧ s1.heap.get? C = some (excClassObj n q C N bs bm hd sn sub ab col dd k0 k1 k2 k3 k5 newId) ∧ s1.heap.get? e = some (xO C du t) ∧ E (.ref e) s1) E s) : wpAny M A (raiseStmt env (some x) none) Q E s := by
  have hB : (Value.ref C :: bm).contains (.type "BaseException") = true := by rw [List.contains_cons, hbase, Bool.or_true]
  unfold raiseStmt
  refine wpAny_bind (wpAny_mono h (fun v s1 h1 => ?_) fun _ _ z => z)
  obtain ⟨e, t, du, rfl, hC, he, hE⟩ := h1
  obtain ⟨hp, g, d, tk, os⟩ := s1
  unfold xO at he
  repeat (first | with_reducible refine wpAny_loadPart_at he ?_ | with_reducible refine wpAny_loadPart_at hC ?_ | (with_reducible refine wpAny_isSubtype_exc hC ?_; rw [hB]) | wp_step)
  exact wpAny_raiseNew_none hh hE
end
theorem ns_some {K : PySem.W.Frag} {h : Heap} {N : Addr} {mg : Str → Option Value} {n : Str} {v : Value} (X : K.In h) (G : h.Ns N mg) (e : PySem.W.nsIn K N n = some (some v)) : mg n = some v := by
  obtain ⟨o, es, ep, ho, hd, _, hf⟩ := G
  rw [← hf]
  unfold PySem.W.nsIn at e
  cases l : K.lookup N with
  | none => rw [l] at e; cases e
  | some o' =>
    have z := X _ _ l
    rw [ho] at z; cases z
    rw [l] at e
    obtain ⟨a1, a2, a3, a4⟩ := o
    dsimp only at hd
    subst hd
    dsimp only at e
    unfold nsFind findBy
    rw [← Array.find?_toList]
    cases y : es.toList.find? (·.key.isStr n) with
    | some en => rw [y] at e; cases e; rfl
    | none =>
      rw [y] at e
      dsimp only at e
      split at e <;> cases e
section
variable {P : Program} {w : World} {K : PySem.W.Frag} {mg : Str → Option Value} {base : Heap} {k : Nat} {N : List Str} {sc : Scope} {bk : Bool} {c : Ctx P w K mg base k N sc bk} {ρ : List Sl} {nx : List Sl → Prop} {p : Pt} {pos np cpos : Pos} {e : Expr} {C f : Addr} {fd : FuncData}
theorem s_raiseL {x : Str} (hm : mg x = some (.ref C)) (L : ExL K C f (Str.ofString "line")) (F : FnOk P w K mg base (CXE P w) 1 f fd ["self", "line"] (spI C)) (hbi : Binds K fd ["self", "line"] []) (hkp : PySem.W.keepIn K (.ref C) = true) (hj : 2 ≤ k)
    (h : EvE c e ρ fun d => d = .int 0 ∧ c.RM C ρ)
    (hg : sc.names.lookup x = some .globalImplicit := by with_unfolding_all rfl) (hdb : (x == ("__debug__" : Str)) = false := by decide)
    (he : ∀ env, starEach [e] env = (false, eval e env) :: starEach [] env := by intro _; with_unfolding_all rfl) (hpl : ∀ env, (backTo cpos (starEach [] env)).any (·.1) = false := by intro _; with_unfolding_all rfl) :
    EvS c (.Raise (some (.Call (.Name x np) [e] [] cpos)) none pos) ρ nx p := fun σ H Hf D S o pins s I => by
  obtain ⟨n, q, Nn, bs, bm, sn, sub, ab, col, dd, k0, k1, k2, k3, k5, lkC, tl, nk, ni⟩ := L.ob
  have KX : ∀ {pins σ H s}, Inv c.X pins σ H s → K.In s.heap := fun I => by
    have z := I.kIn
    rw [c.eK] at z; exact z
  have hbase : bm.contains (.type "BaseException") = true := (PySem.W.tail_of_in (KX I) tl).hasType (bmB := vErr) (by decide)
  rw [arm_exec_Raise]
  simp only [evalOpt, Option.map]
  refine wpAny_bind (wpAny_standAt (raise_made (n := n) (q := q) (C := C) (N := Nn) (bs := bs) (bm := bm) (hd := true) (sn := sn) (sub := sub) (ab := ab) (col := col) (dd := dd) (k0 := k0) (k1 := k1) (k2 := k2) (k3 := k3) (k5 := k5) (newId := "ValueError.__new__") hbase (I.ok.hd c.calm) ?_))
  refine wpAny_bind (wpAny_mono (Q := fun v s1 => ∃ e t du, v = Value.ref e ∧ s1.heap.get? C = some (excClassObj n q C Nn bs bm true sn sub ab col dd k0 k1 k2 k3 k5 "ValueError.__new__") ∧ s1.heap.get? e = some (xO C du t) ∧ c.X.xe (.ref e) s1) ?_ (fun v s3 h3 => wpAny_bind (wpAny_standAt (wpAny_pure h3))) fun _ _ z => z)
  refine wpAny_Call_Name_kw (ld_glob I (by unfold Gl Env.kindOf; rw [c.esc]; exact hg) (by rw [c.emg]; exact hm) ?_ hdb)
  have ha := bA_of (pa_cons pbE pa_nil (he _)) (Q := fun vs H1 => ∃ Hf1, c.RM C ρ ∧ Grw H Hf H1 Hf1 ∧ vs = [.int 0]) (h σ H Hf _ S fun d v H' Hf' hR r g => ⟨Hf', hR.2, g, by obtain ⟨rfl, _⟩ := hR; rw [rep_int] at r; subst r; rfl⟩) cpos pins s I
  refine PySem.W.callWith_K (h₀ := c.X.base) I.ok.mod.kin (by rw [c.eK]; exact hkp) (thn ha fun us s2 hh => z2 hh fun vs H2 hh => w3 hh fun I2 rv hh => hh.elim fun Hf2 hh => w3 hh fun hR g ev => ⟨I2.kIn, ?_⟩) (he _) (hpl _)
  subst ev
  obtain ⟨tk, rfl⟩ : ∃ tk, us = [Value.int 0 tk] := by
    cases rv with
    | cons r1 r2 =>
      cases r2
      obtain ⟨tk, z⟩ := r1
      exact ⟨tk, by rw [z]⟩
  obtain ⟨hp, gg, dr, tk2, os⟩ := s2
  have K2 : K.In hp := KX I2
  obtain ⟨of, hof, hcf⟩ : ∃ o, K.lookup f = some o ∧ o.cls = .type "function" := by
    have z := L.fn
    unfold PySem.W.typeIn at z
    exact Option.map_eq_some_iff.mp z
  refine exc_call (K2 _ _ lkC) (PySem.W.tail_of_in K2 tl) (.of_isNs (PySem.W.isNs_of_in K2 nk)) (ns_some K2 (.of_isNs (PySem.W.isNs_of_in K2 nk)) ni) ⟨of, K2 _ _ hof, hcf⟩ (fun h' a t' g1 g2 g3 => ?_) (show 1 ≤ sizeLine by decide)
  have I3 : Inv c.X pins σ (upd H2 a (.ext (madP a C none t'))) ⟨h', gg, dr, tk2, os⟩ := I2.laid (t' := tk2) g3 g2 (mad_ok g1)
  have hn2 : H2 a = none := I2.hok.fresh g2
  have F' : FnOk c.X.prog c.X.w c.X.K c.X.mg c.X.base (CXE c.X.prog c.X.w) 1 f fd ["self", "line"] (spI C) := by rw [c.eP, c.ew, c.eK, c.emg, c.eb]; exact F
  have hb' : Binds c.X.K fd ["self", "line"] [] := by rw [c.eK]; exact hbi
  have hb2 := hb' ⟨h', gg, dr, tk2, os⟩ [.ref a, .int 0 tk] I3.kIn rfl
  rw [List.append_nil] at hb2
  refine wpAny_call (codeAny_mono (F'.run _ c.X.stack ⟨h', gg, dr, tk2, os⟩ _ ⟨[.ref a, .int 0 tk], []⟩ [.ref a, .int 0 tk] [.ref a, .int 0]
    (fun v H4 => v = .non ∧ ∃ t'' dx, H4 = upd (upd (upd H2 a (.ext (madP a C none t'))) a (.ext (madP a C (some dx) t''))) dx (.xd lineF) ∧ (upd H2 a (.ext (madP a C none t'))) dx = none ∧ dx ≠ a) (fun _ _ _ => False)
    (Room.make (c.room.mono hj) C _ _) (I3.env0.make C _ _) hb2 (.cons rfl (.cons ⟨tk, rfl⟩ .nil)) ⟨a, t', rfl, upd_same, fun t'' dx h1 h2 => ⟨rfl, t'', dx, rfl, h1, h2⟩⟩) fun r s4 hq => ?_)
  cases r with
  | error x =>
    obtain ⟨_, _, _, _, _, z⟩ := hq
    exact z.elim
  | ok fl =>
    cases fl with
    | ret u =>
      obtain ⟨v, H4, I4, ru, rfl, t'', dx, rfl, hdn, hne⟩ := I3.after hq
      rw [upd_ne hne] at hdn
      rw [upd_upd] at I4
      have hA : (upd (upd H2 a (.ext (madP a C (some dx) t''))) dx (.xd lineF)) a = some (.ext (madP a C (some dx) t'')) := by rw [upd_ne (Ne.symm hne), upd_same]
      have ga : s4.heap.get? a = some (xO C (some dx) t'') := (show ObjOk c.X.prog c.X.w _ s4.heap a (.ext (madP a C (some dx) t'')) from I4.hok a _ hA).1
      refine ⟨ru, a, t'', some dx, rfl, KX I4 _ _ lkC, ga, c.mde C a pins σ H2 Hf2 ρ ⟨hp, gg, dr, tk2, os⟩ _ s4 I2 (S.grw g) hR ⟨I4, fun b u q => ?_, Heap.get?_none_of_le g2, t'', dx, hA, upd_same, hdn⟩⟩
      rw [upd_ne (ne_of_none q hdn), upd_ne (ne_of_none q hn2)]; exact q
    | next => exact False.elim hq
    | brk => exact False.elim hq
    | cont => exact False.elim hq
theorem lk_line {od : Obj} {h : Heap} {dx : Addr} {mA : Str → Option Value} (e : h.get? dx = some od) (N1 : h.Ns1 dx mA) {nm : Str} {v : Value} (hv : mA nm = some v) : PySem.W.lookIn nm od = some (some v) := by
  obtain ⟨o, es, ep, ho, hd, _, _, hf⟩ := N1
  rw [e] at ho; cases ho
  have z := hf nm
  rw [hv] at z
  unfold PySem.W.lookIn
  rw [hd]
  dsimp only
  unfold nsFind findBy at z
  rw [← Array.find?_toList] at z
  cases y : es.toList.find? (·.key.isStr nm) with
  | some en => rw [y] at z; exact congrArg some z
  | none => rw [y] at z; cases z
/-- y.line, y an exception of such a class -/
theorem e_exL {y : Expr} {R : D → Prop} (L : ExL K C f (Str.ofString "line")) (ek : ExK K C) (h : EvE c y ρ fun d => d = .exc C ∧ R (.int 0))
    (hb : ∀ env, attributeBase y (Str.ofString "line") env (eval y env) = eval y env := by intro _; with_unfolding_all rfl) : EvE c (.Attribute y (Str.ofString "line") pos) ρ R := fun σ H Hf Q S q pins s I => by
  refine attr_of (hb _) (thn (h σ H Hf (fun v H1 => ∃ Hf1, R (.int 0) ∧ Rep c.X.K Hf1 (.exc C) v ∧ Grw H Hf H1 Hf1) S (fun d v H' Hf' hR r g => ⟨Hf', hR.2, by obtain ⟨rfl, _⟩ := hR; exact r, g⟩) pins s I) fun u s1 hh => z2 hh fun v H1 hh => w3 hh fun I1 rv hh => hh.elim fun Hf1 hh => w3 hh fun hR rd g => ?_)
  rw [rep_exc] at rd
  obtain ⟨a, dx, rfl, ha, hx⟩ := rd
  obtain rfl : u = Value.ref a := rv
  obtain ⟨o, ho, hc, hdd, vs, hv⟩ := (show ObjOk c.X.prog c.X.w H1 s1.heap a (.ext (excP a C dx)) from I1.hok a _ (g.b _ _ ha)).1
  obtain ⟨mA, N1, hl⟩ := (show ObjOk c.X.prog c.X.w H1 s1.heap dx (.xd lineF) from I1.hok dx _ (g.b _ _ hx))
  have h0 : lineF.lookup (Str.ofString "line") = some (.int 0) := by unfold lineF; rw [List.lookup_cons]; simp
  have z := hl (Str.ofString "line")
  rw [h0] at z
  cases hm : mA (Str.ofString "line") with
  | none => rw [hm] at z; exact z.elim
  | some u =>
    rw [hm] at z
    obtain ⟨tk, rfl⟩ : ∃ tk, u = Value.int 0 tk := z
    obtain ⟨od, es, ep, hod, hdd2, r1, r2, r3⟩ := id N1
    have KX : K.In s1.heap := by
      have z := I1.kIn
      rw [c.eK] at z; exact z
    have II : PySem.W.InstAt s1.heap a o C (some od) := ⟨ho, hc, by unfold PySem.W.notCls; rw [hv], by rw [hdd]; exact hod⟩
    obtain ⟨cd, EI⟩ := L.exi
    have hf : PySem.W.findObj K C (some od) (Str.ofString "line") = some (.value (.int 0 tk)) := by
      unfold PySem.W.findObj
      rw [EI.cl, EI.no]
      show ((PySem.W.ownOf cd (some od) (Str.ofString "line")).bind _) = _
      unfold PySem.W.ownOf
      rw [EI.dc, if_pos rfl]
      dsimp only
      rw [lk_line hod N1 hm]
      rfl
    refine exc_get KX ek II hf rfl fun tk2 => ?_
    exact ⟨.int 0, H1, I1.tok tk2, ⟨tk, rfl⟩, q _ _ H1 Hf1 hR (rep_int.mpr rfl) g⟩
end
section
variable {P : Program} {w : World} {K : PySem.W.Frag} {mg : Str → Option Value} {base : Heap} {k : Nat} {N : List Str} {sc : Scope} {bk : Bool} {c : EV.Ctx P w K mg base k N sc bk} {ρ ρ' : List Sl} {nx : List Sl → Prop} {p : Pt} {r : Sl} {d0 : D}
theorem ss_frzD {st : List Stmt} (i : Nat) (hi : At ρ i r) (hr : r.frzD = some d0) (hs : SSet ρ i (.va d0) ρ') (h : EvSs c st ρ' nx p) : EvSs c st ρ nx p := fun σ H Hf D S o => by
  obtain ⟨q, u, hq, hfq, hd, S1⟩ := S.freezeD hi.get hr
  intro pins s I
  obtain ⟨ob, I1, nf⟩ := inv_frz I hq hd
  have S2 := S1 ob
  rw [← hs.eq] at S2
  exact h σ _ _ D S2 o pins s I1
end
end EV

namespace My
open PySem PySem.Spec PyProof.Rows L2 EV
abbrev top (i : Nat) : Stmt := PySem.Challenge.pw_everydraw_k82_sayings_written_down.main.body.getD i (.Pass ⟨0, 0, 0, 0⟩)
abbrev st_is_whole := top 19
theorem sc_is_whole : FS ["some"] ["some"] (top 19) := by decide +kernel
abbrev st_is_saying_word := top 22
theorem sc_is_saying_word : FS ["word"] ["word"] (top 22) := by decide +kernel
abbrev st_is_saying := top 23
theorem sc_is_saying : FS ["saying"] ["saying"] (top 23) := by decide +kernel
abbrev st_all_among := top 28
theorem sc_all_among : FS ["text", "signs"] ["text", "signs"] (top 28) := by decide +kernel
abbrev st_is_name := top 29
theorem sc_is_name : FS ["some"] ["some"] (top 29) := by decide +kernel
abbrev st_look_names := top 30
theorem sc_look_names : FS ["names"] ["names"] (top 30) := by decide +kernel
abbrev st_numbers_by := top 31
theorem sc_numbers_by : FS ["names"] ["names"] (top 31) := by decide +kernel
abbrev st_shown_saying := top 32
theorem sc_shown_saying : FS ["saying", "names"] ["saying", "names"] (top 32) := by decide +kernel
abbrev st_read_saying := top 33
theorem sc_read_saying : FS ["line", "names", "words", "numbers", "found"] ["line", "names"] (top 33) := by decide +kernel
abbrev st_l_cell_at := top 35
theorem sc_l_cell_at : FS ["_law_script", "_law_k"] ["_law_script", "_law_k"] (top 35) := by decide +kernel
abbrev st_l_mixed := top 36
theorem sc_l_mixed : FS ["_law_cell", "_law_k", "_law_number"] ["_law_cell", "_law_k"] (top 36) := by decide +kernel
abbrev st_l_rest := top 37
theorem sc_l_rest : FS ["_law_script", "_law_k", "_law_cell", "_law_big"] ["_law_script", "_law_k"] (top 37) := by decide +kernel
abbrev st_l_names := top 38
theorem sc_l_names : FS ["_law_rest_here", "_law_many", "_law_words", "_law_signs", "_law_names_here", "_law_k", "_law_name", "_law_size", "_law_j"] ["_law_rest_here", "_law_many"] (top 38) := by decide +kernel
abbrev st_l_alone := top 39
theorem sc_l_alone : FS ["_law_error", "_law_told"] ["_law_error"] (top 39) := by decide +kernel
abbrev st_l_said := top 40
theorem sc_l_said : FS [] [] (top 40) := by decide +kernel
abbrev st_l_marks := top 41
theorem sc_l_marks : FS ["_law_word", "_law_marks_here"] ["_law_word"] (top 41) := by decide +kernel
abbrev st_l_bent := top 42
theorem sc_l_bent : FS ["_law_text", "_law_number", "_law_names_here", "_law_some", "_law_sign", "_law_at", "_law_next_sign", "_law_words", "_law_place", "_law_other"] ["_law_text", "_law_number", "_law_names_here"] (top 42) := by decide +kernel
abbrev st_l_reader := top 43
theorem sc_l_reader : FS ["_law_text", "_law_names_here", "_law_words", "_law_word"] ["_law_text", "_law_names_here"] (top 43) := by decide +kernel
abbrev st_l_good := top 44
theorem sc_l_good : FS ["_law_found", "_law_due"] ["_law_found", "_law_due"] (top 44) := by decide +kernel
abbrev st_law := top 45
theorem sc_law : FS ["_law_script", "_law_rest_here", "_law_names_here", "_law_handed", "_law_k", "_law_saying", "_law_mark", "_law_text", "_law_told", "_law_due", "_law_found", "_law_error", "e"] ["_law_script"] (top 45) := by decide +kernel


local macro_rules | `(tactic| walk_at "side") => `(tactic| first | lia | assumption | exact nl_int | exact sz_small (Nat.le_of_ble_eq_true rfl) | exact dv_small (by decide) (by decide +kernel) | (show CPow _ _; exact ⟨by decide, by decide, by decide +kernel⟩))
local macro_rules | `(tactic| walk_at "at") => `(tactic| with_reducible (repeat (first | exact At.z | apply At.s)))
local macro_rules | `(tactic| walk_at "sset") => `(tactic| with_reducible (repeat (first | exact SSet.z | apply SSet.s)))
local macro_rules | `(tactic| walk_at "atI") => `(tactic| first | assumption | rfl)
local macro_rules | `(tactic| walk_at "own") => `(tactic| with_unfolding_all rfl)
local macro_rules | `(tactic| walk_at "evSs") => `(tactic| first
  | with_reducible refine ss_cons ?_
  | with_reducible refine ss_nil ?_)
local macro_rules | `(tactic| walk_at "evS") => `(tactic| first
  | ((with_reducible show EvS _ (Stmt.Assign [Expr.Name _ _] _ _) _ _ _); with_reducible refine s_set (by walk_at "at") ?_)
  | ((with_reducible show EvS _ (Stmt.If _ _ _ _) _ _ _); walk_at "evIf")
  | ((with_reducible show EvS _ (Stmt.Expr _ _) _ _ _); walk_at "evXp")
  | ((with_reducible show EvS _ (Stmt.Return (some (Expr.Name _ _)) _) _ _ _); with_reducible refine s_ret_ow (by walk_at "at") (by walk_at "at") rfl ?_)
  | ((with_reducible show EvS _ (Stmt.Return (some _) _) _ _ _); with_reducible refine s_ret ?_)
  | ((with_reducible show EvS _ (Stmt.Return none _) _ _ _); with_reducible refine s_retN ?_)
  | ((with_reducible show EvS _ (Stmt.AugAssign (Expr.Name _ _) Operator.Add _ _) _ _ _); with_reducible refine s_addq (by walk_at "at") (by walk_at "at") ?_)
  | ((with_reducible show EvS _ (Stmt.AugAssign (Expr.Name _ _) Operator.Sub _ _) _ _ _); with_reducible refine s_subq (by walk_at "at") (by walk_at "at") ?_)
  | ((with_reducible show EvS _ (Stmt.AugAssign (Expr.Subscript (Expr.Name _ _) _ _) Operator.Add _ _) _ _ _); with_reducible refine s_daddq (by walk_at "at") (by walk_at "at") ?_)
  | ((with_reducible show EvS _ (Stmt.Assign [Expr.Tuple [Expr.Name _ _, Expr.Name _ _] _ _] (Expr.Tuple [_, _] _ _) _) _ _ _); with_reducible refine s_par (by walk_at "at") (by walk_at "at") (by decide) ?_)
  | ((with_reducible show EvS _ (Stmt.Assign [Expr.Tuple _ _ _] _ _) _ _ _); with_reducible refine s_asg ?_)
  | ((with_reducible show EvS _ (Stmt.Assign [Expr.Subscript (Expr.Name _ _) _ _] _ _) _ _ _); walk_at "evPut")
  | with_reducible refine s_break ?_
  | with_reducible refine s_continue ?_
  | with_reducible refine s_pass ?_)
local macro_rules | `(tactic| walk_at "evIf") => `(tactic| with_reducible refine s_if ?_)
local macro_rules | `(tactic| walk_at "evXp") => `(tactic| with_reducible refine s_appG (by walk_at "at") (by walk_at "at") (by walk_at "own") ?_)
local macro_rules | `(tactic| walk_at "evPut") => `(tactic| with_reducible refine s_dput (by walk_at "at") (by walk_at "at") ?_ (ho := by walk_at "own"))
local macro_rules | `(tactic| walk_at "evK") => `(tactic| first
  | with_reducible refine e_int ?_
  | with_reducible refine e_bl ?_
  | with_reducible refine e_non ?_
  | with_reducible refine e_str ?_)
local macro_rules | `(tactic| walk_at "evCm") => `(tactic| first
  | with_reducible refine e_isN ?_
  | with_reducible refine e_notN ?_
  | with_reducible refine e_lt ?_
  | with_reducible refine e_eq ?_
  | with_reducible refine e_ne ?_)
local macro_rules | `(tactic| walk_at "evIx") => `(tactic| first
  | ((with_reducible show EvE _ (Expr.Subscript _ (Expr.Slice _ _ _ _) _) _ _); with_reducible refine e_sliceA ?_)
  | ((with_reducible show EvE _ (Expr.Subscript (Expr.Name _ _) _ _) _ _); with_reducible refine e_ixO (by walk_at "at") (by walk_at "at") (by walk_at "own") (by walk_at "sset") ?_ (by walk_at "at"))
  | ((with_reducible show EvE _ (Expr.Subscript (Expr.Name _ _) _ _) _ _); with_reducible refine e_dix (by walk_at "at") (by walk_at "at") ?_)
  | with_reducible refine e_ixA ?_)
local macro_rules | `(tactic| walk_at "evBo") => `(tactic| first
  | with_reducible refine e_addA ?_
  | with_reducible refine e_sub ?_
  | with_reducible refine e_mul ?_
  | with_reducible refine e_mod ?_
  | with_reducible refine e_fdiv ?_
  | with_reducible refine e_pow ?_)
local macro_rules | `(tactic| walk_at "evCa") => `(tactic| first
  | ((with_reducible show EvE _ (Expr.Call (Expr.Attribute _ _ _) _ _ _) _ _); walk_at "evMt")
  | ((with_reducible show EvE _ (Expr.Call (Expr.Name (Str.ofString "isinstance") _) _ _ _) _ _); first
    | with_reducible refine e_isin (Txt.isin (by assumption)) (Txt.c_int (by assumption)) ?_
    | with_reducible refine e_isin (Txt.isin (by assumption)) (Txt.c_tuple (by assumption)) ?_
    | with_reducible refine e_isin (Txt.isin (by assumption)) (Txt.c_list (by assumption)) ?_
    | with_reducible refine e_isin (Txt.isin (by assumption)) (Txt.c_bool (by assumption)) ?_)
  | ((with_reducible show EvE _ (Expr.Call (Expr.Name (Str.ofString "len") _) _ _ _) _ _); first
    | ((with_reducible show EvE _ (Expr.Call _ [Expr.Name _ _] _ _) _ _); with_reducible refine e_lenO (Txt.len (by assumption)) (by walk_at "at") (by walk_at "at") (by walk_at "own") (by walk_at "sset") ?_)
    | with_reducible refine e_len (Txt.len (by assumption)) ?_)
  | ((with_reducible show EvE _ (Expr.Call (Expr.Name (Str.ofString "tuple") _) _ _ _) _ _); first
    | ((with_reducible show EvE _ (Expr.Call _ [Expr.Name _ _] _ _) _ _); with_reducible refine e_tupleO (Txt.tuple (by assumption)) (by walk_at "at") (by walk_at "at") (by walk_at "own") (by walk_at "sset") ?_)
    | with_reducible refine e_tuple (Txt.tuple (by assumption)) ?_)
  | ((with_reducible show EvE _ (Expr.Call (Expr.Name (Str.ofString "abs") _) _ _ _) _ _); with_reducible refine e_abs (Txt.abs (by assumption)) ?_)
  | ((with_reducible show EvE _ (Expr.Call (Expr.Name (Str.ofString "int") _) _ _ _) _ _); with_reducible refine e_intB (Txt.int (by assumption)) ?_))
local macro_rules | `(tactic| walk_at "evMt") => `(tactic| with_reducible refine e_dget (by walk_at "at") (by walk_at "at") ?_ (ho := by walk_at "own"))
local macro_rules | `(tactic| walk_at "evE") => `(tactic| first
  | ((with_reducible show EvE _ (Expr.Name _ _) _ _); with_reducible refine e_var (by walk_at "at") (by walk_at "at") ?_)
  | ((with_reducible show EvE _ (Expr.Constant _ _ _) _ _); walk_at "evK")
  | ((with_reducible show EvE _ (Expr.Call _ _ _ _) _ _); walk_at "evCa")
  | ((with_reducible show EvE _ (Expr.Subscript _ _ _) _ _); walk_at "evIx")
  | ((with_reducible show EvE _ (Expr.BinOp _ _ _ _) _ _); walk_at "evBo")
  | ((with_reducible show EvE _ (Expr.Compare _ _ _ _) _ _); walk_at "evCm")
  | with_reducible refine e_tup ?_
  | with_reducible refine e_lstA ?_
  | with_reducible refine e_neg ?_
  | with_reducible refine e_not ?_
  | with_reducible refine e_and ?_
  | with_reducible refine e_or ?_
  | with_reducible refine e_one ?_
  | with_reducible refine e_ifExp ?_)
local macro_rules | `(tactic| walk_at "evX") => `(tactic| first
  | ((with_reducible show EvX _ (Expr.List _ _) _ _); with_reducible refine x_lst ?_)
  | ((with_reducible show EvX _ (Expr.Call _ _ _ _) _ _); walk_at "evXC")
  | ((with_reducible show EvX _ (Expr.BinOp _ Operator.Add _ _) _ _); with_reducible refine x_add ?_)
  | ((with_reducible show EvX _ (Expr.Subscript _ (Expr.Slice _ _ _ _) _) _ _); with_reducible refine x_slice ?_)
  | with_reducible refine x_e ?_)
local macro_rules | `(tactic| walk_at "evXC") => `(tactic| first
  | ((with_reducible show EvX _ (Expr.Call (Expr.Name (Str.ofString "list") _) _ _ _) _ _); first
    | ((with_reducible show EvX _ (Expr.Call _ [Expr.Name _ _] _ _) _ _); with_reducible refine x_listO (Txt.list (by assumption)) (by walk_at "at") (by walk_at "at") (by walk_at "own") (by walk_at "sset") ?_)
    | with_reducible refine x_list (Txt.list (by assumption)) ?_)
  | with_reducible refine x_e ?_)
local macro_rules | `(tactic| walk_at "evT") => `(tactic| first
  | ((with_reducible show EvT _ (Expr.Compare _ _ _ _) _ _); first
    | with_reducible refine t_isN ?_
    | with_reducible refine t_notN ?_
    | with_reducible refine t_ne ?_
    | with_reducible refine t_eq ?_
    | with_reducible refine t_lt ?_
    | with_reducible refine t_le ?_
    | with_reducible refine t_gt ?_
    | with_reducible refine t_ge ?_
    | with_reducible refine t_din (by walk_at "at") (by walk_at "at") ?_
    | with_reducible refine t_dnotin (by walk_at "at") (by walk_at "at") ?_)
  | with_reducible refine t_not ?_
  | with_reducible refine t_w (w_and ?_)
  | with_reducible refine t_w (w_or ?_)
  | with_reducible refine t_val ?_)
local macro_rules | `(tactic| walk_at "evW") => `(tactic| first
  | with_reducible refine w_and ?_
  | with_reducible refine w_or ?_
  | with_reducible refine w_and1 ?_
  | with_reducible refine w_or1 ?_)
local macro_rules | `(tactic| walk_at "evG") => `(tactic| first
  | ((with_reducible show EvG _ (Expr.Name _ _) _ _ _); with_reducible refine g_name (by walk_at "at") ?_)
  | with_reducible refine g_tup rfl (by with_unfolding_all rfl) ?_)
local macro_rules | `(tactic| walk_at "evGs") => `(tactic| first
  | with_reducible refine gs_nil ?_
  | ((with_reducible show EvGs _ (_ :: _) _ _ _); with_reducible refine gs_name (by walk_at "at") ?_))
local macro_rules | `(tactic| walk_at "evL") => `(tactic| first
  | ((with_reducible show Nx _ _ _ _); with_reducible refine nxt (by walk_at "sset") ?_)
  | ((with_reducible show Sd _ _); first | with_reducible refine Sd.mk (by walk_at "side") ?_ | with_reducible refine Sd.mk ?_ ?_)
  | ((with_reducible show If2 _ _ _); first
    | with_reducible refine if2_t ?_
    | with_reducible refine if2_f ?_
    | with_reducible refine if2_not ?_
    | with_reducible refine if2_dec (fun h => ?_) (fun h => ?_)
    | with_reducible refine if2 (fun h => ?_) (fun h => ?_))
  | with_reducible refine i2 ?_
  | with_reducible refine i1 ?_
  | with_reducible refine b1 ?_
  | ((with_reducible show EqP _ _ _); first
    | with_reducible refine eqp_int ?_
    | with_reducible refine eqp_bl ?_
    | with_reducible refine eqp_str ?_)
  | ((with_reducible show AddP _ _ _); first
    | with_reducible refine addp_int ?_
    | with_reducible refine addp_lst ?_
    | with_reducible refine addp_tup ?_)
  | ((with_reducible show FzP _ _); first
    | with_reducible refine fz_va ?_
    | with_reducible refine fz_ow ?_)
  | ((with_reducible show IsN _ _); first
    | with_reducible refine isn_t ?_
    | with_reducible refine isn_f (by intro q; cases q) ?_)
  | ((with_reducible show IxP _ _ _); first
    | refine ixp_t (by rfl) ?_
    | refine ixp_l (by rfl) ?_)
  | ((with_reducible show SlP _ _ _ _); first
    | with_reducible refine EV.SlP.lst ?_
    | with_reducible refine EV.SlP.tup ?_)
  | ((with_reducible show ∃ ys, D.row _ = some ys ∧ _); refine rowX (by rfl) ?_)
  | ((with_reducible show ∃ t b, TyD _ _ t ∧ _); first
    | with_reducible refine isd .int kit_ii ?_
    | with_reducible refine isd .int (Txt.ib (by assumption)) ?_
    | with_reducible refine isd .bl kit_bb ?_
    | with_reducible refine isd .lst kit_ll ?_
    | with_reducible refine isd .tup kit_tt ?_)
  | ((with_reducible show ∃ j d, D.int _ = D.int j ∧ _); refine ⟨_, _, rfl, (by walk_at "atI"), ?_⟩)
  | ((with_reducible show ∃ r, _ ∧ RsP _ _ _ r); walk_at "evR"))
local macro_rules | `(tactic| walk_at "ev1") => `(tactic| first
  | ((with_reducible show EvE _ _ _ _); walk_at "evE")
  | ((with_reducible show EvX _ _ _ _); walk_at "evX")
  | ((with_reducible show EvT _ _ _ _); walk_at "evT")
  | ((with_reducible show EvSs _ _ _ _ _); walk_at "evSs")
  | ((with_reducible show EvS _ _ _ _ _); walk_at "evS")
  | ((with_reducible show EvA _ _ _ _); first | with_reducible refine a_cons ?_ | with_reducible refine a_nil ?_)
  | ((with_reducible show EvW _ _ _ _); walk_at "evW")
  | ((with_reducible show EvG _ _ _ _ _); walk_at "evG")
  | ((with_reducible show EvGs _ _ _ _ _); walk_at "evGs")
  | ((with_reducible show EvP _ _ _ _); first | with_reducible refine p_none ?_ | with_reducible refine p_some ?_)
  | walk_at "evL")
local macro_rules | `(tactic| walk_at "ev") => `(tactic| repeat' (walk_at "ev1"))
local macro_rules | `(tactic| walk_at "nx") => `(tactic| (refine ss_cons ?_; generalize hG : (fun ρ' => EvSs _ _ ρ' _ _) = G; walk_at "ev"))
local macro_rules | `(tactic| walk_at "sb") => `(tactic| (cases ‹(_ : List Sl → Prop) = _›))

section
variable {P : Program} {w : World} {K : PySem.W.Frag} {mg : Str → Option Value} {base : Heap}
theorem kt_non_int : PySem.W.kitOne K (.type "NoneType") (.type "int") = some false := kit_ty (by decide) (by decide) (by show (fastBuiltinMro "NoneType").map (·.contains (.type "int")) = some false; decide +kernel)
theorem kt_bl_int : PySem.W.kitOne K (.type "bool") (.type "int") = some true := kit_ty (by decide) (by decide) (by show (fastBuiltinMro "bool").map (·.contains (.type "int")) = some true; decide +kernel)
theorem kt_str_int : PySem.W.kitOne K (.type "str") (.type "int") = some false := kit_ty (by decide) (by decide) (by show (fastBuiltinMro "str").map (·.contains (.type "int")) = some false; decide +kernel)
theorem kt_tup_int : PySem.W.kitOne K (.type "tuple") (.type "int") = some false := kit_ty (by decide) (by decide) (by show (fastBuiltinMro "tuple").map (·.contains (.type "int")) = some false; decide +kernel)
theorem kt_lst_int : PySem.W.kitOne K (.type "list") (.type "int") = some false := kit_ty (by decide) (by decide) (by show (fastBuiltinMro "list").map (·.contains (.type "int")) = some false; decide +kernel)
theorem kt_non_str : PySem.W.kitOne K (.type "NoneType") (.type "str") = some false := kit_ty (by decide) (by decide) (by show (fastBuiltinMro "NoneType").map (·.contains (.type "str")) = some false; decide +kernel)
theorem kt_bl_str : PySem.W.kitOne K (.type "bool") (.type "str") = some false := kit_ty (by decide) (by decide) (by show (fastBuiltinMro "bool").map (·.contains (.type "str")) = some false; decide +kernel)
theorem kt_int_str : PySem.W.kitOne K (.type "int") (.type "str") = some false := kit_ty (by decide) (by decide) (by show (fastBuiltinMro "int").map (·.contains (.type "str")) = some false; decide +kernel)
theorem kit_ss : PySem.W.kitOne K (.type "str") (.type "str") = some true := kit_same (by decide)
theorem kt_tup_str : PySem.W.kitOne K (.type "tuple") (.type "str") = some false := kit_ty (by decide) (by decide) (by show (fastBuiltinMro "tuple").map (·.contains (.type "str")) = some false; decide +kernel)
theorem kt_lst_str : PySem.W.kitOne K (.type "list") (.type "str") = some false := kit_ty (by decide) (by decide) (by show (fastBuiltinMro "list").map (·.contains (.type "str")) = some false; decide +kernel)
theorem kt_non_tuple : PySem.W.kitOne K (.type "NoneType") (.type "tuple") = some false := kit_ty (by decide) (by decide) (by show (fastBuiltinMro "NoneType").map (·.contains (.type "tuple")) = some false; decide +kernel)
theorem kt_bl_tuple : PySem.W.kitOne K (.type "bool") (.type "tuple") = some false := kit_ty (by decide) (by decide) (by show (fastBuiltinMro "bool").map (·.contains (.type "tuple")) = some false; decide +kernel)
theorem kt_int_tuple : PySem.W.kitOne K (.type "int") (.type "tuple") = some false := kit_ty (by decide) (by decide) (by show (fastBuiltinMro "int").map (·.contains (.type "tuple")) = some false; decide +kernel)
theorem kt_str_tuple : PySem.W.kitOne K (.type "str") (.type "tuple") = some false := kit_ty (by decide) (by decide) (by show (fastBuiltinMro "str").map (·.contains (.type "tuple")) = some false; decide +kernel)
theorem kt_lst_tuple : PySem.W.kitOne K (.type "list") (.type "tuple") = some false := kit_ty (by decide) (by decide) (by show (fastBuiltinMro "list").map (·.contains (.type "tuple")) = some false; decide +kernel)

local macro_rules | `(tactic| walk_at "evL") => `(tactic| ((with_reducible show ∃ t b, TyD _ _ t ∧ _); first
  | with_reducible refine isd .non kt_non_int ?_
  | with_reducible refine isd .bl kt_bl_int ?_
  | with_reducible refine isd .str kt_str_int ?_
  | with_reducible refine isd .tup kt_tup_int ?_
  | with_reducible refine isd .lst kt_lst_int ?_
  | with_reducible refine isd .non kt_non_bool ?_
  | with_reducible refine isd .str kt_str_bool ?_
  | with_reducible refine isd .tup kt_tup_bool ?_
  | with_reducible refine isd .lst kt_lst_bool ?_
  | with_reducible refine isd .non kt_non_str ?_
  | with_reducible refine isd .bl kt_bl_str ?_
  | with_reducible refine isd .int kt_int_str ?_
  | with_reducible refine isd .str kit_ss ?_
  | with_reducible refine isd .tup kt_tup_str ?_
  | with_reducible refine isd .lst kt_lst_str ?_
  | with_reducible refine isd .non kt_non_tuple ?_
  | with_reducible refine isd .bl kt_bl_tuple ?_
  | with_reducible refine isd .int kt_int_tuple ?_
  | with_reducible refine isd .str kt_str_tuple ?_
  | with_reducible refine isd .lst kt_lst_tuple ?_))
local macro_rules | `(tactic| walk_at "evCa") => `(tactic| ((with_reducible show EvE _ (Expr.Call (Expr.Name (Str.ofString "isinstance") _) _ _ _) _ _); first
  | with_reducible refine e_isin (Txt.isin (by assumption)) (Txt.c_int (by assumption)) ?_
  | with_reducible refine e_isin (Txt.isin (by assumption)) (Txt.c_tuple (by assumption)) ?_
  | with_reducible refine e_isin (Txt.isin (by assumption)) (Txt.c_bool (by assumption)) ?_
  | with_reducible refine e_isin (Txt.isin (by assumption)) (by assumption) ?_))

/-! what may stand in a saying -/
def PlD : EV.D → Bool
  | .non | .bl _ | .int _ | .str _ | .tup _ | .lst _ => true
  | _ => false
def isI : EV.D → Bool
  | .int _ => true
  | _ => false
def pt : Str := Str.ofString "point"
def ln : Str := Str.ofString "line"
def ci : Str := Str.ofString "circle"
def sayW : List (Str × List Str) := [("inline", [pt, pt, pt]), ("one", [ln, ln, ln]), ("on", [pt, Str.ofString "trace"]), ("aside", [ln, ln]), ("asquare", [ln, ln]), ("same", [pt, pt]), ("sameline", [ln, ln]), ("far", [pt, pt, pt, pt]), ("areas", [pt, pt, pt, pt, pt, pt]), ("ring", [pt, pt, pt, pt]), ("angles", [pt, pt, pt, pt, pt, pt]), ("evenpair", [pt, pt, pt, pt]), ("touches", [ln, ci]), ("touching", [ci, ci]), ("squareround", [ci, ci]), ("evenround", [ci, ci])]
def wordOk : EV.D → Bool
  | .str z => sayW.any fun p => p.1 == z
  | _ => false
def sayOk : EV.D → Bool
  | .tup (.str z :: ds) => match sayW.find? (fun p => p.1 == z) with
    | some p => decide (ds.length = p.2.length) && ds.all isI
    | none => false
  | _ => false
/-- a value that is handed in as a saying -/
def SayD (d : EV.D) : Prop := PlD d = true ∧ ∀ xs, d = .tup xs → xs.length ≤ 1000 ∧ ∀ x ∈ xs, PlD x = true
def Fwh : Fn := fun ds r => ∃ d, PlD d = true ∧ ds = [d] ∧ r = .ok (.va (.bl (isI d)))
theorem f_wh {d : EV.D} (h : PlD d = true) : Fwh [d] (.ok (.va (.bl (isI d)))) := ⟨d, h, rfl, rfl⟩
def Fsw : Fn := fun ds r => ∃ d, PlD d = true ∧ ds = [d] ∧ r = .ok (.va (.bl (wordOk d)))
theorem f_sw {d : EV.D} (h : PlD d = true) : Fsw [d] (.ok (.va (.bl (wordOk d)))) := ⟨d, h, rfl, rfl⟩
def Fsay : Fn := fun ds r => ∃ d, SayD d ∧ ds = [d] ∧ r = .ok (.va (.bl (sayOk d)))
theorem f_say {d : EV.D} (h : SayD d) : Fsay [d] (.ok (.va (.bl (sayOk d)))) := ⟨d, h, rfl, rfl⟩
theorem ok_wh {f : Addr} {fd : FuncData} (Fu : Fun K "is_whole" "is_whole" st_is_whole f fd) (T : Txt K mg) : FnOk P w K mg base (CXE P w) 1 f fd ["some"] (spF K Fwh) := by
  refine fn_q Fu sc_is_whole (by rintro ds r ⟨d, _, rfl, _⟩; rfl) (by rintro ds r ⟨d, _, _, rfl⟩; exact ⟨_, rfl⟩) fun c hq ds sl hF => ?_
  obtain ⟨d, hd, rfl, e⟩ := hF
  injection e with e
  subst e
  show EvSs c _ [.va d] _ _
  conv in (defBody _) => whnf
  cases d <;> first | (cases hd; done) | (walk_at "ev"; rfl)
section
local macro_rules | `(tactic| walk_at "evCm") => `(tactic| with_reducible refine e_gdin (by assumption) (by assumption) ?_)
theorem ok_sw {f S : Addr} {fd : FuncData} (Fu : Fun K "is_saying_word" "is_saying_word" st_is_saying_word f fd) (T : Txt K mg) (Ts : ClsName mg (Str.ofString "str") (.type "str")) (hm : mg (Str.ofString "SAYINGS") = some (.ref S)) (hG : GDat K w S sayW) : FnOk P w K mg base (CXE P w) 1 f fd ["word"] (spF K Fsw) := by
  refine fn_q Fu sc_is_saying_word (by rintro ds r ⟨d, _, rfl, _⟩; rfl) (by rintro ds r ⟨d, _, _, rfl⟩; exact ⟨_, rfl⟩) fun c hq ds sl hF => ?_
  obtain ⟨d, hd, rfl, e⟩ := hF
  injection e with e
  subst e
  show EvSs c _ [.va d] _ _
  conv in (defBody _) => whnf
  cases d with
  | str z =>
    walk_at "ev"
    refine ⟨z, rfl, ?_⟩
    rfl
  | _ => first | (cases hd; done) | (walk_at "ev"; rfl)
end

end



section
variable {P : Program} {w : World} {K : PySem.W.Frag} {mg : Str → Option Value} {base : Heap}
local macro_rules | `(tactic| walk_at "evL") => `(tactic| ((with_reducible show ∃ t b, TyD _ _ t ∧ _); first
  | with_reducible refine isd .non kt_non_int ?_
  | with_reducible refine isd .bl kt_bl_int ?_
  | with_reducible refine isd .str kt_str_int ?_
  | with_reducible refine isd .tup kt_tup_int ?_
  | with_reducible refine isd .lst kt_lst_int ?_
  | with_reducible refine isd .non kt_non_bool ?_
  | with_reducible refine isd .str kt_str_bool ?_
  | with_reducible refine isd .tup kt_tup_bool ?_
  | with_reducible refine isd .lst kt_lst_bool ?_
  | with_reducible refine isd .non kt_non_str ?_
  | with_reducible refine isd .bl kt_bl_str ?_
  | with_reducible refine isd .int kt_int_str ?_
  | with_reducible refine isd .str kit_ss ?_
  | with_reducible refine isd .tup kt_tup_str ?_
  | with_reducible refine isd .lst kt_lst_str ?_
  | with_reducible refine isd .non kt_non_tuple ?_
  | with_reducible refine isd .bl kt_bl_tuple ?_
  | with_reducible refine isd .int kt_int_tuple ?_
  | with_reducible refine isd .str kt_str_tuple ?_
  | with_reducible refine isd .lst kt_lst_tuple ?_))
local macro_rules | `(tactic| walk_at "evCa") => `(tactic| ((with_reducible show EvE _ (Expr.Call (Expr.Name (Str.ofString "isinstance") _) _ _ _) _ _); first
  | with_reducible refine e_isin (Txt.isin (by assumption)) (Txt.c_int (by assumption)) ?_
  | with_reducible refine e_isin (Txt.isin (by assumption)) (Txt.c_tuple (by assumption)) ?_
  | with_reducible refine e_isin (Txt.isin (by assumption)) (Txt.c_bool (by assumption)) ?_
  | with_reducible refine e_isin (Txt.isin (by assumption)) (by assumption) ?_))

theorem sayOk_no {x : EV.D} {xs : List EV.D} (h : wordOk x = false) : sayOk (.tup (x :: xs)) = false := by
  cases x with
  | str z =>
    have e : sayW.find? (fun p => p.1 == z) = none := by
      rw [List.find?_eq_none]
      intro p hp q
      have : (sayW.any fun p => p.1 == z) = true := List.any_eq_true.mpr ⟨p, hp, q⟩
      have h' : (sayW.any fun p => p.1 == z) = false := h
      rw [this] at h'; cases h'
    show (match sayW.find? (fun p => p.1 == z) with | some p => _ | none => false) = false
    rw [e]
  | _ => rfl
theorem word_yes {x : EV.D} (h : wordOk x = true) : ∃ z p, x = .str z ∧ sayW.find? (fun p => p.1 == z) = some p := by
  cases x with
  | str z =>
    have h' : (sayW.any fun p => p.1 == z) = true := h
    rw [← List.isSome_find?] at h'
    obtain ⟨p, hp⟩ := Option.isSome_iff_exists.mp h'
    exact ⟨z, p, rfl, hp⟩
  | _ => cases h
theorem sayOk_yes {z : Str} {p : Str × List Str} {xs : List EV.D} (h : sayW.find? (fun p => p.1 == z) = some p) : sayOk (.tup (.str z :: xs)) = (decide (xs.length = p.2.length) && xs.all isI) := by
  show (match sayW.find? (fun p => p.1 == z) with | some p => decide (xs.length = p.2.length) && xs.all isI | none => false) = _
  rw [h]
theorem cut_tail {α : Type} (x : α) (xs : List α) : EV.cutD (x :: xs) (some 1) none = xs := by
  unfold EV.cutD HT.sIx; simp
theorem at_hd {α : Type} (d : α) (ds : List α) : atI (d :: ds) 0 = some d := by rw [atI_pos (by decide) (by rw [List.length_cons]; lia)]; rfl
theorem all_map {xs : List EV.D} (f : EV.D → Bool) : (xs.map fun x => some (D.bl (f x))).filterMap id = (xs.map f).map D.bl := by
  rw [List.map_map]
  induction xs with
  | nil => rfl
  | cons x xs ih => exact congrArg _ ih
theorem map_at2 {α β γ : Type} {f : α → β} {g : α → γ} {L : List α} {i : Nat} {d : β} {o : γ} (hd : (L.map f)[i]? = some d) (ho : (L.map g)[i]? = some o) : ∃ x, L[i]? = some x ∧ d = f x ∧ o = g x := by
  simp only [List.getElem?_map, Option.map_eq_some_iff] at hd ho
  obtain ⟨x, hx, rfl⟩ := hd
  obtain ⟨x', hx', rfl⟩ := ho
  rw [hx] at hx'; cases hx'
  exact ⟨x, hx, rfl, rfl⟩
theorem at_map {α β : Type} {g : α → β} {L : List α} {i : Nat} {x : α} {o : β} (hx : L[i]? = some x) (ho : (L.map g)[i]? = some o) : o = g x := by
  rw [List.getElem?_map, hx] at ho
  exact (Option.some.inj ho).symm
section
local macro_rules | `(tactic| walk_at "evIx") => `(tactic| first
  | with_reducible refine e_gdix (by assumption) (by assumption) ?_)
local macro_rules | `(tactic| walk_at "evCa") => `(tactic| first
  | with_reducible refine e_call (F := Fsw) (by assumption) (by decide) ?_
  | with_reducible refine e_call (F := Fwh) (by assumption) (by decide) ?_)
theorem ok_say {f S : Addr} {fd : FuncData} (Fu : Fun K "is_saying" "is_saying" st_is_saying f fd) (T : Txt K mg) (h1 : Cal P w K mg base 1 (Str.ofString "is_saying_word") Fsw) (h2 : Cal P w K mg base 1 (Str.ofString "is_whole") Fwh) (hm : mg (Str.ofString "SAYINGS") = some (.ref S)) (hG : GDat K w S sayW) : FnOk P w K mg base (CXE P w) 2 f fd ["saying"] (spF K Fsay) := by
  refine fn_q Fu sc_is_saying (by rintro ds r ⟨d, _, rfl, _⟩; rfl) (by rintro ds r ⟨d, _, _, rfl⟩; exact ⟨_, rfl⟩) fun c hq ds sl hF => ?_
  obtain ⟨d, hd, rfl, e⟩ := hF
  injection e with e
  subst e
  show EvSs c _ [.va d] _ _
  conv in (defBody _) => whnf
  cases d with
  | tup ds =>
    obtain ⟨hl, hp⟩ := hd.2 ds rfl
    cases ds with
    | nil =>
      walk_at "ev"
      · rfl
      · rename_i h
        exact absurd rfl h
    | cons x xs =>
      walk_at "ev"
      · rename_i z
        rw [List.length_cons] at z
        lia
      refine ixp_t (at_hd _ _) ?_
      walk_at "ev"
      refine rs_ok (f_sw (hp x List.mem_cons_self)) ?_
      walk_at "ev"
      rotate_left
      · rename_i z
        rw [sayOk_no z]
      rename_i hz
      obtain ⟨z, p, rfl, hf⟩ := word_yes hz
      refine ixp_t (at_hd _ _) ?_
      walk_at "ev"
      refine ⟨z, p, rfl, hf, ?_⟩
      walk_at "ev"
      · refine e_all (Txt.all T) (e_x (x_comp hq (N' := ["number"]) (ρ0 := fun _ => [.un]) (fun t => .un .nil) (i_seq ?_)))
        walk_at "ev"
        · rw [cut_tail]
          exact Nat.le_trans (Nat.le_of_succ_le hl) (by decide)
        rw [cut_tail]
        refine ⟨xs.map fun x => some (D.bl (isI x)), by simp, ?_, fz_ow ⟨xs.map isI, ?_, ?_⟩⟩
        · intro c3 hc3 t k d o hd ho
          obtain rfl := at_map hd ho
          refine g_name (by walk_at "at") (nxt (by walk_at "sset") ⟨.un .nil, ?_⟩)
          simp only [EvC]
          refine ⟨fun _ => ?_, fun h => by cases h⟩
          walk_at "ev"
          refine rs_ok (f_wh (hp d (List.mem_cons_of_mem _ (List.mem_of_getElem? hd)))) (fz_va ?_)
          rfl
        · rw [all_map]
        · show Sl.va _ = Sl.va _
          rename_i q
          rw [List.length_cons, List.length_map] at q
          rw [sayOk_yes hf, decide_eq_true (show xs.length = p.2.length by lia), Bool.true_and, List.all_map]; rfl
      · show Sl.va _ = Sl.va _
        rename_i q
        rw [List.length_cons, List.length_map] at q
        rw [sayOk_yes hf, decide_eq_false (show ¬ xs.length = p.2.length by lia), Bool.false_and]
  | _ => first | (cases hd.1; done) | (walk_at "ev"; rfl)
end

end



section
variable {P : Program} {w : World} {K : PySem.W.Frag} {mg : Str → Option Value} {base : Heap}
local macro_rules | `(tactic| walk_at "evL") => `(tactic| ((with_reducible show ∃ t b, TyD _ _ t ∧ _); first
  | with_reducible refine isd .non kt_non_int ?_
  | with_reducible refine isd .bl kt_bl_int ?_
  | with_reducible refine isd .str kt_str_int ?_
  | with_reducible refine isd .tup kt_tup_int ?_
  | with_reducible refine isd .lst kt_lst_int ?_
  | with_reducible refine isd .non kt_non_bool ?_
  | with_reducible refine isd .str kt_str_bool ?_
  | with_reducible refine isd .tup kt_tup_bool ?_
  | with_reducible refine isd .lst kt_lst_bool ?_
  | with_reducible refine isd .non kt_non_str ?_
  | with_reducible refine isd .bl kt_bl_str ?_
  | with_reducible refine isd .int kt_int_str ?_
  | with_reducible refine isd .str kit_ss ?_
  | with_reducible refine isd .tup kt_tup_str ?_
  | with_reducible refine isd .lst kt_lst_str ?_
  | with_reducible refine isd .non kt_non_tuple ?_
  | with_reducible refine isd .bl kt_bl_tuple ?_
  | with_reducible refine isd .int kt_int_tuple ?_
  | with_reducible refine isd .str kt_str_tuple ?_
  | with_reducible refine isd .lst kt_lst_tuple ?_))
local macro_rules | `(tactic| walk_at "evCa") => `(tactic| ((with_reducible show EvE _ (Expr.Call (Expr.Name (Str.ofString "isinstance") _) _ _ _) _ _); first
  | with_reducible refine e_isin (Txt.isin (by assumption)) (Txt.c_int (by assumption)) ?_
  | with_reducible refine e_isin (Txt.isin (by assumption)) (Txt.c_tuple (by assumption)) ?_
  | with_reducible refine e_isin (Txt.isin (by assumption)) (Txt.c_bool (by assumption)) ?_
  | with_reducible refine e_isin (Txt.isin (by assumption)) (by assumption) ?_))

/-! names -/
def LET : Str := Str.ofString "abcdefghijklmnopqrstuvwxyz"
def FIG : Str := Str.ofString "0123456789"
/-- a text of few signs -/
def Shrt (z : Str) : Prop := z.length ≤ 1000 ∧ z.cps.all (· < 128) = true
def among (s z : Str) : Bool := z.cps.toList.all fun c => subS s ⟨#[c]⟩
def nameOk (z : Str) : Bool := match z.cps.toList with
  | [] => false
  | c :: _ => decide (z.length ≤ 8) && (subS LET ⟨#[c]⟩ && among (LET ++ FIG) z)
theorem nameOk_nil {z : Str} (h : z.cps.toList = []) : nameOk z = false := by unfold nameOk; rw [h]
theorem nameOk_cons {z : Str} {c : Nat} {cs : List Nat} (h : z.cps.toList = c :: cs) : nameOk z = (decide (z.length ≤ 8) && (subS LET ⟨#[c]⟩ && among (LET ++ FIG) z)) := by unfold nameOk; rw [h]
def nameD : EV.D → Bool
  | .str z => nameOk z
  | _ => false
def TxD (d : EV.D) : Prop := PlD d = true ∧ ∀ z, d = .str z → Shrt z
def Famo : Fn := fun ds r => ∃ z s, Shrt z ∧ ds = [.str z, .str s] ∧ r = .ok (.va (.bl (among s z)))
theorem f_amo {z s : Str} (h : Shrt z) : Famo [.str z, .str s] (.ok (.va (.bl (among s z)))) := ⟨z, s, h, rfl, rfl⟩
def Fnam : Fn := fun ds r => ∃ d, TxD d ∧ ds = [d] ∧ r = .ok (.va (.bl (nameD d)))
theorem f_nam {d : EV.D} (h : TxD d) : Fnam [d] (.ok (.va (.bl (nameD d)))) := ⟨d, h, rfl, rfl⟩
theorem all_map2 {α : Type} {xs : List α} (f : α → Bool) : (xs.map fun x => some (D.bl (f x))).filterMap id = (xs.map f).map D.bl := by
  rw [List.map_map]
  induction xs with
  | nil => rfl
  | cons x xs ih => exact congrArg _ ih
section
local macro_rules | `(tactic| walk_at "evCm") => `(tactic| with_reducible refine e_inStr ?_)
theorem ok_amo {f : Addr} {fd : FuncData} (Fu : Fun K "all_among" "all_among" st_all_among f fd) (T : Txt K mg) : FnOk P w K mg base (CXE P w) 1 f fd ["text", "signs"] (spF K Famo) := by
  refine fn_q Fu sc_all_among (by rintro ds r ⟨z, s, _, rfl, _⟩; rfl) (by rintro ds r ⟨z, s, _, _, rfl⟩; exact ⟨_, rfl⟩) fun c hq ds sl hF => ?_
  obtain ⟨z, s, hz, rfl, e⟩ := hF
  injection e with e
  subst e
  show EvSs c _ [.va (.str z), .va (.str s)] _ _
  conv in (defBody _) => whnf
  refine ss_cons (s_ret (x_e (e_all (Txt.all T) (e_x (x_comp hq (N' := ["sign", "signs"]) (ρ0 := fun _ => [.un, .va (.str s)]) (fun t => .un (.fr (by walk_at "at") (by walk_at "at") (by decide) rfl .nil)) (i_str ?_))))))
  walk_at "ev"
  refine ⟨z, rfl, hz.2, by rw [sgD, List.length_map]; exact Nat.le_trans (Nat.le_of_eq Array.length_toList) (Nat.le_trans hz.1 (by decide)), z.cps.toList.map fun c => some (D.bl (subS s ⟨#[c]⟩)), by simp [sgD], ?_, fz_ow ⟨z.cps.toList.map fun c => subS s ⟨#[c]⟩, ?_, ?_⟩⟩
  · intro c3 hc3 t k d o hd ho
    unfold sgD at hd
    obtain ⟨x, hx, rfl, rfl⟩ := map_at2 hd ho
    refine g_name (by walk_at "at") (nxt (by walk_at "sset") ⟨.un (.same .nil), ?_⟩)
    simp only [EvC]
    refine ⟨fun _ => ?_, fun h => by cases h⟩
    walk_at "ev"
    exact ⟨_, _, rfl, rfl, rfl⟩
  · rw [all_map2]
  · show Sl.va _ = Sl.va _
    rw [List.all_map]; rfl
end
section
local macro_rules | `(tactic| walk_at "evCm") => `(tactic| with_reducible refine e_inStr ?_)
local macro_rules | `(tactic| walk_at "evE") => `(tactic| first
  | ((with_reducible show EvE _ (Expr.Name (Str.ofString "LETTERS") _) _ _); with_reducible refine e_gstr (by assumption) ?_)
  | ((with_reducible show EvE _ (Expr.Name (Str.ofString "FIGURES") _) _ _); with_reducible refine e_gstr (by assumption) ?_)
  | ((with_reducible show EvE _ (Expr.Name (Str.ofString "LONGEST_NAME") _) _ _); with_reducible refine e_gint (by assumption) ?_))
local macro_rules | `(tactic| walk_at "evCa") => `(tactic| first
  | with_reducible refine e_call (F := Famo) (by assumption) (by decide) ?_
  | with_reducible refine e_lenS (Txt.len (by assumption)) ?_)
local macro_rules | `(tactic| walk_at "evIx") => `(tactic| with_reducible refine e_ixS ?_)
theorem ok_nam {f : Addr} {fd : FuncData} {t1 t2 t3 : Tok} (Fu : Fun K "is_name" "is_name" st_is_name f fd) (T : Txt K mg) (Ts : ClsName mg (Str.ofString "str") (.type "str")) (h1 : Cal P w K mg base 1 (Str.ofString "all_among") Famo) (hL : mg (Str.ofString "LETTERS") = some (.str LET t1)) (hF : mg (Str.ofString "FIGURES") = some (.str FIG t2)) (hN : mg (Str.ofString "LONGEST_NAME") = some (.int 8 t3)) : FnOk P w K mg base (CXE P w) 2 f fd ["some"] (spF K Fnam) := by
  refine fn_q Fu sc_is_name (by rintro ds r ⟨d, _, rfl, _⟩; rfl) (by rintro ds r ⟨d, _, _, rfl⟩; exact ⟨_, rfl⟩) fun c hq ds sl hF => ?_
  obtain ⟨d, hd, rfl, e⟩ := hF
  injection e with e
  subst e
  show EvSs c _ [.va d] _ _
  conv in (defBody _) => whnf
  cases d with
  | str z =>
    obtain ⟨hl, ha⟩ := hd.2 z rfl
    have hsz : z.length ≤ sizeLine := Nat.le_trans hl (by decide)
    have el : z.cps.toList.length = z.length := Array.length_toList
    walk_at "ev"
    refine ⟨z, rfl, Sd.mk hsz ?_⟩
    walk_at "ev"
    · rename_i h
      show Sl.va _ = Sl.va _
      rw [show nameD (.str z) = false from nameOk_nil (List.eq_nil_of_length_eq_zero (by lia))]
    obtain ⟨cc, cs, ec⟩ : ∃ cc cs, z.cps.toList = cc :: cs := by
      cases e : z.cps.toList with
      | nil => rw [e] at el; rename_i h; exact absurd el.symm (by intro q; exact h (by rw [q]; rfl))
      | cons cc cs => exact ⟨cc, cs, rfl⟩
    have nk := nameOk_cons ec
    refine ⟨z, rfl, Sd.mk hsz ?_⟩
    walk_at "ev"
    · rename_i h
      show Sl.va _ = Sl.va _
      rw [show nameD (.str z) = _ from nk, decide_eq_false (by lia), Bool.false_and]
    refine ⟨z, 0, cc, rfl, rfl, hsz, by rw [ec]; exact at_hd _ _, ?_⟩
    walk_at "ev"
    refine ⟨_, _, rfl, rfl, ?_⟩
    walk_at "ev"
    · refine AddP.str (Sd.mk (by decide) (fz_va ?_))
      walk_at "ev"
      refine rs_ok (f_amo ⟨hl, ha⟩) ?_
      walk_at "ev"
      rename_i h8 hh
      show Sl.va _ = Sl.va _
      rw [show nameD (.str z) = _ from nk, decide_eq_true (by lia), hh, Bool.true_and, Bool.true_and]
    · rename_i h8 hh
      show Sl.va _ = Sl.va _
      rw [show nameD (.str z) = _ from nk, hh, Bool.false_and, Bool.and_false]
  | _ => first | (cases hd.1; done) | (walk_at "ev"; rfl)
end

end



section
variable {P : Program} {w : World} {K : PySem.W.Frag} {mg : Str → Option Value} {base : Heap}
local macro_rules | `(tactic| walk_at "evL") => `(tactic| ((with_reducible show ∃ t b, TyD _ _ t ∧ _); first
  | with_reducible refine isd .non kt_non_int ?_
  | with_reducible refine isd .bl kt_bl_int ?_
  | with_reducible refine isd .str kt_str_int ?_
  | with_reducible refine isd .tup kt_tup_int ?_
  | with_reducible refine isd .lst kt_lst_int ?_
  | with_reducible refine isd .non kt_non_bool ?_
  | with_reducible refine isd .str kt_str_bool ?_
  | with_reducible refine isd .tup kt_tup_bool ?_
  | with_reducible refine isd .lst kt_lst_bool ?_
  | with_reducible refine isd .non kt_non_str ?_
  | with_reducible refine isd .bl kt_bl_str ?_
  | with_reducible refine isd .int kt_int_str ?_
  | with_reducible refine isd .str kit_ss ?_
  | with_reducible refine isd .tup kt_tup_str ?_
  | with_reducible refine isd .lst kt_lst_str ?_
  | with_reducible refine isd .non kt_non_tuple ?_
  | with_reducible refine isd .bl kt_bl_tuple ?_
  | with_reducible refine isd .int kt_int_tuple ?_
  | with_reducible refine isd .str kt_str_tuple ?_
  | with_reducible refine isd .lst kt_lst_tuple ?_))
local macro_rules | `(tactic| walk_at "evCa") => `(tactic| ((with_reducible show EvE _ (Expr.Call (Expr.Name (Str.ofString "isinstance") _) _ _ _) _ _); first
  | with_reducible refine e_isin (Txt.isin (by assumption)) (Txt.c_int (by assumption)) ?_
  | with_reducible refine e_isin (Txt.isin (by assumption)) (Txt.c_tuple (by assumption)) ?_
  | with_reducible refine e_isin (Txt.isin (by assumption)) (Txt.c_bool (by assumption)) ?_
  | with_reducible refine e_isin (Txt.isin (by assumption)) (by assumption) ?_))

/-! look_names, shown_saying -/
def prN : EV.D → Key × EV.D
  | .str z => (.inr z, .bl true)
  | _ => (.inl 0, .bl true)
def dLen (ns : List EV.D) : Nat := (mergeD [] (ns.map prN)).length
def namesOk (ns : List EV.D) : Bool := ns.all nameD && decide (dLen ns = ns.length)
def NmsD (ns : List EV.D) : Prop := ns.length ≤ 1000 ∧ ∀ n ∈ ns, TxD n
def Flk : Fn := fun ds r => ∃ ns, NmsD ns ∧ namesOk ns = true ∧ ds = [.lst ns] ∧ r = .ok (.va .non)
theorem f_lk {ns : List EV.D} (h : NmsD ns) (e : namesOk ns = true) : Flk [.lst ns] (.ok (.va .non)) := ⟨ns, h, e, rfl, rfl⟩
theorem name_pr {n : EV.D} (h : nameD n = true) : prD (prN n) = .tup [n, .bl true] := by
  cases n with
  | str z => rfl
  | _ => cases h
theorem some_map' {α : Type} (f : α → EV.D) : ∀ L : List α, (L.map fun x => some (f x)).filterMap id = L.map f
  | [] => rfl
  | x :: L => congrArg _ (some_map' f L)
section
local macro_rules | `(tactic| walk_at "evCa") => `(tactic| first
  | with_reducible refine e_call (F := Fnam) (by assumption) (by decide) ?_
  | ((with_reducible show EvE _ (Expr.Call (Expr.Name (Str.ofString "len") _) [Expr.Call (Expr.Name (Str.ofString "dict") _) _ _ _] _ _) _ _); with_reducible refine e_lenD (Txt.len (by assumption)) (x_dictL (Txt.dict (by assumption)) ?_)))
theorem ok_look {f : Addr} {fd : FuncData} (Fu : Fun K "look_names" "look_names" st_look_names f fd) (T : Txt K mg) (h1 : Cal P w K mg base 2 (Str.ofString "is_name") Fnam) : FnOk P w K mg base (CXE P w) 3 f fd ["names"] (spF K Flk) := by
  refine fn_q Fu sc_look_names (by rintro ds r ⟨ns, _, _, rfl, _⟩; rfl) (by rintro ds r ⟨ns, _, _, _, rfl⟩; exact ⟨_, rfl⟩) fun c hq ds sl hF => ?_
  obtain ⟨ns, hn, hok, rfl, e⟩ := hF
  injection e with e
  subst e
  show EvSs c _ [.va (.lst ns)] _ _
  conv in (defBody _) => whnf
  have hl : ns.length ≤ sizeLine := Nat.le_trans hn.1 (by decide)
  unfold namesOk at hok
  rw [Bool.and_eq_true] at hok
  obtain ⟨hall, hdl⟩ := hok
  have hdl := of_decide_eq_true hdl
  walk_at "nx"
  refine e_all (Txt.all T) (e_x (x_comp hq (N' := ["name"]) (ρ0 := fun _ => [.un]) (fun t => .un .nil) (i_seq ?_)))
  walk_at "ev"
  refine ⟨ns.map fun x => some (D.bl (nameD x)), by simp, ?_, fz_ow ⟨ns.map nameD, ?_, ?_⟩⟩
  · intro c3 hc3 t k d o hd ho
    obtain rfl := at_map hd ho
    refine g_name (by walk_at "at") (nxt (by walk_at "sset") ⟨.un .nil, ?_⟩)
    simp only [EvC]
    refine ⟨fun _ => ?_, fun h => by cases h⟩
    walk_at "ev"
    refine rs_ok (f_nam (hn.2 d (List.mem_of_getElem? hd))) (fz_va ?_)
    rfl
  · rw [all_map2]
  have ea : (ns.map nameD).all id = true := by rw [List.all_map]; exact hall
  rw [ea]
  walk_at "ev"
  refine e_x (x_comp hq (N' := ["name"]) (ρ0 := fun _ => [.un]) (fun t => .un .nil) (i_seq ?_))
  walk_at "ev"
  refine ⟨ns.map fun x => some (prD (prN x)), by simp, ?_, fz_ow ⟨ns.map prN, ?_, Sd.mk (by rw [List.length_map]; exact hl) ⟨_, rfl, ?_⟩⟩⟩
  · intro c3 hc3 t k d o hd ho
    obtain rfl := at_map hd ho
    refine g_name (by walk_at "at") (nxt (by walk_at "sset") ⟨.un .nil, ?_⟩)
    simp only [EvC]
    refine ⟨fun _ => ?_, fun h => by cases h⟩
    walk_at "ev"
    rw [name_pr (List.all_eq_true.mp hall d (List.mem_of_getElem? hd))]
  · rw [some_map', List.map_map]; rfl
  walk_at "ev"
  · walk_at "sb"
    exact ss_nil rfl
  · rename_i hne
    exact absurd (show ((mergeD [] (ns.map prN)).length : Int) = ns.length by rw [show (mergeD [] (ns.map prN)).length = ns.length from hdl]) hne
end

end



section
variable {P : Program} {w : World} {K : PySem.W.Frag} {mg : Str → Option Value} {base : Heap}
local macro_rules | `(tactic| walk_at "evL") => `(tactic| ((with_reducible show ∃ t b, TyD _ _ t ∧ _); first
  | with_reducible refine isd .non kt_non_int ?_
  | with_reducible refine isd .bl kt_bl_int ?_
  | with_reducible refine isd .str kt_str_int ?_
  | with_reducible refine isd .tup kt_tup_int ?_
  | with_reducible refine isd .lst kt_lst_int ?_
  | with_reducible refine isd .non kt_non_bool ?_
  | with_reducible refine isd .str kt_str_bool ?_
  | with_reducible refine isd .tup kt_tup_bool ?_
  | with_reducible refine isd .lst kt_lst_bool ?_
  | with_reducible refine isd .non kt_non_str ?_
  | with_reducible refine isd .bl kt_bl_str ?_
  | with_reducible refine isd .int kt_int_str ?_
  | with_reducible refine isd .str kit_ss ?_
  | with_reducible refine isd .tup kt_tup_str ?_
  | with_reducible refine isd .lst kt_lst_str ?_
  | with_reducible refine isd .non kt_non_tuple ?_
  | with_reducible refine isd .bl kt_bl_tuple ?_
  | with_reducible refine isd .int kt_int_tuple ?_
  | with_reducible refine isd .str kt_str_tuple ?_
  | with_reducible refine isd .lst kt_lst_tuple ?_))
local macro_rules | `(tactic| walk_at "evCa") => `(tactic| ((with_reducible show EvE _ (Expr.Call (Expr.Name (Str.ofString "isinstance") _) _ _ _) _ _); first
  | with_reducible refine e_isin (Txt.isin (by assumption)) (Txt.c_int (by assumption)) ?_
  | with_reducible refine e_isin (Txt.isin (by assumption)) (Txt.c_tuple (by assumption)) ?_
  | with_reducible refine e_isin (Txt.isin (by assumption)) (Txt.c_bool (by assumption)) ?_
  | with_reducible refine e_isin (Txt.isin (by assumption)) (by assumption) ?_))

/-! shown_saying -/
theorem sz9 {n : Nat} (h : n ≤ 1000000) : n ≤ sizeLine := Nat.le_trans h (by decide)
def nmAt (ns : List EV.D) (x : EV.D) : Str := match x with
  | .int i => match ns.getD i.toNat .non with
    | .str s => s
    | _ => Str.ofString ""
  | _ => Str.ofString ""
theorem sayW_len : ∀ p ∈ sayW, p.1.length ≤ 11 := by decide +kernel
theorem ints_of : ∀ {xs : List EV.D}, xs.all isI = true → ∃ is : List Int, xs = is.map D.int
  | [], _ => ⟨[], rfl⟩
  | x :: xs, h => by
    rw [List.all_cons, Bool.and_eq_true] at h
    obtain ⟨is, rfl⟩ := ints_of h.2
    cases x with
    | int i => exact ⟨i :: is, rfl⟩
    | _ => cases h.1
theorem say_shape {d : EV.D} (h : sayOk d = true) : ∃ (z : Str) (is : List Int), d = .tup (.str z :: is.map D.int) ∧ z.length ≤ 11 := by
  cases d with
  | tup ds =>
    cases ds with
    | nil => cases h
    | cons x xs =>
      by_cases hx : wordOk x = true
      · obtain ⟨z, p, rfl, hp⟩ := word_yes hx
        rw [sayOk_yes hp, Bool.and_eq_true] at h
        obtain ⟨is, rfl⟩ := ints_of h.2
        have he : p.1 = z := by simpa using List.find?_some hp
        exact ⟨z, is, rfl, by rw [← he]; exact sayW_len p (List.mem_of_find?_eq_some hp)⟩
      · rw [sayOk_no (by simpa using hx)] at h; cases h
  | _ => cases h
theorem nmAt_eq {ns : List EV.D} {i : Int} {s : Str} (e : ns.getD i.toNat .non = .str s) : nmAt ns (.int i) = s := by
  show (match ns.getD i.toNat .non with | .str s => s | _ => Str.ofString "") = s
  rw [e]
theorem name_len {s : Str} (h : nameOk s = true) : s.length ≤ 8 := by
  cases e : s.cps.toList with
  | nil => rw [nameOk_nil e] at h; cases h
  | cons c cs =>
    rw [nameOk_cons e, Bool.and_eq_true] at h
    exact of_decide_eq_true h.1
theorem names_txt {ns : List EV.D} (h : namesOk ns = true) {i : Int} (h0 : 0 ≤ i) (h1 : i < ns.length) : ∃ s, atI ns i = some (.str s) ∧ nmAt ns (.int i) = s ∧ s.length ≤ 8 := by
  unfold namesOk at h
  rw [Bool.and_eq_true] at h
  have hi : i.toNat < ns.length := by lia
  have hm := List.all_eq_true.mp h.1 ns[i.toNat] (List.getElem_mem hi)
  have eg : ns.getD i.toNat .non = ns[i.toNat] := by rw [List.getD_eq_getElem?_getD, List.getElem?_eq_getElem hi]; rfl
  rw [atI_pos h0 h1, List.getElem?_eq_getElem hi]
  cases e : ns[i.toNat] with
  | str s =>
    rw [e] at hm
    exact ⟨s, rfl, nmAt_eq (eg.trans e), name_len hm⟩
  | _ => rw [e] at hm; cases hm
def shT (z : Str) (is : List Int) (ns : List EV.D) : Str := PySem.Txt.join (Str.ofString " ") (z :: is.map fun i => nmAt ns (.int i))
structure ShOk (z : Str) (is : List Int) (ns : List EV.D) : Prop where
  s : sayOk (.tup (.str z :: is.map D.int)) = true
  l : is.length ≤ 6
  n : NmsD ns
  o : namesOk ns = true
  i : ∀ i ∈ is, 0 ≤ i ∧ i < ns.length
def Fsh : Fn := fun ds r => ∃ z is ns, ShOk z is ns ∧ ds = [.tup (.str z :: is.map D.int), .lst ns] ∧ r = .ok (.va (.str (shT z is ns)))
theorem f_sh {z : Str} {is : List Int} {ns : List EV.D} (h : ShOk z is ns) : Fsh [.tup (.str z :: is.map D.int), .lst ns] (.ok (.va (.str (shT z is ns)))) := ⟨z, is, ns, h, rfl, rfl⟩
theorem sh_word {z : Str} {is : List Int} {ns : List EV.D} (h : ShOk z is ns) : z.length ≤ 11 := by
  obtain ⟨z', is', e, hz⟩ := say_shape h.s
  injection e with e
  injection e with e1 e2
  injection e1 with e1
  subst e1; exact hz
/-- the texts that are joined are short -/
theorem sh_sum {z : Str} {is : List Int} {ns : List EV.D} (h : ShOk z is ns) : sumL (z :: is.map fun i => nmAt ns (.int i)) + (z :: is.map fun i => nmAt ns (.int i)).length * 1 ≤ 100 := by
  have h1 : ∀ x ∈ (z :: is.map fun i => nmAt ns (.int i)), x.length ≤ 11 := fun x hx => by
    rcases List.mem_cons.mp hx with rfl | hx
    · exact sh_word h
    · obtain ⟨i, hi, rfl⟩ := List.mem_map.mp hx
      obtain ⟨s, e1, e2, e3⟩ := names_txt h.o (h.i i hi).1 (h.i i hi).2
      rw [e2]; lia
  have h2 := sumL_le h1
  have h3 : (z :: is.map fun i => nmAt ns (.int i)).length ≤ 7 := by rw [List.length_cons, List.length_map]; have := h.l; lia
  lia
section
local macro_rules | `(tactic| walk_at "evCa") => `(tactic| first
  | with_reducible refine e_call (F := Fsay) (by assumption) (by decide) ?_
  | with_reducible refine e_call (F := Flk) (by assumption) (by decide) ?_)
local macro_rules | `(tactic| walk_at "evXp") => `(tactic| with_reducible refine s_expr ?_)
local macro_rules | `(tactic| walk_at "evCm") => `(tactic| with_reducible refine e_chainI ?_)
theorem ok_show {f : Addr} {fd : FuncData} (Fu : Fun K "shown_saying" "shown_saying" st_shown_saying f fd) (T : Txt K mg) (h1 : Cal P w K mg base 2 (Str.ofString "is_saying") Fsay) (h2 : Cal P w K mg base 3 (Str.ofString "look_names") Flk) : FnOk P w K mg base (CXE P w) 4 f fd ["saying", "names"] (spF K Fsh) := by
  refine fn_q Fu sc_shown_saying (by rintro ds r ⟨z, is, ns, _, rfl, _⟩; rfl) (by rintro ds r ⟨z, is, ns, _, _, rfl⟩; exact ⟨_, rfl⟩) fun c hq ds sl hF => ?_
  obtain ⟨z, is, ns, hs, rfl, e⟩ := hF
  injection e with e
  subst e
  show EvSs c _ [.va (.tup (.str z :: is.map D.int)), .va (.lst ns)] _ _
  conv in (defBody _) => whnf
  have hn := hs.n
  have hl : ns.length ≤ sizeLine := Nat.le_trans hn.1 (by decide)
  have h6 := hs.l
  have hd : SayD (.tup (.str z :: is.map D.int)) := ⟨rfl, fun xs e => by
    cases e
    refine ⟨by rw [List.length_cons, List.length_map]; lia, fun x hx => ?_⟩
    rcases List.mem_cons.mp hx with rfl | hx
    · rfl
    · obtain ⟨i, _, rfl⟩ := List.mem_map.mp hx; rfl⟩
  walk_at "nx"
  refine rs_ok (f_say hd) ?_
  rw [hs.s]
  walk_at "ev"
  walk_at "sb"
  walk_at "nx"
  refine rs_ok (f_lk hn hs.o) (fz_va ?_)
  walk_at "sb"
  walk_at "nx"
  refine e_all (Txt.all T) (e_x (x_comp hq (N' := ["number", "names"]) (ρ0 := fun _ => [.un, .va (.lst ns)]) (fun t => .un (.fr (by walk_at "at") (by walk_at "at") (by decide) rfl .nil)) (i_seq ?_)))
  walk_at "ev"
  · rw [cut_tail, List.length_map]
    exact Nat.le_trans h6 (by decide)
  rw [cut_tail]
  refine ⟨is.map fun i => some (D.bl true), by simp, ?_, fz_ow ⟨is.map fun i => true, ?_, ?_⟩⟩
  · intro c3 hc3 t k d o hd ho
    obtain ⟨x, hx, rfl, rfl⟩ := map_at2 hd ho
    obtain ⟨i0, i1⟩ := hs.i x (List.mem_of_getElem? hx)
    refine g_name (by walk_at "at") (nxt (by walk_at "sset") ⟨.un (.same .nil), ?_⟩)
    simp only [EvC]
    refine ⟨fun _ => ?_, fun h => by cases h⟩
    walk_at "ev"
    refine ⟨fun h0 => ?_, fun h0 => absurd i0 h0⟩
    walk_at "ev"
    refine ⟨_, rfl, ?_⟩
    rw [decide_eq_true i1]
  · rw [some_map', List.map_map]; rfl
  have ea : (is.map fun _ => true).all id = true := by rw [List.all_eq_true]; intro x hx; obtain ⟨_, _, rfl⟩ := List.mem_map.mp hx; rfl
  rw [ea]
  walk_at "ev"
  walk_at "sb"
  refine ss_cons (s_ret (x_e (e_joinS ?_)))
  walk_at "ev"
  refine ixp_t (at_hd _ _) ?_
  walk_at "ev"
  refine e_x (x_comp hq (N' := ["number", "names"]) (ρ0 := fun _ => [.un, .va (.lst ns)]) (fun t => .un (.fr (by walk_at "at") (by walk_at "at") (by decide) rfl .nil)) (i_seq ?_))
  walk_at "ev"
  · rw [cut_tail, List.length_map]
    exact Nat.le_trans h6 (by decide)
  rw [cut_tail]
  refine ⟨is.map fun i => some (D.str (nmAt ns (.int i))), by simp, ?_, fz_ow ?_⟩
  · intro c3 hc3 t k d o hd ho
    obtain ⟨x, hx, rfl, rfl⟩ := map_at2 hd ho
    refine g_name (by walk_at "at") (nxt (by walk_at "sset") ⟨.un (.same .nil), ?_⟩)
    simp only [EvC]
    refine ⟨fun _ => ?_, fun h => by cases h⟩
    obtain ⟨h0, h1⟩ := hs.i x (List.mem_of_getElem? hx)
    obtain ⟨s, e1, e2, e3⟩ := names_txt hs.o h0 h1
    walk_at "ev"
    refine ixp_l e1 ?_
    rw [e2]
  rw [some_map']
  walk_at "ev"
  · rw [List.length_map]
    exact sz9 (by show 1 + is.length ≤ 1000000; lia)
  refine ⟨z :: is.map fun i => nmAt ns (.int i), by rw [List.map_cons, List.map_map]; rfl, Sd.mk ?_ rfl⟩
  have := sh_sum hs
  exact Nat.le_trans this (by decide)
end

end



section
variable {P : Program} {w : World} {K : PySem.W.Frag} {mg : Str → Option Value} {base : Heap}
local macro_rules | `(tactic| walk_at "evL") => `(tactic| ((with_reducible show ∃ t b, TyD _ _ t ∧ _); first
  | with_reducible refine isd .non kt_non_int ?_
  | with_reducible refine isd .bl kt_bl_int ?_
  | with_reducible refine isd .str kt_str_int ?_
  | with_reducible refine isd .tup kt_tup_int ?_
  | with_reducible refine isd .lst kt_lst_int ?_
  | with_reducible refine isd .non kt_non_bool ?_
  | with_reducible refine isd .str kt_str_bool ?_
  | with_reducible refine isd .tup kt_tup_bool ?_
  | with_reducible refine isd .lst kt_lst_bool ?_
  | with_reducible refine isd .non kt_non_str ?_
  | with_reducible refine isd .bl kt_bl_str ?_
  | with_reducible refine isd .int kt_int_str ?_
  | with_reducible refine isd .str kit_ss ?_
  | with_reducible refine isd .tup kt_tup_str ?_
  | with_reducible refine isd .lst kt_lst_str ?_
  | with_reducible refine isd .non kt_non_tuple ?_
  | with_reducible refine isd .bl kt_bl_tuple ?_
  | with_reducible refine isd .int kt_int_tuple ?_
  | with_reducible refine isd .str kt_str_tuple ?_
  | with_reducible refine isd .lst kt_lst_tuple ?_))
local macro_rules | `(tactic| walk_at "evCa") => `(tactic| ((with_reducible show EvE _ (Expr.Call (Expr.Name (Str.ofString "isinstance") _) _ _ _) _ _); first
  | with_reducible refine e_isin (Txt.isin (by assumption)) (Txt.c_int (by assumption)) ?_
  | with_reducible refine e_isin (Txt.isin (by assumption)) (Txt.c_tuple (by assumption)) ?_
  | with_reducible refine e_isin (Txt.isin (by assumption)) (Txt.c_bool (by assumption)) ?_
  | with_reducible refine e_isin (Txt.isin (by assumption)) (by assumption) ?_))

/-! numbers_by -/
def nbL (zs : List Str) : List (Key × EV.D) := zs.zipIdx.map fun x => (.inr x.1, .int x.2)
def Fnb : Fn := fun ds r => ∃ zs : List Str, zs.length ≤ 1000 ∧ ds = [.lst (zs.map D.str)] ∧ r = .ok (.oK (mergeD [] (nbL zs)))
theorem f_nb {zs : List Str} (h : zs.length ≤ 1000) : Fnb [.lst (zs.map D.str)] (.ok (.oK (mergeD [] (nbL zs)))) := ⟨zs, h, rfl, rfl⟩
theorem ok_nb {f : Addr} {fd : FuncData} (Fu : Fun K "numbers_by" "numbers_by" st_numbers_by f fd) (T : Txt K mg) : FnOk P w K mg base (CXE P w) 1 f fd ["names"] (spF K Fnb) := by
  refine fn_q Fu sc_numbers_by (by rintro ds r ⟨zs, _, rfl, _⟩; rfl) (by rintro ds r ⟨zs, _, _, rfl⟩; exact ⟨_, rfl⟩) fun c hq ds sl hF => ?_
  obtain ⟨zs, hl, rfl, e⟩ := hF
  injection e with e
  subst e
  show EvSs c _ [.va (.lst (zs.map D.str))] _ _
  conv in (defBody _) => whnf
  refine ss_cons (s_ret (x_dictL (Txt.dict T) (e_x (x_comp hq (N' := ["number", "name"]) (ρ0 := fun _ => [.un, .un]) (fun t => .un (.un .nil)) (i_enumL (Txt.enum T) ?_)))))
  walk_at "ev"
  have eE : enumD (zs.map D.str) = zs.zipIdx.map fun x => D.tup [.int x.2, .str x.1] := by
    unfold enumD
    rw [List.zipIdx_map, List.map_map]; rfl
  refine ⟨_, rfl, Sd.mk (by rw [eE, List.length_map, List.length_zipIdx]; exact Nat.le_trans hl (by decide)) ⟨(nbL zs).map fun x => some (prD x), by rw [eE]; unfold nbL; simp, ?_, fz_ow ⟨nbL zs, ?_, Sd.mk (by unfold nbL; rw [List.length_map, List.length_zipIdx]; exact Nat.le_trans hl (by decide)) rfl⟩⟩⟩
  · intro c3 hc3 t k d o hd ho
    rw [eE] at hd
    unfold nbL at ho
    rw [List.map_map] at ho
    obtain ⟨x, hx, rfl, rfl⟩ := map_at2 hd ho
    refine g_tup rfl (by with_unfolding_all rfl) ?_
    walk_at "ev"
    refine ⟨.un (.un .nil), ?_⟩
    simp only [EvC]
    refine ⟨fun _ => ?_, fun h => by cases h⟩
    walk_at "ev"
    rfl
  · rw [some_map']

end



section
variable {P : Program} {w : World} {K : PySem.W.Frag} {mg : Str → Option Value} {base : Heap}
local macro_rules | `(tactic| walk_at "evL") => `(tactic| ((with_reducible show ∃ t b, TyD _ _ t ∧ _); first
  | with_reducible refine isd .non kt_non_int ?_
  | with_reducible refine isd .bl kt_bl_int ?_
  | with_reducible refine isd .str kt_str_int ?_
  | with_reducible refine isd .tup kt_tup_int ?_
  | with_reducible refine isd .lst kt_lst_int ?_
  | with_reducible refine isd .non kt_non_bool ?_
  | with_reducible refine isd .str kt_str_bool ?_
  | with_reducible refine isd .tup kt_tup_bool ?_
  | with_reducible refine isd .lst kt_lst_bool ?_
  | with_reducible refine isd .non kt_non_str ?_
  | with_reducible refine isd .bl kt_bl_str ?_
  | with_reducible refine isd .int kt_int_str ?_
  | with_reducible refine isd .str kit_ss ?_
  | with_reducible refine isd .tup kt_tup_str ?_
  | with_reducible refine isd .lst kt_lst_str ?_
  | with_reducible refine isd .non kt_non_tuple ?_
  | with_reducible refine isd .bl kt_bl_tuple ?_
  | with_reducible refine isd .int kt_int_tuple ?_
  | with_reducible refine isd .str kt_str_tuple ?_
  | with_reducible refine isd .lst kt_lst_tuple ?_))
local macro_rules | `(tactic| walk_at "evCa") => `(tactic| ((with_reducible show EvE _ (Expr.Call (Expr.Name (Str.ofString "isinstance") _) _ _ _) _ _); first
  | with_reducible refine e_isin (Txt.isin (by assumption)) (Txt.c_int (by assumption)) ?_
  | with_reducible refine e_isin (Txt.isin (by assumption)) (Txt.c_tuple (by assumption)) ?_
  | with_reducible refine e_isin (Txt.isin (by assumption)) (Txt.c_bool (by assumption)) ?_
  | with_reducible refine e_isin (Txt.isin (by assumption)) (by assumption) ?_))

/-! cells -/
def cellA (ns : List Int) (k : Int) : Int := ns.getD k.toNat 0
def mixF (c k : Int) : Int :=
  (c % 2147483647 * 48271 + k * 69621 + 11) % 2147483647 * ((c % 2147483647 * 48271 + k * 69621 + 11) % 2147483647) % 2147483629 * ((c % 2147483647 * 48271 + k * 69621 + 11) % 2147483647 * ((c % 2147483647 * 48271 + k * 69621 + 11) % 2147483647) % 2147483629) % 2147483587
def restF (ns : List Int) (k : Int) : Int := if (10 : Int) ^ Int.toNat 18 ≤ (if cellA ns k < 0 then -cellA ns k else cellA ns k) then cellA ns k else mixF (cellA ns k) k + mixF (cellA ns k) (k + 500) * 2147483587 + mixF (cellA ns k) (k + 900) * 2147483587 * 2147483587
def Fcat : Fn := fun ds r => ∃ (ns : List Int) (k : Int), 0 ≤ k ∧ ns.length ≤ 63 ∧ ds = [.lst (ns.map D.int), .int k] ∧ r = .ok (.va (.int (cellA ns k)))
theorem f_cat {ns : List Int} {k : Int} (h : 0 ≤ k) (hl : ns.length ≤ 63) : Fcat [.lst (ns.map D.int), .int k] (.ok (.va (.int (cellA ns k)))) := ⟨ns, k, h, hl, rfl, rfl⟩
def Fmix : Fn := fun ds r => ∃ c k : Int, k.natAbs < 2 ^ 62 ∧ ds = [.int c, .int k] ∧ r = .ok (.va (.int (mixF c k)))
theorem f_mix (c : Int) {k : Int} (h : k.natAbs < 2 ^ 62) : Fmix [.int c, .int k] (.ok (.va (.int (mixF c k)))) := ⟨c, k, h, rfl, rfl⟩
theorem md_lt {x m : Int} (h0 : 0 < m) (h : m < 2 ^ 32) : (x % m).natAbs < 2 ^ 32 := by
  have h1 := Int.emod_nonneg x (Int.ne_of_gt h0)
  have h2 := Int.emod_lt_of_pos x h0
  lia
theorem md_ok {x m b : Int} (h0 : 0 < m) (h : m < 2 ^ 32) : EV.MulOk (x % m) b := mul_l (Nat.lt_trans (md_lt h0 h) (by decide))
theorem mix_lt (c k : Int) : 0 ≤ mixF c k ∧ mixF c k < 2147483587 := by
  unfold mixF
  exact ⟨Int.emod_nonneg _ (by decide), Int.emod_lt_of_pos _ (by decide)⟩
def Frest : Fn := fun ds r => ∃ (ns : List Int) (k : Int), (0 ≤ k ∧ k ≤ 1000) ∧ ns.length ≤ 63 ∧ ds = [.lst (ns.map D.int), .int k] ∧ r = .ok (.va (.int (restF ns k)))
theorem f_rest {ns : List Int} {k : Int} (h : 0 ≤ k ∧ k ≤ 1000) (hl : ns.length ≤ 63) : Frest [.lst (ns.map D.int), .int k] (.ok (.va (.int (restF ns k)))) := ⟨ns, k, h, hl, rfl, rfl⟩
theorem at_ints {ns : List Int} {k : Int} (h0 : 0 ≤ k) (h1 : k < ns.length) : atI (ns.map D.int) k = some (.int (cellA ns k)) := by
  have hk : k.toNat < ns.length := by lia
  rw [atI_pos h0 (by rw [List.length_map]; exact h1), List.getElem?_map, List.getElem?_eq_getElem hk]
  unfold cellA
  rw [List.getD_eq_getElem?_getD, List.getElem?_eq_getElem hk]; rfl
theorem ok_cat {f : Addr} {fd : FuncData} (Fu : Fun K "_law_cell_at" "_law_cell_at" st_l_cell_at f fd) (T : Txt K mg) : FnOk P w K mg base (CXE P w) 1 f fd ["_law_script", "_law_k"] (spF K Fcat) := by
  refine fn_q Fu sc_l_cell_at (by rintro ds r ⟨ns, k, _, _, rfl, _⟩; rfl) (by rintro ds r ⟨ns, k, _, _, _, rfl⟩; exact ⟨_, rfl⟩) fun c hq ds sl hF => ?_
  obtain ⟨ns, k, h0, hl, rfl, e⟩ := hF
  injection e with e
  subst e
  show EvSs c _ [.va (.lst (ns.map D.int)), .va (.int k)] _ _
  conv in (defBody _) => whnf
  walk_at "ev"
  · rename_i h
    rw [List.length_map] at h
    refine ixp_l (at_ints h0 h) ?_
    rfl
  · rename_i h
    rw [List.length_map] at h
    show Sl.va _ = Sl.va _
    unfold cellA
    rw [List.getD_eq_getElem?_getD, List.getElem?_eq_none (by lia)]; rfl
theorem ok_mix {f : Addr} {fd : FuncData} (Fu : Fun K "_law_mixed" "_law_mixed" st_l_mixed f fd) : FnOk P w K mg base (CXE P w) 1 f fd ["_law_cell", "_law_k"] (spF K Fmix) := by
  refine fn_q Fu sc_l_mixed (by rintro ds r ⟨c, k, _, rfl, _⟩; rfl) (by rintro ds r ⟨c, k, _, _, rfl⟩; exact ⟨_, rfl⟩) fun c hq ds sl hF => ?_
  obtain ⟨x, k, hk, rfl, e⟩ := hF
  injection e with e
  subst e
  show EvSs c _ [.va (.int x), .va (.int k), .un] _ _
  conv in (defBody _) => whnf
  walk_at "ev"
  · exact md_ok (by decide) (by decide)
  · exact mul_l (Nat.lt_trans hk (by decide))
  · exact md_ok (by decide) (by decide)
  · exact md_ok (by decide) (by decide)
  rfl
section
local macro_rules | `(tactic| walk_at "evCa") => `(tactic| first
  | with_reducible refine e_call (F := Fcat) (by assumption) (by decide) ?_
  | with_reducible refine e_call (F := Fmix) (by assumption) (by decide) ?_)
local macro_rules | `(tactic| walk_at "evR") => `(tactic| first
  | with_reducible refine rs_ok (f_cat (by assumption) (by assumption)) ?_
)
theorem ok_rest {f : Addr} {fd : FuncData} (Fu : Fun K "_law_rest" "_law_rest" st_l_rest f fd) (T : Txt K mg) (h1 : Cal P w K mg base 1 (Str.ofString "_law_cell_at") Fcat) (h2 : Cal P w K mg base 1 (Str.ofString "_law_mixed") Fmix) : FnOk P w K mg base (CXE P w) 2 f fd ["_law_script", "_law_k"] (spF K Frest) := by
  refine fn_q Fu sc_l_rest (by rintro ds r ⟨ns, k, _, _, rfl, _⟩; rfl) (by rintro ds r ⟨ns, k, _, _, _, rfl⟩; exact ⟨_, rfl⟩) fun c hq ds sl hF => ?_
  obtain ⟨ns, k, ⟨h0, h9⟩, hl, rfl, e⟩ := hF
  injection e with e
  subst e
  show EvSs c _ [.va (.lst (ns.map D.int)), .va (.int k), .un, .un] _ _
  conv in (defBody _) => whnf
  walk_at "ev"
  · exact ⟨by decide, by decide, by decide +kernel⟩
  · rename_i h
    show Sl.va _ = Sl.va _
    unfold restF
    rw [if_pos h]
  rename_i h
  refine rs_ok (f_mix _ (by lia)) ?_
  walk_at "ev"
  refine rs_ok (f_mix _ (by lia)) ?_
  walk_at "ev"
  · have := mix_lt (cellA ns k) (k + 500)
    exact mul_l (by lia)
  refine rs_ok (f_mix _ (by lia)) ?_
  walk_at "ev"
  · have := mix_lt (cellA ns k) (k + 900)
    exact mul_l (by lia)
  · have := mix_lt (cellA ns k) (k + 900)
    exact mul_l (by lia)
  show Sl.va _ = Sl.va _
  unfold restF
  rw [if_neg h]
end

end



section
variable {P : Program} {w : World} {K : PySem.W.Frag} {mg : Str → Option Value} {base : Heap}
local macro_rules | `(tactic| walk_at "evL") => `(tactic| ((with_reducible show ∃ t b, TyD _ _ t ∧ _); first
  | with_reducible refine isd .non kt_non_int ?_
  | with_reducible refine isd .bl kt_bl_int ?_
  | with_reducible refine isd .str kt_str_int ?_
  | with_reducible refine isd .tup kt_tup_int ?_
  | with_reducible refine isd .lst kt_lst_int ?_
  | with_reducible refine isd .non kt_non_bool ?_
  | with_reducible refine isd .str kt_str_bool ?_
  | with_reducible refine isd .tup kt_tup_bool ?_
  | with_reducible refine isd .lst kt_lst_bool ?_
  | with_reducible refine isd .non kt_non_str ?_
  | with_reducible refine isd .bl kt_bl_str ?_
  | with_reducible refine isd .int kt_int_str ?_
  | with_reducible refine isd .str kit_ss ?_
  | with_reducible refine isd .tup kt_tup_str ?_
  | with_reducible refine isd .lst kt_lst_str ?_
  | with_reducible refine isd .non kt_non_tuple ?_
  | with_reducible refine isd .bl kt_bl_tuple ?_
  | with_reducible refine isd .int kt_int_tuple ?_
  | with_reducible refine isd .str kt_str_tuple ?_
  | with_reducible refine isd .lst kt_lst_tuple ?_))
local macro_rules | `(tactic| walk_at "evCa") => `(tactic| ((with_reducible show EvE _ (Expr.Call (Expr.Name (Str.ofString "isinstance") _) _ _ _) _ _); first
  | with_reducible refine e_isin (Txt.isin (by assumption)) (Txt.c_int (by assumption)) ?_
  | with_reducible refine e_isin (Txt.isin (by assumption)) (Txt.c_tuple (by assumption)) ?_
  | with_reducible refine e_isin (Txt.isin (by assumption)) (Txt.c_bool (by assumption)) ?_
  | with_reducible refine e_isin (Txt.isin (by assumption)) (by assumption) ?_))

/-! names -/
def wrds : List Str := ["ask", "bound", "curve", "draw", "even", "free", "gone", "height", "inline", "joined", "known", "line", "meet", "new", "on", "paper", "quick", "round3", "same", "told", "undo", "vast", "way", "xyz"]
def sgs : Str := Str.ofString "abcdefghijklmnopqrstuvwxyz0123456789"
def sg (i : Int) : Str := ⟨#[sgs.cps.toList.getD i.toNat 0]⟩
def nmJ (r : Int) (k : Nat) : Nat → Str
  | 0 => sg k
  | j + 1 => nmJ r k j ++ sg (r / (16 + (j : Int) * j) % 36)
def nmK (r : Int) (k : Nat) : Str := if r % 2 = 1 then nmJ r k (r / 2 % 8).toNat else wrds.getD k (Str.ofString "")
def rests (r : Int) : Nat → Int
  | 0 => r
  | k + 1 => rests r k / 11 + k
def namesF (r : Int) (m : Nat) : List Str := (List.range m).map fun k => nmK (rests r k) k
def nmP (a k : Nat) : Str := repC 112 a ++ sg k ++ repC 122 (k % 2)
def namesG (r : Int) (m : Nat) : List Str := if r / 7 % 3 = 1 then (List.range m).map (nmP (1 + r / 21 % 6).toNat) else namesF r m
def Fnms : Fn := fun ds r => ∃ (x : Int) (m : Nat), m ≤ 24 ∧ ds = [.int x, .int m] ∧ r = .ok (.ow ((namesG x m).map D.str))
theorem f_nms (x : Int) {m : Nat} (h : m ≤ 24) : Fnms [.int x, .int m] (.ok (.ow ((namesG x m).map D.str))) := ⟨x, m, h, rfl, rfl⟩
theorem len_app (a b : Str) : (a ++ b).length = a.length + b.length := PySem.Str.length_append a b
theorem nmJ_len (r : Int) (k : Nat) : ∀ j, (nmJ r k j).length = 1 + j
  | 0 => rfl
  | j + 1 => by
    show (nmJ r k j ++ _).length = _
    rw [len_app, nmJ_len r k j]; rfl
theorem at_sg {i : Int} (h0 : 0 ≤ i) (h1 : i < 36) : atI sgs.cps.toList i = some (sgs.cps.toList.getD i.toNat 0) := by
  have el : sgs.cps.toList.length = 36 := by decide +kernel
  have hi : i.toNat < sgs.cps.toList.length := by lia
  rw [atI_pos h0 (by lia), List.getD_eq_getElem?_getD, List.getElem?_eq_getElem hi]; rfl
theorem at_strs {ws : List Str} {k : Nat} (h : k < ws.length) : atI (ws.map D.str) (k : Int) = some (.str (ws.getD k (Str.ofString ""))) := by
  rw [atI_pos (Int.natCast_nonneg k) (by rw [List.length_map]; lia), Int.toNat_natCast, List.getElem?_map, List.getElem?_eq_getElem h, List.getD_eq_getElem?_getD, List.getElem?_eq_getElem h]; rfl
theorem repC_len (c n : Nat) : (repC c n).length = n := by show (List.replicate n c).toArray.size = n; rw [List.size_toArray, List.length_replicate]
theorem dv_few {j : Int} (h0 : 0 < j) (h : j < 1000) : EV.DivOk j := dv_small h0 (by
  have : j.natAbs ≠ 0 := by lia
  rw [Nat.log2_lt this]
  exact Nat.lt_trans (show j.natAbs < 2 ^ 10 by lia) (Nat.pow_lt_pow_right (by decide) (by decide)))
section
local macro_rules | `(tactic| walk_at "evIx") => `(tactic| ((with_reducible show EvE _ (Expr.Subscript (Expr.Name (Str.ofString "_law_signs") _) _ _) _ _); with_reducible refine e_ixS ?_))
local macro_rules | `(tactic| walk_at "evE") => `(tactic| ((with_reducible show EvE _ (Expr.BinOp (Expr.Constant (Const.str _) _ _) Operator.Mult _ _) _ _); with_reducible refine e_mulS ?_))
theorem ok_nms {f : Addr} {fd : FuncData} (Fu : Fun K "_law_names" "_law_names" st_l_names f fd) (T : Txt K mg) : FnOk P w K mg base (CXE P w) 1 f fd ["_law_rest_here", "_law_many"] (spF K Fnms) := by
  refine fn_q Fu sc_l_names (by rintro ds r ⟨x, m, _, rfl, _⟩; rfl) (by rintro ds r ⟨x, m, _, _, rfl⟩; exact ⟨_, rfl⟩) fun c hq ds sl hF => ?_
  obtain ⟨x, m, hm, rfl, e⟩ := hF
  injection e with e
  subst e
  show EvSs c _ [.va (.int x), .va (.int m), .un, .un, .un, .un, .un, .un, .un] _ _
  conv in (defBody _) => whnf
  walk_at "nx"
  walk_at "sb"
  refine ss_frz 2 (by walk_at "at") rfl (by walk_at "sset") ?_
  walk_at "nx"
  walk_at "sb"
  refine ss_frz 2 (by walk_at "at") rfl (by walk_at "sset") ?_
  walk_at "nx"
  walk_at "sb"
  walk_at "nx"
  walk_at "sb"
  by_cases hP : x / 7 % 3 = 1
  · refine ss_cons (s_if (EvT.imp (R := fun b => b = true) ?_ fun b hb => ⟨fun _ => ?_, fun q => by rw [hb] at q; cases q⟩))
    · walk_at "ev"
      exact decide_eq_true hP
    have ha := Int.emod_nonneg (x / 21) (show (6 : Int) ≠ 0 by decide)
    have hb := Int.emod_lt_of_pos (x / 21) (show (0 : Int) < 6 by decide)
    refine ss_cons (s_ret (x_comp hq (N' := ["_law_k", "_law_rest_here", "_law_signs"]) (ρ0 := fun _ => [.un, .va (.int x), .va (.str sgs)]) (fun t => .un (.fr (by walk_at "at") (by walk_at "at") (by decide) rfl (.fr (by walk_at "at") (by walk_at "at") (by decide) rfl .nil))) (i_range1 (Txt.range T) ?_)))
    walk_at "ev"
    · exact ⟨by lia, by lia⟩
    · unfold rngD; rw [List.length_map, List.length_range]; exact Nat.le_trans (show ((m : Int)).toNat ≤ 24 by lia) (by decide)
    refine ⟨(List.range m).map fun k => some (D.str (nmP (1 + x / 21 % 6).toNat k)), by simp [rngD], ?_, ?_⟩
    · intro c3 hc3 t k d o hd ho
      unfold rngD at hd
      rw [show ((m : Int)).toNat = m from Int.toNat_natCast m] at hd
      obtain ⟨j, hj, rfl, rfl⟩ := map_at2 hd ho
      have hjm : j < 24 := by
        have := List.mem_of_getElem? hj
        rw [List.mem_range] at this; lia
      refine g_name (by walk_at "at") (nxt (by walk_at "sset") ⟨.un (.same (.same .nil)), ?_⟩)
      simp only [EvC]
      refine ⟨fun _ => ?_, fun h => by cases h⟩
      walk_at "ev"
      refine ⟨112, _, rfl, rfl, Sd.mk ⟨by lia, by lia⟩ ?_⟩
      walk_at "ev"
      refine ⟨sgs, _, _, rfl, rfl, by decide +kernel, at_sg (by lia) (by lia), ?_⟩
      have l1 : (repC 112 (1 + x / 21 % 6).toNat).length ≤ 6 := by rw [repC_len]; lia
      refine AddP.str (Sd.mk (sz9 (by show _ + 1 ≤ _; lia)) (fz_va ?_))
      walk_at "ev"
      refine ⟨122, _, rfl, rfl, Sd.mk ⟨by lia, by lia⟩ ?_⟩
      have l2 : (repC 122 ((0 + (j : Int)) % 2).toNat).length ≤ 1 := by rw [repC_len]; lia
      refine AddP.str (Sd.mk (sz9 (by rw [len_app]; show _ + 1 + _ ≤ _; lia)) (fz_va ?_))
      unfold nmP sg
      rw [show (0 + (j : Int)).toNat = ((j : Int)).toNat by lia, show ((0 + (j : Int)) % 2).toNat = j % 2 by lia]
    · rw [some_map', show namesG x m = _ from if_pos hP, List.map_map]; rfl
  rw [show namesG x m = namesF x m from if_neg hP]
  refine ss_cons (s_if (EvT.imp (R := fun b => b = false) ?_ fun b hb => ⟨fun q => (by rw [hb] at q; cases q), fun _ => ss_nil ?_⟩))
  · walk_at "ev"
    exact decide_eq_false hP
  show EvSs c _ [.va (.int (rests x 0)), .va (.int m), .va (.lst (wrds.map D.str)), .va (.str sgs), .ow ((namesF x 0).map D.str), .un, .un, .un, .un] _ _
  refine ss_cons (s_for hq (i_range1 (Txt.range T) ?_))
  walk_at "ev"
  · exact ⟨by lia, by lia⟩
  refine ⟨fun i ρ' => ∃ s5 s6 s7 s8 : Sl, ρ' = [.va (.int (rests x i)), .va (.int m), .va (.lst (wrds.map D.str)), .va (.str sgs), .ow ((namesF x i).map D.str), s5, s6, s7, s8], ⟨_, _, _, _, rfl⟩, ?_, ?_⟩
  rotate_left
  · rintro ρ' ⟨s5, s6, s7, s8, rfl⟩
    have el : (rngD 0 ((m : Int).toNat)).length = m := by unfold rngD; rw [List.length_map, List.length_range]; lia
    rw [el]
    walk_at "ev"
    rfl
  rintro c2 hcX hcR hcM i d ρ' hd ⟨s5, s6, s7, s8, rfl⟩
  have hq2 : c2.X.xe = fun _ _ => False := by rw [hcX]; exact hq
  obtain ⟨hi, rfl⟩ : i < m ∧ d = .int i := by
    unfold rngD at hd
    rw [List.getElem?_map] at hd
    obtain ⟨j, e1, e2⟩ := Option.map_eq_some_iff.mp hd
    obtain ⟨h1, h2⟩ := List.getElem?_eq_some_iff.mp e1
    rw [List.getElem_range] at h2
    rw [List.length_range] at h1
    subst h2
    exact ⟨by lia, by rw [← e2, Int.zero_add]⟩
  have er : rests x (i + 1) = rests x i / 11 + (i : Int) := rfl
  have en : namesF x (i + 1) = namesF x i ++ [nmK (rests x i) i] := by
    unfold namesF
    rw [List.range_succ, List.map_append]; rfl
  have eL : (namesF x i).length = i := by unfold namesF; rw [List.length_map, List.length_range]
  have wl : wrds.length = 24 := by decide
  generalize namesF x i = L at eL en ⊢
  generalize rests x i = r at er en ⊢
  refine g_name (by walk_at "at") (nxt (by walk_at "sset") ?_)
  walk_at "nx"
  refine ixp_l (at_strs (by lia)) ?_
  walk_at "ev"
  walk_at "sb"
  walk_at "nx"
  walk_at "sb"
  show EvSs c2 _ [.va (.int r), .va (.int m), .va (.lst (wrds.map D.str)), .va (.str sgs), .ow (L.map D.str), .va (.int i), .va (.str (wrds.getD i (Str.ofString ""))), .va (.int (r / 2 % 8)), s8] _ _
  refine ss_cons (s_ifJ (fun ρ' => ∃ s8 : Sl, ρ' = [.va (.int r), .va (.int m), .va (.lst (wrds.map D.str)), .va (.str sgs), .ow (L.map D.str), .va (.int i), .va (.str (nmK r i)), .va (.int (r / 2 % 8)), s8]) ?_ ?_)
  rotate_left
  · rintro ρ' ⟨s8, rfl⟩
    walk_at "ev"
    · rw [List.length_map]
      exact Nat.lt_of_le_of_lt (show L.length ≤ 24 by lia) (by decide)
    exact ⟨_, _, _, _, by rw [er, en, List.map_append]; rfl⟩
  walk_at "ev"
  rotate_left
  · rename_i h
    refine ⟨s8, ?_⟩
    rw [show nmK r i = _ from if_neg h]
  rename_i h
  refine ⟨sgs, i, _, rfl, rfl, by decide +kernel, at_sg (by lia) (by lia), ?_⟩
  walk_at "ev"
  refine s_for hq2 (i_range1 (Txt.range T) ?_)
  have hz : 0 ≤ r / 2 % 8 ∧ r / 2 % 8 < 8 := ⟨Int.emod_nonneg _ (by decide), Int.emod_lt_of_pos _ (by decide)⟩
  have ez : nmK r i = nmJ r i (r / 2 % 8).toNat := if_pos h
  generalize r / 2 % 8 = z at hz ez ⊢
  walk_at "ev"
  · exact ⟨by lia, by lia⟩
  refine ⟨fun j ρ' => ∃ s8 : Sl, ρ' = [.va (.int r), .va (.int m), .va (.lst (wrds.map D.str)), .va (.str sgs), .ow (L.map D.str), .va (.int i), .va (.str (nmJ r i j)), .va (.int z), s8], ⟨s8, ?_⟩, ?_, ?_⟩
  · rw [show ((i : Int)).toNat = i from Int.toNat_natCast i]; rfl
  rotate_left
  · rintro ρ' ⟨s8, rfl⟩
    have el : (rngD 0 z.toNat).length = z.toNat := by unfold rngD; rw [List.length_map, List.length_range]
    rw [el]
    walk_at "ev"
    exact ⟨_, by rw [ez]⟩
  rintro c3 hcX3 hcR3 hcM3 j d ρ' hd ⟨s8, rfl⟩
  obtain ⟨hj, rfl⟩ : j < z.toNat ∧ d = .int j := by
    unfold rngD at hd
    rw [List.getElem?_map] at hd
    obtain ⟨j', e1, e2⟩ := Option.map_eq_some_iff.mp hd
    obtain ⟨h1, h2⟩ := List.getElem?_eq_some_iff.mp e1
    rw [List.getElem_range] at h2
    rw [List.length_range] at h1
    subst h2
    exact ⟨h1, by rw [← e2, Int.zero_add]⟩
  have hjj : (j : Int) * j < 100 := by
    have : j ≤ 7 := by lia
    have h2 : j * j ≤ 7 * 7 := Nat.mul_le_mul this this
    have h3 : ((j * j : Nat) : Int) = (j : Int) * j := by push_cast; rfl
    rw [← h3]; lia
  have hjp : 0 ≤ (j : Int) * j := Int.mul_nonneg (Int.natCast_nonneg _) (Int.natCast_nonneg _)
  walk_at "ev"
  · exact mul_l (by lia)
  · exact dv_few (by lia) (by lia)
  refine ⟨sgs, _, _, rfl, rfl, by decide +kernel, at_sg (Int.emod_nonneg _ (by decide)) (Int.emod_lt_of_pos _ (by decide)), ?_⟩
  refine AddP.str (Sd.mk ?_ ?_)
  · rw [nmJ_len]
    show 1 + j + 1 ≤ _
    exact Nat.le_trans (show 1 + j + 1 ≤ 100 by lia) (by decide)
  walk_at "ev"
  exact ⟨_, rfl⟩
end

end



section
variable {P : Program} {w : World} {K : PySem.W.Frag} {mg : Str → Option Value} {base : Heap}
local macro_rules | `(tactic| walk_at "evL") => `(tactic| ((with_reducible show ∃ t b, TyD _ _ t ∧ _); first
  | with_reducible refine isd .non kt_non_int ?_
  | with_reducible refine isd .bl kt_bl_int ?_
  | with_reducible refine isd .str kt_str_int ?_
  | with_reducible refine isd .tup kt_tup_int ?_
  | with_reducible refine isd .lst kt_lst_int ?_
  | with_reducible refine isd .non kt_non_bool ?_
  | with_reducible refine isd .str kt_str_bool ?_
  | with_reducible refine isd .tup kt_tup_bool ?_
  | with_reducible refine isd .lst kt_lst_bool ?_
  | with_reducible refine isd .non kt_non_str ?_
  | with_reducible refine isd .bl kt_bl_str ?_
  | with_reducible refine isd .int kt_int_str ?_
  | with_reducible refine isd .str kit_ss ?_
  | with_reducible refine isd .tup kt_tup_str ?_
  | with_reducible refine isd .lst kt_lst_str ?_
  | with_reducible refine isd .non kt_non_tuple ?_
  | with_reducible refine isd .bl kt_bl_tuple ?_
  | with_reducible refine isd .int kt_int_tuple ?_
  | with_reducible refine isd .str kt_str_tuple ?_
  | with_reducible refine isd .lst kt_lst_tuple ?_))
local macro_rules | `(tactic| walk_at "evCa") => `(tactic| ((with_reducible show EvE _ (Expr.Call (Expr.Name (Str.ofString "isinstance") _) _ _ _) _ _); first
  | with_reducible refine e_isin (Txt.isin (by assumption)) (Txt.c_int (by assumption)) ?_
  | with_reducible refine e_isin (Txt.isin (by assumption)) (Txt.c_tuple (by assumption)) ?_
  | with_reducible refine e_isin (Txt.isin (by assumption)) (Txt.c_bool (by assumption)) ?_
  | with_reducible refine e_isin (Txt.isin (by assumption)) (by assumption) ?_))

/-! names -/
theorem app_list (a b : Str) : (a ++ b).cps.toList = a.cps.toList ++ b.cps.toList := PySem.W.KT.app_list a b
theorem nmJ_cs (r : Int) (k : Nat) : ∀ j, ∃ cs, (nmJ r k j).cps.toList = sgs.cps.toList.getD k 0 :: cs ∧ ∀ c ∈ cs, c ∈ sgs.cps.toList
  | 0 => ⟨[], rfl, fun c hc => by cases hc⟩
  | j + 1 => by
    obtain ⟨cs, e, h⟩ := nmJ_cs r k j
    refine ⟨cs ++ (sg (r / (16 + (j : Int) * j) % 36)).cps.toList, ?_, fun c hc => ?_⟩
    · show (nmJ r k j ++ _).cps.toList = _
      rw [app_list, e]; rfl
    · rcases List.mem_append.mp hc with hc | hc
      · exact h c hc
      · have hl : sgs.cps.toList.length = 36 := by decide +kernel
        have h0 := Int.emod_nonneg (r / (16 + (j : Int) * j)) (show (36 : Int) ≠ 0 by decide)
        have h1 := Int.emod_lt_of_pos (r / (16 + (j : Int) * j)) (show (0 : Int) < 36 by decide)
        have hc' : c = sgs.cps.toList.getD (r / (16 + (j : Int) * j) % 36).toNat 0 := List.mem_singleton.mp hc
        have hi : (r / (16 + (j : Int) * j) % 36).toNat < sgs.cps.toList.length := by lia
        rw [hc', List.getD_eq_getElem?_getD, List.getElem?_eq_getElem hi]
        exact List.getElem_mem hi
theorem wrds_ok : ∀ k, k < 24 → ∃ cs, (wrds.getD k (Str.ofString "")).cps.toList = sgs.cps.toList.getD k 0 :: cs ∧ (wrds.getD k (Str.ofString "")).length ≤ 8 ∧ ∀ c ∈ cs, c ∈ sgs.cps.toList := by
  have key : ∀ k, k < 24 → (wrds.getD k (Str.ofString "")).cps.toList.head? = some (sgs.cps.toList.getD k 0) ∧ (wrds.getD k (Str.ofString "")).length ≤ 8 ∧ ∀ c ∈ (wrds.getD k (Str.ofString "")).cps.toList.tail, c ∈ sgs.cps.toList := by decide +kernel
  intro k hk
  obtain ⟨h1, h2, h3⟩ := key k hk
  cases e : (wrds.getD k (Str.ofString "")).cps.toList with
  | nil => rw [e] at h1; cases h1
  | cons c cs =>
    rw [e] at h1 h3
    exact ⟨cs, by rw [Option.some.inj h1], h2, h3⟩
theorem nmK_ok (r : Int) {k : Nat} (hk : k < 24) : ∃ cs, (nmK r k).cps.toList = sgs.cps.toList.getD k 0 :: cs ∧ (nmK r k).length ≤ 8 ∧ ∀ c ∈ cs, c ∈ sgs.cps.toList := by
  unfold nmK
  split
  · have h0 := Int.emod_nonneg (r / 2) (show (8 : Int) ≠ 0 by decide)
    have h1 := Int.emod_lt_of_pos (r / 2) (show (0 : Int) < 8 by decide)
    obtain ⟨cs, e, h⟩ := nmJ_cs r k (r / 2 % 8).toNat
    exact ⟨cs, e, by rw [nmJ_len]; lia, h⟩
  · exact wrds_ok k hk
theorem sgs_ok : ∀ c ∈ sgs.cps.toList, subS (LET ++ FIG) ⟨#[c]⟩ = true ∧ c < 128 := by decide +kernel
theorem let_ok : ∀ k, k < 24 → subS LET ⟨#[sgs.cps.toList.getD k 0]⟩ = true ∧ sgs.cps.toList.getD k 0 ∈ sgs.cps.toList := by decide +kernel
theorem nmK_name (r : Int) {k : Nat} (hk : k < 24) : nameOk (nmK r k) = true ∧ Shrt (nmK r k) := by
  obtain ⟨cs, e, h1, h2⟩ := nmK_ok r hk
  obtain ⟨g1, g2⟩ := let_ok k hk
  have hall : ∀ c ∈ (nmK r k).cps.toList, c ∈ sgs.cps.toList := fun c hc => by
    rw [e] at hc
    rcases List.mem_cons.mp hc with rfl | hc
    · exact g2
    · exact h2 c hc
  refine ⟨?_, by lia, ?_⟩
  · rw [nameOk_cons e, decide_eq_true h1, g1, Bool.true_and, Bool.true_and]
    exact List.all_eq_true.mpr fun c hc => (sgs_ok c (hall c hc)).1
  · rw [← Array.all_toList, List.all_eq_true]
    exact fun c hc => decide_eq_true (sgs_ok c (hall c hc)).2

end



section
variable {P : Program} {w : World} {K : PySem.W.Frag} {mg : Str → Option Value} {base : Heap}
local macro_rules | `(tactic| walk_at "evL") => `(tactic| ((with_reducible show ∃ t b, TyD _ _ t ∧ _); first
  | with_reducible refine isd .non kt_non_int ?_
  | with_reducible refine isd .bl kt_bl_int ?_
  | with_reducible refine isd .str kt_str_int ?_
  | with_reducible refine isd .tup kt_tup_int ?_
  | with_reducible refine isd .lst kt_lst_int ?_
  | with_reducible refine isd .non kt_non_bool ?_
  | with_reducible refine isd .str kt_str_bool ?_
  | with_reducible refine isd .tup kt_tup_bool ?_
  | with_reducible refine isd .lst kt_lst_bool ?_
  | with_reducible refine isd .non kt_non_str ?_
  | with_reducible refine isd .bl kt_bl_str ?_
  | with_reducible refine isd .int kt_int_str ?_
  | with_reducible refine isd .str kit_ss ?_
  | with_reducible refine isd .tup kt_tup_str ?_
  | with_reducible refine isd .lst kt_lst_str ?_
  | with_reducible refine isd .non kt_non_tuple ?_
  | with_reducible refine isd .bl kt_bl_tuple ?_
  | with_reducible refine isd .int kt_int_tuple ?_
  | with_reducible refine isd .str kt_str_tuple ?_
  | with_reducible refine isd .lst kt_lst_tuple ?_))
local macro_rules | `(tactic| walk_at "evCa") => `(tactic| ((with_reducible show EvE _ (Expr.Call (Expr.Name (Str.ofString "isinstance") _) _ _ _) _ _); first
  | with_reducible refine e_isin (Txt.isin (by assumption)) (Txt.c_int (by assumption)) ?_
  | with_reducible refine e_isin (Txt.isin (by assumption)) (Txt.c_tuple (by assumption)) ?_
  | with_reducible refine e_isin (Txt.isin (by assumption)) (Txt.c_bool (by assumption)) ?_
  | with_reducible refine e_isin (Txt.isin (by assumption)) (by assumption) ?_))

/-! the dict of names -/
theorem putD_new {κ β : Type} [DecidableEq κ] {A : List (κ × β)} {k : κ} {v : β} (h : k ∉ A.map (·.1)) : putD A k v = A ++ [(k, v)] := by
  unfold putD
  rw [if_neg]
  intro q
  unfold valD at q
  rw [Option.isSome_map, List.find?_isSome] at q
  obtain ⟨x, hx, e⟩ := q
  exact h (List.mem_map.mpr ⟨x, hx, of_decide_eq_true e⟩)
theorem merge_new (ps : List (Key × EV.D)) : ∀ A : List (Key × EV.D), ((A ++ ps).map (·.1)).Nodup → mergeD A ps = A ++ ps := by
  induction ps with
  | nil => intro A _; rw [List.append_nil]; rfl
  | cons p ps ih =>
    intro A nd
    have hx : p.1 ∉ A.map (·.1) := fun z => by
      rw [List.map_append, List.map_cons, List.nodup_append] at nd
      exact nd.2.2 p.1 z p.1 List.mem_cons_self rfl
    show mergeD (putD A p.1 p.2) ps = _
    rw [putD_new hx, ih (A ++ [p]) (by rw [List.append_assoc]; exact nd), List.append_assoc]; rfl
/-- names that differ -/
theorem dLen_new {ws : List Str} (h : ws.Nodup) : dLen (ws.map D.str) = (ws.map D.str).length := by
  unfold dLen
  rw [List.map_map]
  have e : (ws.map (prN ∘ D.str)).map (·.1) = ws.map fun z => (Sum.inr z : Key) := by rw [List.map_map]; rfl
  rw [merge_new _ [] (by rw [List.nil_append, e]; exact List.Pairwise.map _ (fun a b hab q => hab (Sum.inr.inj q)) h)]
  rw [List.nil_append, List.length_map, List.length_map]
theorem sgs_nodup : ∀ i, i < 24 → ∀ j, j < 24 → sgs.cps.toList.getD i 0 = sgs.cps.toList.getD j 0 → i = j := by decide +kernel
theorem names_nodup (r : Int) {m : Nat} (hm : m ≤ 24) : (namesF r m).Nodup := by
  unfold namesF
  rw [List.nodup_iff_pairwise_ne]
  refine List.Pairwise.map (R := fun a b => a < 24 ∧ b < 24 ∧ a ≠ b) _ (fun a b ⟨ha, hb, hab⟩ e => ?_) ?_
  · obtain ⟨c1, e1, _, _⟩ := nmK_ok (rests r a) ha
    obtain ⟨c2, e2, _, _⟩ := nmK_ok (rests r b) hb
    rw [e, e2] at e1
    exact hab (sgs_nodup a ha b hb (List.cons.inj e1).1.symm)
  · refine List.Pairwise.imp_of_mem (fun {a b} ha hb h => ⟨Nat.lt_of_lt_of_le (List.mem_range.mp ha) hm, Nat.lt_of_lt_of_le (List.mem_range.mp hb) hm, h⟩) ?_
    exact List.nodup_range
theorem mem_names {r : Int} {m : Nat} (hm : m ≤ 24) {z : Str} (h : z ∈ namesF r m) : nameOk z = true ∧ Shrt z := by
  unfold namesF at h
  obtain ⟨k, hk, rfl⟩ := List.mem_map.mp h
  exact nmK_name _ (Nat.lt_of_lt_of_le (List.mem_range.mp hk) hm)
theorem names_len (r : Int) (m : Nat) : (namesF r m).length = m := by unfold namesF; rw [List.length_map, List.length_range]
theorem nmP_cs (a k : Nat) : (nmP a k).cps.toList = List.replicate a 112 ++ (sgs.cps.toList.getD k 0 :: List.replicate (k % 2) 122) := by
  unfold nmP
  rw [app_list, app_list, List.append_assoc]
  unfold repC sg
  rw [List.toList_toArray, List.toList_toArray, Int.toNat_natCast]
  rfl
theorem nmP_ok {a k : Nat} (h0 : 1 ≤ a) (h6 : a ≤ 6) (hk : k < 24) : nameOk (nmP a k) = true ∧ Shrt (nmP a k) := by
  have e := nmP_cs a k
  obtain ⟨g1, g2⟩ := let_ok k hk
  have hl : (nmP a k).length ≤ 8 := by
    have : (nmP a k).length = (nmP a k).cps.toList.length := Array.length_toList.symm
    rw [this, e, List.length_append, List.length_cons, List.length_replicate, List.length_replicate]
    lia
  have hall : ∀ c ∈ (nmP a k).cps.toList, c ∈ sgs.cps.toList := fun c hc => by
    rw [e] at hc
    rcases List.mem_append.mp hc with hc | hc
    · rw [(List.mem_replicate.mp hc).2]; decide +kernel
    · rcases List.mem_cons.mp hc with rfl | hc
      · exact g2
      · rw [(List.mem_replicate.mp hc).2]; decide +kernel
  refine ⟨?_, by lia, ?_⟩
  · obtain ⟨b, rfl⟩ : ∃ b, a = b + 1 := ⟨a - 1, by lia⟩
    rw [List.replicate_succ, List.cons_append] at e
    rw [nameOk_cons e, decide_eq_true hl, show subS LET ⟨#[112]⟩ = true by decide +kernel, Bool.true_and, Bool.true_and]
    exact List.all_eq_true.mpr fun c hc => (sgs_ok c (hall c hc)).1
  · rw [← Array.all_toList, List.all_eq_true]
    exact fun c hc => decide_eq_true (sgs_ok c (hall c hc)).2
theorem nmP_inj {a i j : Nat} (hi : i < 24) (hj : j < 24) (h : nmP a i = nmP a j) : i = j := by
  have e1 := nmP_cs a i
  rw [h, nmP_cs a j] at e1
  exact (sgs_nodup j hj i hi (List.cons.inj (List.append_cancel_left e1)).1).symm
/-- the names of a script: good ones, unlike -/
structure NG (zs : List Str) : Prop where
  nd : zs.Nodup
  ok : namesOk (zs.map D.str) = true
  n : NmsD (zs.map D.str)
  l : ∀ z ∈ zs, z.length ≤ 8
theorem ng_of {zs : List Str} (nd : zs.Nodup) (h : ∀ z ∈ zs, nameOk z = true ∧ Shrt z) (hl : zs.length ≤ 24) : NG zs := by
  refine ⟨nd, ?_, ⟨by rw [List.length_map]; lia, fun n hn => ?_⟩, fun z hz => name_len (h z hz).1⟩
  · unfold namesOk
    rw [dLen_new nd, decide_eq_true rfl, Bool.and_true]
    exact List.all_eq_true.mpr fun n hn => by
      obtain ⟨z, hz, rfl⟩ := List.mem_map.mp hn
      exact (h z hz).1
  · obtain ⟨z, hz, rfl⟩ := List.mem_map.mp hn
    exact ⟨rfl, fun z' e => by cases e; exact (h z hz).2⟩
theorem ng (r : Int) {m : Nat} (hm : m ≤ 24) : NG (namesG r m) ∧ (namesG r m).length = m := by
  unfold namesG
  split
  · have h0 := Int.emod_nonneg (r / 21) (show (6 : Int) ≠ 0 by decide)
    have h1 := Int.emod_lt_of_pos (r / 21) (show (0 : Int) < 6 by decide)
    have hl : ((List.range m).map (nmP (1 + r / 21 % 6).toNat)).length = m := by rw [List.length_map, List.length_range]
    refine ⟨ng_of ?_ (fun z hz => ?_) (by rw [hl]; exact hm), hl⟩
    · rw [List.nodup_iff_pairwise_ne]
      refine List.Pairwise.map (R := fun a b => a < 24 ∧ b < 24 ∧ a ≠ b) _ (fun a b ⟨ha, hb, hab⟩ e => hab (nmP_inj ha hb e)) ?_
      refine List.Pairwise.imp_of_mem (fun {a b} ha hb h => ⟨Nat.lt_of_lt_of_le (List.mem_range.mp ha) hm, Nat.lt_of_lt_of_le (List.mem_range.mp hb) hm, h⟩) ?_
      exact List.nodup_range
    · obtain ⟨k, hk, rfl⟩ := List.mem_map.mp hz
      exact nmP_ok (by lia) (by lia) (Nat.lt_of_lt_of_le (List.mem_range.mp hk) hm)
  · exact ⟨ng_of (names_nodup r hm) (fun z hz => mem_names hm hz) (by rw [names_len]; exact hm), names_len r m⟩
/-! the numbers of the names -/
theorem val_find {α β : Type} [DecidableEq α] (L : List (α × β)) (k : α) : valD L k = (L.find? fun x => decide (x.1 = k)).map (·.2) := rfl
theorem find_zip : ∀ (zs : List Str) (n : Nat) (w : Str), ((zs.zipIdx n).map fun x => ((.inr x.1, .int x.2) : Key × EV.D)).find? (fun x => decide (x.1 = .inr w)) = if w ∈ zs then some (.inr w, .int ((zs.idxOf w + n : Nat))) else none
  | [], n, w => rfl
  | z :: zs, n, w => by
    rw [List.zipIdx_cons, List.map_cons]
    by_cases h : z = w
    · subst h
      rw [List.find?_cons_of_pos (by simp), if_pos List.mem_cons_self, List.idxOf_cons_self, Nat.zero_add]
    · rw [List.find?_cons_of_neg (by simpa using h), find_zip zs (n + 1) w]
      by_cases hm : w ∈ zs
      · rw [if_pos hm, if_pos (List.mem_cons_of_mem _ hm), List.idxOf_cons, beq_eq_false_iff_ne.mpr h]
        show some (_, D.int ((zs.idxOf w + (n + 1) : Nat))) = some (_, D.int ((zs.idxOf w + 1 + n : Nat)))
        rw [show zs.idxOf w + (n + 1) = zs.idxOf w + 1 + n by lia]
      · rw [if_neg hm, if_neg (fun q => (List.mem_cons.mp q).elim (fun q => h q.symm) hm)]
theorem nb_merge {zs : List Str} (h : zs.Nodup) : mergeD [] (nbL zs) = nbL zs := by
  rw [merge_new _ [] ?_]; rfl
  rw [List.nil_append]
  have e : (nbL zs).map (·.1) = zs.map fun z => (Sum.inr z : Key) := by
    unfold nbL
    rw [List.map_map]
    have : (zs.zipIdx.map ((fun x => x.1) ∘ fun x : Str × Nat => ((Sum.inr x.1, D.int x.2) : Key × EV.D))) = (zs.zipIdx.map Prod.fst).map fun z => (Sum.inr z : Key) := by rw [List.map_map]; rfl
    rw [this, List.zipIdx_map_fst]
  rw [e]
  exact List.Pairwise.map _ (fun a b hab q => hab (Sum.inr.inj q)) h
def nbO (zs : List Str) (w : Str) : Option Int := if w ∈ zs then some (zs.idxOf w : Int) else none
theorem nb_val {zs : List Str} (w : Str) : (valD (nbL zs) (.inr w)).getD .non = oD (nbO zs w) := by
  rw [val_find]
  unfold nbL nbO
  rw [find_zip zs 0 w]
  by_cases h : w ∈ zs
  · rw [if_pos h, if_pos h]; rfl
  · rw [if_neg h, if_neg h]; rfl

end



section
variable {P : Program} {w : World} {K : PySem.W.Frag} {mg : Str → Option Value} {base : Heap}
local macro_rules | `(tactic| walk_at "evL") => `(tactic| ((with_reducible show ∃ t b, TyD _ _ t ∧ _); first
  | with_reducible refine isd .non kt_non_int ?_
  | with_reducible refine isd .bl kt_bl_int ?_
  | with_reducible refine isd .str kt_str_int ?_
  | with_reducible refine isd .tup kt_tup_int ?_
  | with_reducible refine isd .lst kt_lst_int ?_
  | with_reducible refine isd .non kt_non_bool ?_
  | with_reducible refine isd .str kt_str_bool ?_
  | with_reducible refine isd .tup kt_tup_bool ?_
  | with_reducible refine isd .lst kt_lst_bool ?_
  | with_reducible refine isd .non kt_non_str ?_
  | with_reducible refine isd .bl kt_bl_str ?_
  | with_reducible refine isd .int kt_int_str ?_
  | with_reducible refine isd .str kit_ss ?_
  | with_reducible refine isd .tup kt_tup_str ?_
  | with_reducible refine isd .lst kt_lst_str ?_
  | with_reducible refine isd .non kt_non_tuple ?_
  | with_reducible refine isd .bl kt_bl_tuple ?_
  | with_reducible refine isd .int kt_int_tuple ?_
  | with_reducible refine isd .str kt_str_tuple ?_
  | with_reducible refine isd .lst kt_lst_tuple ?_))
local macro_rules | `(tactic| walk_at "evCa") => `(tactic| ((with_reducible show EvE _ (Expr.Call (Expr.Name (Str.ofString "isinstance") _) _ _ _) _ _); first
  | with_reducible refine e_isin (Txt.isin (by assumption)) (Txt.c_int (by assumption)) ?_
  | with_reducible refine e_isin (Txt.isin (by assumption)) (Txt.c_tuple (by assumption)) ?_
  | with_reducible refine e_isin (Txt.isin (by assumption)) (Txt.c_bool (by assumption)) ?_
  | with_reducible refine e_isin (Txt.isin (by assumption)) (by assumption) ?_))

/-! classes: one of sixteen -/
def OtherC (K : PySem.W.Frag) (mg : Str → Option Value) (C : Addr) (x : Str) : Prop := ∃ E, mg x = some (.ref E) ∧ PySem.W.kitOne K (.ref C) (.ref E) = some false ∧ PySem.W.subIn K (.ref C) (.ref E) = some false
def all16 : List Str := ["NoBottom", "BadPlace", "BadSaying", "TooMany", "BadChain", "NoName", "BadName", "NoLine", "NoStep", "BadStep", "BadThing", "TooFree", "TooDeep", "BadKnown", "CantMake", "NoText"].map Str.ofString
structure Exs (K : PySem.W.Frag) (mg : Str → Option Value) (sn : Str) (C E : Addr) : Prop where
  verr : mg (Str.ofString "ValueError") = none
  ev : PySem.W.kitOne K (.ref C) (.type "ValueError") = some true
  ex : ExK K C
  self : mg sn = some (.ref C)
  it : PySem.W.kitOne K (.ref C) (.ref C) = some true
  e : mg (Str.ofString "DrawError") = some (.ref E)
  ed : PySem.W.kitOne K (.ref C) (.ref E) = some true
  o : ∀ x ∈ all16, x ≠ sn → OtherC K mg C x
theorem Exs.c_verr {sn : Str} {C E : Addr} (T : Exs K mg sn C E) : ClsName mg (Str.ofString "ValueError") (.type "ValueError") := .inr ⟨_, rfl, T.verr, by decide +kernel, by decide +kernel⟩
section
variable {k : Nat} {N : List Str} {sc : Scope} {bk : Bool} {c : Ctx P w K mg base k N sc bk} {ρ : List Sl} {pos np cp : Pos} {e : Expr} {R : EV.D → Prop} {C E : Addr} {sn : Str}
theorem e_cls {x : Str} (T : Exs K mg sn C E) (X : Txt K mg) (o : x ∈ all16) (h : EvE c e ρ fun d => d = .exc C ∧ R (.bl (decide (x = sn))))
    (hgi : sc.names.lookup (Str.ofString "isinstance") = some .globalImplicit := by with_unfolding_all rfl) (hgx : sc.names.lookup x = some .globalImplicit := by with_unfolding_all rfl) (hdx : (x == ("__debug__" : Str)) = false := by decide)
    (he : ∀ env, starEach [e, .Name x cp] env = (false, eval e env) :: starEach [.Name x cp] env := by intro _; with_unfolding_all rfl) (he2 : ∀ env, starEach [.Name x cp] env = [(false, eval (.Name x cp) env)] := by intro _; with_unfolding_all rfl)
    (hpl : ∀ env, (backTo pos (starEach [.Name x cp] env)).any (·.1) = false := by intro _; with_unfolding_all rfl) : EvE c (.Call (.Name (Str.ofString "isinstance") np) [e, .Name x cp] [] pos) ρ R := by
  by_cases hx : x = sn
  · subst hx
    exact e_isin X.isin (.inl ⟨C, rfl, T.self⟩) (h.imp fun d ⟨e1, hR⟩ => by subst e1; exact isd (.exc T.ex) T.it (by rw [decide_eq_true rfl] at hR; exact hR)) hgi hgx hdx he he2 hpl
  · obtain ⟨E, hm, hk, _⟩ := T.o x o hx
    exact e_isin X.isin (.inl ⟨E, rfl, hm⟩) (h.imp fun d ⟨e1, hR⟩ => by subst e1; exact isd (.exc T.ex) hk (by rw [decide_eq_false hx] at hR; exact hR)) hgi hgx hdx he he2 hpl
theorem e_draw (T : Exs K mg sn C E) (X : Txt K mg) (h : EvE c e ρ fun d => d = .exc C ∧ R (.bl true))
    (hgi : sc.names.lookup (Str.ofString "isinstance") = some .globalImplicit := by with_unfolding_all rfl) (hgx : sc.names.lookup (Str.ofString "DrawError") = some .globalImplicit := by with_unfolding_all rfl)
    (he : ∀ env, starEach [e, .Name (Str.ofString "DrawError") cp] env = (false, eval e env) :: starEach [.Name (Str.ofString "DrawError") cp] env := by intro _; with_unfolding_all rfl) (he2 : ∀ env, starEach [.Name (Str.ofString "DrawError") cp] env = [(false, eval (.Name (Str.ofString "DrawError") cp) env)] := by intro _; with_unfolding_all rfl)
    (hpl : ∀ env, (backTo pos (starEach [.Name (Str.ofString "DrawError") cp] env)).any (·.1) = false := by intro _; with_unfolding_all rfl) : EvE c (.Call (.Name (Str.ofString "isinstance") np) [e, .Name (Str.ofString "DrawError") cp] [] pos) ρ R :=
  e_isin X.isin (.inl ⟨E, rfl, T.e⟩) (h.imp fun d ⟨e1, hR⟩ => by subst e1; exact isd (.exc T.ex) T.ed hR) hgi hgx (by decide) he he2 hpl
theorem exc_is {R : Prop} (h : R) : (EV.D.exc C = EV.D.exc C ∧ R) := ⟨rfl, h⟩
end
def nts : Str := Str.ofString "NoText"
def Falo (CT : Addr) : Fn := fun ds r => ds = [.exc CT] ∧ r = .ok (.va (.bl true))
theorem f_alo (CT : Addr) : Falo CT [.exc CT] (.ok (.va (.bl true))) := ⟨rfl, rfl⟩
def fl16 (sn : Str) : List EV.D := all16.map fun x => D.bl (decide (x = sn))
def cnt (sn x : Str) : Option EV.D := if x = sn then some (.bl true) else none
theorem filt {sn : Str} : ∀ xs : List Str, ((xs.map (cnt sn)).filterMap id).length = (xs.filter fun x => decide (x = sn)).length
  | [] => rfl
  | x :: xs => by
    by_cases h : x = sn
    · rw [List.map_cons, List.filter_cons_of_pos (by simpa using h), List.length_cons, ← filt xs, show cnt sn x = some (.bl true) from if_pos h]; rfl
    · rw [List.map_cons, List.filter_cons_of_neg (by simpa using h), ← filt xs, show cnt sn x = none from if_neg h]; rfl
section
local macro_rules | `(tactic| walk_at "evCa") => `(tactic| ((with_reducible show EvE _ (Expr.Call (Expr.Name (Str.ofString "isinstance") _) _ _ _) _ _); first
  | with_reducible refine e_draw (by assumption) (by assumption) ?_
  | with_reducible refine e_cls (by assumption) (by assumption) (by decide +kernel) ?_
  | with_reducible refine e_isin (Txt.isin (by assumption)) (Exs.c_verr (by assumption)) ?_))
local macro_rules | `(tactic| walk_at "evL") => `(tactic| with_reducible refine exc_is ?_)
theorem one_alo {C E : Addr} {sn : Str} (h : (all16.filter fun x => decide (x = sn)).length = 1) {k : Nat} {c : Ctx P w K mg base k ["_law_error", "_law_told"] (defScope st_l_alone) false} (hq : c.X.xe = fun _ _ => False) (T : Exs K mg sn C E) (X : Txt K mg) : EvSs c (defBody st_l_alone) [.va (.exc C), .un] (fun _ => Sl.va (.bl true) = .va .non) { rt := fun r => r = .va (.bl true) } := by
  conv in (defBody _) => whnf
  walk_at "nx"
  refine isd (.exc T.ex) T.ev ?_
  walk_at "ev"
  walk_at "sb"
  walk_at "nx"
  walk_at "sb"
  refine ss_frz 1 (by walk_at "at") rfl (by walk_at "sset") ?_
  walk_at "nx"
  walk_at "sb"
  refine ss_frz 1 (by walk_at "at") rfl (by walk_at "sset") ?_
  walk_at "nx"
  walk_at "sb"
  refine ss_frz 1 (by walk_at "at") rfl (by walk_at "sset") ?_
  walk_at "nx"
  walk_at "sb"
  refine ss_frz 1 (by walk_at "at") rfl (by walk_at "sset") ?_
  walk_at "nx"
  walk_at "sb"
  refine ss_frz 1 (by walk_at "at") rfl (by walk_at "sset") ?_
  walk_at "nx"
  walk_at "sb"
  refine ss_frz 1 (by walk_at "at") rfl (by walk_at "sset") ?_
  show EvSs c _ [.va (.exc C), .va (.lst (fl16 sn))] _ _
  walk_at "nx"
  refine e_x (x_comp hq (N' := ["_law_one"]) (ρ0 := fun _ => [.un]) (fun t => .un .nil) (i_seq ?_))
  walk_at "ev"
  refine ⟨all16.map (cnt sn), by unfold fl16; simp, ?_, fz_ow ?_⟩
  · intro c3 hc3 t k d o hd ho
    unfold fl16 at hd
    obtain ⟨x, hx, rfl, rfl⟩ := map_at2 hd ho
    refine g_name (by walk_at "at") (nxt (by walk_at "sset") ⟨.un .nil, ?_⟩)
    simp only [EvC]
    walk_at "ev"
    · rename_i hx
      unfold cnt
      rw [if_pos hx, decide_eq_true hx]
    · rename_i hx
      unfold cnt
      rw [if_neg hx]
  walk_at "ev"
  rw [filt, h]
  rfl
theorem ok_alo {f CT E : Addr} {fd : FuncData} (Fu : Fun K "_law_alone" "_law_alone" st_l_alone f fd) (X : Txt K mg) (TS : Exs K mg nts CT E) : FnOk P w K mg base (CXE P w) 1 f fd ["_law_error"] (spF K (Falo CT)) := by
  refine fn_q Fu sc_l_alone (by rintro ds r ⟨rfl, _⟩; rfl) (by rintro ds r ⟨_, rfl⟩; exact ⟨_, rfl⟩) fun c hq ds sl hF => ?_
  obtain ⟨rfl, e⟩ := hF
  injection e with e
  subst e
  exact one_alo (by decide +kernel) hq TS X
end

end



section
variable {P : Program} {w : World} {K : PySem.W.Frag} {mg : Str → Option Value} {base : Heap}
local macro_rules | `(tactic| walk_at "evL") => `(tactic| ((with_reducible show ∃ t b, TyD _ _ t ∧ _); first
  | with_reducible refine isd .non kt_non_int ?_
  | with_reducible refine isd .bl kt_bl_int ?_
  | with_reducible refine isd .str kt_str_int ?_
  | with_reducible refine isd .tup kt_tup_int ?_
  | with_reducible refine isd .lst kt_lst_int ?_
  | with_reducible refine isd .non kt_non_bool ?_
  | with_reducible refine isd .str kt_str_bool ?_
  | with_reducible refine isd .tup kt_tup_bool ?_
  | with_reducible refine isd .lst kt_lst_bool ?_
  | with_reducible refine isd .non kt_non_str ?_
  | with_reducible refine isd .bl kt_bl_str ?_
  | with_reducible refine isd .int kt_int_str ?_
  | with_reducible refine isd .str kit_ss ?_
  | with_reducible refine isd .tup kt_tup_str ?_
  | with_reducible refine isd .lst kt_lst_str ?_
  | with_reducible refine isd .non kt_non_tuple ?_
  | with_reducible refine isd .bl kt_bl_tuple ?_
  | with_reducible refine isd .int kt_int_tuple ?_
  | with_reducible refine isd .str kt_str_tuple ?_
  | with_reducible refine isd .lst kt_lst_tuple ?_))
local macro_rules | `(tactic| walk_at "evCa") => `(tactic| ((with_reducible show EvE _ (Expr.Call (Expr.Name (Str.ofString "isinstance") _) _ _ _) _ _); first
  | with_reducible refine e_isin (Txt.isin (by assumption)) (Txt.c_int (by assumption)) ?_
  | with_reducible refine e_isin (Txt.isin (by assumption)) (Txt.c_tuple (by assumption)) ?_
  | with_reducible refine e_isin (Txt.isin (by assumption)) (Txt.c_bool (by assumption)) ?_
  | with_reducible refine e_isin (Txt.isin (by assumption)) (by assumption) ?_))

/-! _law_said, _law_marks -/
def said : List Str := ["inline", "one", "on", "aside", "asquare", "same", "sameline", "far", "areas", "ring", "angles", "evenpair", "touches", "touching", "squareround", "evenround"]
def mk16 : List Str := ["ppp", "lll", "pw", "ll", "ll", "pp", "ll", "pppp", "pppppp", "pppp", "pppppp", "pppp", "lc", "cc", "cc", "cc"]
def marksF (z : Str) : Str := mk16.getD (said.idxOf z) (Str.ofString "")
def Fsd : Fn := fun ds r => ds = [] ∧ r = .ok (.ow (said.map D.str))
theorem f_sd : Fsd [] (.ok (.ow (said.map D.str))) := ⟨rfl, rfl⟩
def Fmk : Fn := fun ds r => ∃ z, z ∈ said ∧ ds = [.str z] ∧ r = .ok (.va (.str (marksF z)))
theorem f_mk {z : Str} (h : z ∈ said) : Fmk [.str z] (.ok (.va (.str (marksF z)))) := ⟨z, h, rfl, rfl⟩
theorem ok_sd {f : Addr} {fd : FuncData} (Fu : Fun K "_law_said" "_law_said" st_l_said f fd) : FnOk P w K mg base (CXE P w) 1 f fd [] (spF K Fsd) := by
  refine fn_q Fu sc_l_said (by rintro ds r ⟨rfl, _⟩; rfl) (by rintro ds r ⟨_, rfl⟩; exact ⟨_, rfl⟩) fun c hq ds sl hF => ?_
  obtain ⟨rfl, e⟩ := hF
  injection e with e
  subst e
  show EvSs c _ [] _ _
  conv in (defBody _) => whnf
  walk_at "ev"
  rfl
theorem idx_at {z : Str} : ∀ {ws : List Str}, z ∈ ws → ws[ws.idxOf z]? = some z ∧ ∀ i, i < ws.idxOf z → ws[i]? ≠ some z
  | [], h => by cases h
  | x :: ws, h => by
    by_cases hx : x = z
    · subst hx
      rw [List.idxOf_cons_self]
      exact ⟨rfl, fun i hi => absurd hi (Nat.not_lt_zero _)⟩
    · have ei : (x :: ws).idxOf z = ws.idxOf z + 1 := by rw [List.idxOf_cons, beq_eq_false_iff_ne.mpr hx]; rfl
      rw [ei]
      have hm : z ∈ ws := (List.mem_cons.mp h).elim (fun q => absurd q.symm hx) id
      obtain ⟨h1, h2⟩ := idx_at hm
      refine ⟨h1, fun i hi => ?_⟩
      cases i with
      | zero => intro q; exact hx (Option.some.inj q)
      | succ i => exact h2 i (by lia)
section
local macro_rules | `(tactic| walk_at "evCa") => `(tactic| with_reducible refine e_x (x_call0 (F := Fsd) (by assumption) (by decide) ?_))
local macro_rules | `(tactic| walk_at "evMt") => `(tactic| with_reducible refine e_index ?_)
local macro_rules | `(tactic| walk_at "evR") => `(tactic| with_reducible refine rs_ok f_sd ?_)
theorem ok_mk {f : Addr} {fd : FuncData} (Fu : Fun K "_law_marks" "_law_marks" st_l_marks f fd) (h1 : Cal P w K mg base 1 (Str.ofString "_law_said") Fsd) : FnOk P w K mg base (CXE P w) 2 f fd ["_law_word"] (spF K Fmk) := by
  refine fn_q Fu sc_l_marks (by rintro ds r ⟨z, _, rfl, _⟩; rfl) (by rintro ds r ⟨z, _, _, rfl⟩; exact ⟨_, rfl⟩) fun c hq ds sl hF => ?_
  obtain ⟨z, hz, rfl, e⟩ := hF
  injection e with e
  subst e
  show EvSs c _ [.va (.str z), .un] _ _
  conv in (defBody _) => whnf
  walk_at "nx"
  walk_at "sb"
  refine ss_frz 1 (by walk_at "at") rfl (by walk_at "sset") ?_
  walk_at "nx"
  walk_at "sb"
  refine ss_frz 1 (by walk_at "at") rfl (by walk_at "sset") ?_
  show EvSs c _ [.va (.str z), .va (.lst (mk16.map D.str))] _ _
  walk_at "nx"
  refine ⟨said, rfl, ?_⟩
  walk_at "ev"
  obtain ⟨a, b⟩ := idx_at hz
  refine ⟨z, _, rfl, a, b, ?_⟩
  refine ixp_l (at_strs ?_) ?_
  · have := (List.getElem?_eq_some_iff.mp a).1
    exact this
  rfl
end

end



section
variable {P : Program} {w : World} {K : PySem.W.Frag} {mg : Str → Option Value} {base : Heap}
local macro_rules | `(tactic| walk_at "evL") => `(tactic| ((with_reducible show ∃ t b, TyD _ _ t ∧ _); first
  | with_reducible refine isd .non kt_non_int ?_
  | with_reducible refine isd .bl kt_bl_int ?_
  | with_reducible refine isd .str kt_str_int ?_
  | with_reducible refine isd .tup kt_tup_int ?_
  | with_reducible refine isd .lst kt_lst_int ?_
  | with_reducible refine isd .non kt_non_bool ?_
  | with_reducible refine isd .str kt_str_bool ?_
  | with_reducible refine isd .tup kt_tup_bool ?_
  | with_reducible refine isd .lst kt_lst_bool ?_
  | with_reducible refine isd .non kt_non_str ?_
  | with_reducible refine isd .bl kt_bl_str ?_
  | with_reducible refine isd .int kt_int_str ?_
  | with_reducible refine isd .str kit_ss ?_
  | with_reducible refine isd .tup kt_tup_str ?_
  | with_reducible refine isd .lst kt_lst_str ?_
  | with_reducible refine isd .non kt_non_tuple ?_
  | with_reducible refine isd .bl kt_bl_tuple ?_
  | with_reducible refine isd .int kt_int_tuple ?_
  | with_reducible refine isd .str kt_str_tuple ?_
  | with_reducible refine isd .lst kt_lst_tuple ?_))
local macro_rules | `(tactic| walk_at "evCa") => `(tactic| ((with_reducible show EvE _ (Expr.Call (Expr.Name (Str.ofString "isinstance") _) _ _ _) _ _); first
  | with_reducible refine e_isin (Txt.isin (by assumption)) (Txt.c_int (by assumption)) ?_
  | with_reducible refine e_isin (Txt.isin (by assumption)) (Txt.c_tuple (by assumption)) ?_
  | with_reducible refine e_isin (Txt.isin (by assumption)) (Txt.c_bool (by assumption)) ?_
  | with_reducible refine e_isin (Txt.isin (by assumption)) (by assumption) ?_))

/-! read_saying -/
section
variable {k : Nat} {N : List Str} {sc : Scope} {bk : Bool} {c : EV.Ctx P w K mg base k N sc bk} {ρ : List Sl} {nx : List Sl → Prop} {p : Pt} {st : Stmt}
theorem PSnox {X : Cx} {t : TS} (h : PS X.nox st t) : PS X st t := fun pins s σ H D I hw => wpAny_mono (h pins s σ H D (I.wish _) hw) (fun _ _ q => q.unwish) fun _ _ z => z.elim
theorem s_nox (h : ∀ c' : EV.Ctx P w K mg base k N sc bk, c'.X.xe = (fun _ _ => False) → EvS c' st ρ nx p) : EvS c st ρ nx p := fun σ H Hf D S o pins s I =>
  PSnox (X := c.X) (pbS (X := c.X.nox)) pins s σ H D I (h c.nox rfl σ H Hf D S ⟨o.nx, o.rt, o.bk, o.ct⟩)
end
theorem said_eq : said = sayW.map (·.1) := by decide +kernel
theorem any_said (z : Str) : (said.any fun n => n == z) = wordOk (.str z) := by
  rw [said_eq, List.any_map]; rfl
theorem mem_said {z : Str} (h : wordOk (.str z) = true) : z ∈ said := by
  rw [← any_said, List.any_eq_true] at h
  obtain ⟨x, hx, e⟩ := h
  rw [show x = z from by simpa using e] at hx
  exact hx
theorem marks_len : ∀ p ∈ sayW, (marksF p.1).length = p.2.length := by decide +kernel
theorem marks_few : ∀ z ∈ said, (marksF z).length ≤ 6 ∧ 2 ≤ (marksF z).length ∧ (marksF z).cps.all (· < 128) = true := by decide +kernel
section
variable {k : Nat} {N : List Str} {sc : Scope} {bk : Bool} {c : Ctx P w K mg base k N sc bk} {ρ : List Sl} {pos : Pos} {a b : Expr} {Z : Bool → Prop}
theorem t_notinSL (h : EvE c a ρ fun x => EvE c b ρ fun y => ∃ (i : Str) (ns : List Str), x = .str i ∧ y = .lst (ns.map .str) ∧ Z (!(ns.any fun n => n == i))) (hm : behindInMarks CmpOp.NotIn b = false := by with_unfolding_all rfl) : EvT c (.Compare a [.NotIn] [b] pos) ρ Z :=
  t_cmp op_notIn_seq (cmp_inSL true) (h.imp fun x h1 => h1.imp fun y ⟨u, v, e1, e2, q⟩ => ⟨u, v, e1, e2, q⟩) hm
end
def okW (zs : List Str) : List Str → Bool
  | [] => false
  | w :: r => wordOk (.str w) && (decide (r.length = (marksF w).length) && r.all fun x => decide (x ∈ zs))
def tupW (zs : List Str) : List Str → EV.D
  | [] => .non
  | w :: r => .tup (.str w :: r.map fun x => .int (zs.idxOf x))
def blk : Str := Str.ofString " "
def rdR (CT : Addr) (zs : List Str) (ws : List Str) : Res := if okW zs ws then .ok (.va (tupW zs ws)) else .ex CT
structure RdOk (t : Str) (zs : List Str) : Prop where
  t : t.length ≤ 19000
  n : NG zs
  l : zs.length ≤ 24
def Frd (CT : Addr) : Fn := fun ds r => ∃ t zs, RdOk t zs ∧ ds = [.str t, .lst (zs.map D.str)] ∧ r = rdR CT zs (Txt.split t blk)
theorem f_rd (CT : Addr) {t : Str} {zs : List Str} (h : RdOk t zs) (e : okW zs (Txt.split t blk) = true) : Frd CT [.str t, .lst (zs.map D.str)] (.ok (.va (tupW zs (Txt.split t blk)))) := ⟨t, zs, h, rfl, by unfold rdR; rw [e]; rfl⟩
theorem f_rdX (CT : Addr) {t : Str} {zs : List Str} (h : RdOk t zs) (e : okW zs (Txt.split t blk) = false) : Frd CT [.str t, .lst (zs.map D.str)] (.ex CT) := ⟨t, zs, h, rfl, by unfold rdR; rw [e]; rfl⟩
theorem rd_no (CT : Addr) {zs ws : List Str} (h : okW zs ws = false) : rdR CT zs ws = .ex CT := by unfold rdR; rw [h]; rfl
theorem rd_yes (CT : Addr) {zs ws : List Str} (h : okW zs ws = true) : rdR CT zs ws = .ok (.va (tupW zs ws)) := by unfold rdR; rw [h]; rfl
theorem split_cons (t : Str) : ∃ w r, Txt.split t blk = w :: r := by
  cases e : Txt.split t blk with
  | nil => have := EV.split_pos t blk; rw [e] at this; exact absurd this (by decide)
  | cons w r => exact ⟨w, r, rfl⟩
theorem nb_none (zs : List Str) : ∀ r : List Str, (r.map (nbO zs)).any (·.isNone) = !(r.all fun x => decide (x ∈ zs))
  | [] => rfl
  | x :: r => by
    rw [List.map_cons, List.any_cons, List.all_cons, nb_none zs r]
    unfold nbO
    by_cases h : x ∈ zs
    · rw [if_pos h, decide_eq_true h]; rfl
    · rw [if_neg h, decide_eq_false h]; rfl
theorem nb_all {zs : List Str} : ∀ {r : List Str}, (r.all fun x => decide (x ∈ zs)) = true → (r.map (nbO zs)).map oD = r.map fun x => D.int (zs.idxOf x)
  | [], _ => rfl
  | x :: r, h => by
    rw [List.all_cons, Bool.and_eq_true] at h
    rw [List.map_cons, List.map_cons, List.map_cons, nb_all h.2]
    unfold nbO
    rw [if_pos (of_decide_eq_true h.1)]; rfl
section
local macro_rules | `(tactic| walk_at "evXC") => `(tactic| first
  | with_reducible refine x_call (F := Fnb) (by assumption) (by decide) ?_
  | with_reducible refine x_split ?_)
local macro_rules | `(tactic| walk_at "evMt") => `(tactic| with_reducible refine e_fget ?_)
local macro_rules | `(tactic| walk_at "evCa") => `(tactic| first
  | with_reducible refine e_call (F := Fsw) (by assumption) (by decide) ?_)
local macro_rules | `(tactic| walk_at "evIx") => `(tactic| first
  | with_reducible refine e_gdix (by assumption) (by assumption) ?_)
local macro_rules | `(tactic| walk_at "evT") => `(tactic| with_reducible refine t_inN ?_)
theorem ok_rd {f S CT fI : Addr} {fd fdI : FuncData} (Fu : Fun K "read_saying" "read_saying" st_read_saying f fd) (T : Txt K mg) (h1 : Cal P w K mg base 1 (Str.ofString "numbers_by") Fnb) (h2 : Cal P w K mg base 1 (Str.ofString "is_saying_word") Fsw) (hm : mg (Str.ofString "SAYINGS") = some (.ref S)) (hG : GDat K w S sayW)
    (hC : mg (Str.ofString "NoText") = some (.ref CT)) (L : ExL K CT fI (Str.ofString "line")) (FI : FnOk P w K mg base (CXE P w) 1 fI fdI ["self", "line"] (spI CT)) (hbi : Binds K fdI ["self", "line"] []) (hkp : PySem.W.keepIn K (.ref CT) = true) : FnOk P w K mg base (CXE P w) 4 f fd ["line", "names"] (spF K (Frd CT)) := by
  refine fn_x Fu sc_read_saying (by rintro ds r ⟨t, zs, _, rfl, _⟩; rfl) fun c ds r hF hRM => ?_
  obtain ⟨t, zs, h, rfl, e⟩ := hF
  show EvSs c _ [.va (.str t), .va (.lst (zs.map D.str)), .un, .un, .un] _ _
  conv in (defBody _) => whnf
  obtain ⟨w, r, ew⟩ := split_cons t
  have hwl := split_len t blk
  have ht := h.t
  rw [ew] at e hwl
  rw [List.length_cons] at hwl
  have hrl : r.length ≤ 20000 := by lia
  walk_at "nx"
  refine ⟨t, rfl, ?_⟩
  walk_at "ev"
  refine ⟨blk, rfl, Sd.mk ⟨rfl, by lia⟩ ?_⟩
  rw [ew]
  walk_at "ev"
  walk_at "sb"
  refine ss_frz 2 (by walk_at "at") rfl (by walk_at "sset") ?_
  walk_at "nx"
  refine rs_ok (f_nb (by have := h.l; lia)) ?_
  rw [nb_merge h.n.nd]
  walk_at "ev"
  walk_at "sb"
  refine ss_frzD 3 (by walk_at "at") rfl (by walk_at "sset") ?_
  walk_at "nx"
  refine s_nox fun c1 hq => s_setC (i := 4) (by walk_at "at") hq (N' := ["word", "numbers"]) (ρ0 := fun _ => [.un, .va (.fdK ((nbL zs).map (·.1)) ((nbL zs).map (·.2)))]) (fun t => .un (.fr (by walk_at "at") (by walk_at "at") (by decide) rfl .nil)) (i_seq ?_)
  walk_at "ev"
  · rw [List.map_cons, cut_tail, List.length_map]
    exact Nat.le_trans hrl (by decide)
  rw [List.map_cons, cut_tail]
  refine ⟨r.map fun x => some (oD (nbO zs x)), by simp, ?_, ?_⟩
  · intro c3 hc3 t k d o hd ho
    obtain ⟨x, hx, rfl, rfl⟩ := map_at2 hd ho
    refine g_name (by walk_at "at") (nxt (by walk_at "sset") ⟨.un (.same .nil), ?_⟩)
    simp only [EvC]
    refine ⟨fun _ => ?_, fun h => by cases h⟩
    walk_at "ev"
    refine ⟨nbL zs, rfl, ?_⟩
    walk_at "ev"
    refine ⟨.inr x, rfl, ?_⟩
    rw [nb_val]
  rw [some_map', show (r.map fun x => oD (nbO zs x)) = (r.map (nbO zs)).map oD by rw [List.map_map]; rfl]
  walk_at "ev"
  walk_at "sb"
  refine ss_frz 4 (by walk_at "at") rfl (by walk_at "sset") ?_
  walk_at "nx"
  refine ixp_l (at_hd _ _) ?_
  walk_at "ev"
  refine rs_ok (f_sw rfl) (fz_va ?_)
  cases hw : wordOk (.str w)
  · have e := e.trans (rd_no CT (by show (wordOk (.str w) && _) = false; rw [hw]; rfl))
    walk_at "ev"
    refine s_raiseL hC L FI hbi hkp (by decide) ?_
    walk_at "ev"
    exact ⟨rfl, hRM _ _ e⟩
  obtain ⟨z, p, ez, hp⟩ := word_yes hw
  cases ez
  have hmk : (marksF w).length = p.2.length := by
    have h1 := marks_len p (List.mem_of_find?_eq_some hp)
    rw [show p.1 = w by simpa using List.find?_some hp] at h1
    exact h1
  walk_at "ev"
  refine ixp_l (at_hd _ _) ?_
  walk_at "ev"
  refine ⟨w, p, rfl, hp, _, rfl, ?_⟩
  have hl1 : (List.map oD (List.map (nbO zs) r)).length = r.length := by rw [List.length_map, List.length_map]
  have hl2 : (p.2.map D.str).length = p.2.length := by rw [List.length_map]
  walk_at "ev"
  · rename_i hl
    rw [hl1, hl2] at hl
    refine ⟨r.map (nbO zs), rfl, rfl, ?_⟩
    rw [nb_none]
    cases ha : r.all fun x => decide (x ∈ zs)
    · have e := e.trans (rd_no CT (by show (_ && (_ && r.all _)) = false; rw [ha, Bool.and_false, Bool.and_false]))
      walk_at "ev"
      refine s_raiseL hC L FI hbi hkp (by decide) ?_
      walk_at "ev"
      exact ⟨rfl, hRM _ _ e⟩
    · have e := e.trans (rd_yes CT (by show (wordOk (.str w) && (decide _ && r.all _)) = true; rw [hw, ha, decide_eq_true (by lia)]; rfl))
      rw [nb_all ha]
      walk_at "ev"
      walk_at "sb"
      walk_at "nx"
      refine ixp_l (at_hd _ _) ?_
      walk_at "ev"
      · rw [List.length_map]
        exact Nat.le_trans (show 1 + r.length ≤ 20001 by lia) (by decide)
      · exact e
  · rename_i hl
    rw [hl1, hl2] at hl
    have e := e.trans (rd_no CT (by show (_ && (decide _ && _)) = false; rw [decide_eq_false (show ¬ r.length = (marksF w).length by lia), Bool.false_and, Bool.and_false]))
    refine s_raiseL hC L FI hbi hkp (by decide) ?_
    walk_at "ev"
    exact ⟨rfl, hRM _ _ e⟩
end

end



section
variable {P : Program} {w : World} {K : PySem.W.Frag} {mg : Str → Option Value} {base : Heap}
local macro_rules | `(tactic| walk_at "evL") => `(tactic| ((with_reducible show ∃ t b, TyD _ _ t ∧ _); first
  | with_reducible refine isd .non kt_non_int ?_
  | with_reducible refine isd .bl kt_bl_int ?_
  | with_reducible refine isd .str kt_str_int ?_
  | with_reducible refine isd .tup kt_tup_int ?_
  | with_reducible refine isd .lst kt_lst_int ?_
  | with_reducible refine isd .non kt_non_bool ?_
  | with_reducible refine isd .str kt_str_bool ?_
  | with_reducible refine isd .tup kt_tup_bool ?_
  | with_reducible refine isd .lst kt_lst_bool ?_
  | with_reducible refine isd .non kt_non_str ?_
  | with_reducible refine isd .bl kt_bl_str ?_
  | with_reducible refine isd .int kt_int_str ?_
  | with_reducible refine isd .str kit_ss ?_
  | with_reducible refine isd .tup kt_tup_str ?_
  | with_reducible refine isd .lst kt_lst_str ?_
  | with_reducible refine isd .non kt_non_tuple ?_
  | with_reducible refine isd .bl kt_bl_tuple ?_
  | with_reducible refine isd .int kt_int_tuple ?_
  | with_reducible refine isd .str kt_str_tuple ?_
  | with_reducible refine isd .lst kt_lst_tuple ?_))
local macro_rules | `(tactic| walk_at "evCa") => `(tactic| ((with_reducible show EvE _ (Expr.Call (Expr.Name (Str.ofString "isinstance") _) _ _ _) _ _); first
  | with_reducible refine e_isin (Txt.isin (by assumption)) (Txt.c_int (by assumption)) ?_
  | with_reducible refine e_isin (Txt.isin (by assumption)) (Txt.c_tuple (by assumption)) ?_
  | with_reducible refine e_isin (Txt.isin (by assumption)) (Txt.c_bool (by assumption)) ?_
  | with_reducible refine e_isin (Txt.isin (by assumption)) (by assumption) ?_))

/-! _law_reader, _law_good -/
def Frdr : Fn := fun ds r => ∃ t zs, RdOk t zs ∧ ds = [.str t, .lst (zs.map D.str)] ∧ r = .ok (.va (if okW zs (Txt.split t blk) then tupW zs (Txt.split t blk) else .non))
theorem f_rdr {t : Str} {zs : List Str} (h : RdOk t zs) : Frdr [.str t, .lst (zs.map D.str)] (.ok (.va (if okW zs (Txt.split t blk) then tupW zs (Txt.split t blk) else .non))) := ⟨t, zs, h, rfl, rfl⟩
theorem any_mem (zs : List Str) (x : Str) : (zs.any fun n => n == x) = decide (x ∈ zs) := by
  by_cases h : x ∈ zs
  · rw [decide_eq_true h, List.any_eq_true]
    exact ⟨x, h, beq_self_eq_true x⟩
  · rw [decide_eq_false h, List.any_eq_false]
    intro y hy q
    rw [show y = x by simpa using q] at hy
    exact h hy
section
local macro_rules | `(tactic| walk_at "evXC") => `(tactic| with_reducible refine x_split ?_)
local macro_rules | `(tactic| walk_at "evMt") => `(tactic| with_reducible refine e_index ?_)
local macro_rules | `(tactic| walk_at "evCa") => `(tactic| first
  | with_reducible refine e_x (x_call0 (F := Fsd) (by assumption) (by decide) ?_)
  | with_reducible refine e_call (F := Fmk) (by assumption) (by decide) ?_
  | ((with_reducible show EvE _ (Expr.Call (Expr.Name (Str.ofString "len") _) [Expr.Call (Expr.Name (Str.ofString "_law_marks") _) _ _ _] _ _) _ _); with_reducible refine e_lenS (Txt.len (by assumption)) ?_))
local macro_rules | `(tactic| walk_at "evT") => `(tactic| with_reducible refine t_notinSL ?_)
local macro_rules | `(tactic| walk_at "evR") => `(tactic| with_reducible refine rs_ok f_sd ?_)
theorem ok_rdr {f : Addr} {fd : FuncData} (Fu : Fun K "_law_reader" "_law_reader" st_l_reader f fd) (T : Txt K mg) (h1 : Cal P w K mg base 1 (Str.ofString "_law_said") Fsd) (h2 : Cal P w K mg base 2 (Str.ofString "_law_marks") Fmk) : FnOk P w K mg base (CXE P w) 3 f fd ["_law_text", "_law_names_here"] (spF K Frdr) := by
  refine fn_q Fu sc_l_reader (by rintro ds r ⟨t, zs, _, rfl, _⟩; rfl) (by rintro ds r ⟨t, zs, _, _, rfl⟩; exact ⟨_, rfl⟩) fun c hq ds sl hF => ?_
  obtain ⟨t, zs, h, rfl, e⟩ := hF
  injection e with e
  subst e
  show EvSs c _ [.va (.str t), .va (.lst (zs.map D.str)), .un, .un] _ _
  conv in (defBody _) => whnf
  obtain ⟨w, r, ew⟩ := split_cons t
  have hwl := split_len t blk
  have ht := h.t
  rw [ew] at hwl ⊢
  rw [List.length_cons] at hwl
  have hrl : r.length ≤ 20000 := by lia
  walk_at "nx"
  refine ⟨t, rfl, ?_⟩
  walk_at "ev"
  refine ⟨blk, rfl, Sd.mk ⟨rfl, by lia⟩ ?_⟩
  rw [ew]
  walk_at "ev"
  walk_at "sb"
  refine ss_frz 2 (by walk_at "at") rfl (by walk_at "sset") ?_
  walk_at "nx"
  refine ixp_l (at_hd _ _) ?_
  walk_at "ev"
  refine ⟨w, said, rfl, rfl, ?_⟩
  rw [any_said]
  cases hw : wordOk (.str w)
  · walk_at "ev"
    rw [show okW zs (w :: r) = false by show (wordOk (.str w) && _) = false; rw [hw]; rfl]
    rfl
  have hz := mem_said hw
  obtain ⟨f1, f2, f3⟩ := marks_few w hz
  walk_at "ev"
  refine ixp_l (at_hd _ _) ?_
  walk_at "ev"
  refine rs_ok (f_mk hz) (fz_va ?_)
  walk_at "ev"
  refine ⟨_, rfl, Sd.mk (Nat.le_trans f1 (by decide)) ?_⟩
  have hl0 : (List.map D.str (w :: r)).length = r.length + 1 := by rw [List.length_map, List.length_cons]
  walk_at "ev"
  rotate_left
  · rename_i hl
    rw [hl0] at hl
    rw [show okW zs (w :: r) = false by show (_ && (decide _ && _)) = false; rw [decide_eq_false (show ¬ r.length = (marksF w).length by lia), Bool.false_and, Bool.and_false]]
    rfl
  rename_i hl
  rw [hl0] at hl
  have hl : r.length = (marksF w).length := by lia
  have eok : okW zs (w :: r) = r.all fun x => decide (x ∈ zs) := by
    show (wordOk (.str w) && (decide _ && r.all _)) = _
    rw [hw, decide_eq_true hl, Bool.true_and, Bool.true_and]
  walk_at "sb"
  refine ss_cons (s_for hq (i_seq ?_))
  walk_at "ev"
  rw [List.map_cons, cut_tail]
  refine ⟨fun i ρ' => (∀ j, j < i → ∀ x, r[j]? = some x → x ∈ zs) ∧ ∃ s3 : Sl, ρ' = [.va (.str t), .va (.lst (zs.map D.str)), .va (.lst (.str w :: r.map D.str)), s3], ⟨fun j hj => absurd hj (Nat.not_lt_zero _), _, rfl⟩, ?_, ?_⟩
  · rintro c2 hcX hcR hcM i d ρ' hd ⟨hI, s3, rfl⟩
    rw [List.getElem?_map] at hd
    obtain ⟨x, hx, rfl⟩ := Option.map_eq_some_iff.mp hd
    refine g_name (by walk_at "at") (nxt (by walk_at "sset") ?_)
    walk_at "ev"
    refine ⟨x, zs, rfl, rfl, ?_⟩
    rw [any_mem]
    by_cases hm : x ∈ zs
    · rw [decide_eq_true hm]
      walk_at "ev"
      refine ⟨fun j hj y hy => ?_, _, rfl⟩
      by_cases hji : j = i
      · subst hji
        rw [hx] at hy; cases hy; exact hm
      · exact hI j (by lia) y hy
    · rw [decide_eq_false hm]
      walk_at "ev"
      rw [eok, show (r.all fun x => decide (x ∈ zs)) = false from ?_]
      · rfl
      · rw [List.all_eq_false]
        exact ⟨x, List.mem_of_getElem? hx, by rw [decide_eq_false hm]; decide⟩
  rintro ρ' ⟨hI, s3, rfl⟩
  rw [List.length_map] at hI
  have hin : ∀ x ∈ r, x ∈ zs := fun x hx => by
    obtain ⟨j, hj, e⟩ := List.getElem_of_mem hx
    exact hI j hj x (by rw [List.getElem?_eq_getElem hj, e])
  rw [eok, show (r.all fun x => decide (x ∈ zs)) = true from List.all_eq_true.mpr fun x hx => decide_eq_true (hin x hx), if_pos rfl]
  walk_at "nx"
  refine ixp_l (at_hd _ _) ?_
  walk_at "ev"
  refine e_x (x_comp hq (N' := ["_law_word", "_law_names_here"]) (ρ0 := fun _ => [.un, .va (.lst (zs.map D.str))]) (fun t => .un (.fr (by walk_at "at") (by walk_at "at") (by decide) rfl .nil)) (i_seq ?_))
  walk_at "ev"
  · rw [cut_tail, List.length_map]
    exact Nat.le_trans hrl (by decide)
  rw [cut_tail]
  refine ⟨r.map fun x => some (D.int (zs.idxOf x)), by simp, ?_, fz_ow ?_⟩
  · intro c3 hc3 t k d o hd ho
    obtain ⟨x, hx, rfl, rfl⟩ := map_at2 hd ho
    obtain ⟨i1, i2⟩ := idx_at (hin x (List.mem_of_getElem? hx))
    refine g_name (by walk_at "at") (nxt (by walk_at "sset") ⟨.un (.same .nil), ?_⟩)
    simp only [EvC]
    refine ⟨fun _ => ?_, fun h => by cases h⟩
    walk_at "ev"
    refine ⟨zs, rfl, ?_⟩
    walk_at "ev"
    exact ⟨x, _, rfl, i1, i2, rfl⟩
  rw [some_map']
  walk_at "ev"
  · rw [List.length_map]
    exact Nat.le_trans (show 1 + r.length ≤ 20001 by lia) (by decide)
  rfl
end

end



section
variable {P : Program} {w : World} {K : PySem.W.Frag} {mg : Str → Option Value} {base : Heap}
local macro_rules | `(tactic| walk_at "evL") => `(tactic| ((with_reducible show ∃ t b, TyD _ _ t ∧ _); first
  | with_reducible refine isd .non kt_non_int ?_
  | with_reducible refine isd .bl kt_bl_int ?_
  | with_reducible refine isd .str kt_str_int ?_
  | with_reducible refine isd .tup kt_tup_int ?_
  | with_reducible refine isd .lst kt_lst_int ?_
  | with_reducible refine isd .non kt_non_bool ?_
  | with_reducible refine isd .str kt_str_bool ?_
  | with_reducible refine isd .tup kt_tup_bool ?_
  | with_reducible refine isd .lst kt_lst_bool ?_
  | with_reducible refine isd .non kt_non_str ?_
  | with_reducible refine isd .bl kt_bl_str ?_
  | with_reducible refine isd .int kt_int_str ?_
  | with_reducible refine isd .str kit_ss ?_
  | with_reducible refine isd .tup kt_tup_str ?_
  | with_reducible refine isd .lst kt_lst_str ?_
  | with_reducible refine isd .non kt_non_tuple ?_
  | with_reducible refine isd .bl kt_bl_tuple ?_
  | with_reducible refine isd .int kt_int_tuple ?_
  | with_reducible refine isd .str kt_str_tuple ?_
  | with_reducible refine isd .lst kt_lst_tuple ?_))
local macro_rules | `(tactic| walk_at "evCa") => `(tactic| ((with_reducible show EvE _ (Expr.Call (Expr.Name (Str.ofString "isinstance") _) _ _ _) _ _); first
  | with_reducible refine e_isin (Txt.isin (by assumption)) (Txt.c_int (by assumption)) ?_
  | with_reducible refine e_isin (Txt.isin (by assumption)) (Txt.c_tuple (by assumption)) ?_
  | with_reducible refine e_isin (Txt.isin (by assumption)) (Txt.c_bool (by assumption)) ?_
  | with_reducible refine e_isin (Txt.isin (by assumption)) (by assumption) ?_))

/-! _law_good -/
def Fgd : Fn := fun ds r => ∃ (z : Str) (is : List Int), is.length ≤ 20000 ∧ ds = [.tup (.str z :: is.map D.int), .tup (.str z :: is.map D.int)] ∧ r = .ok (.va (.bl true))
theorem f_gd {z : Str} {is : List Int} (h : is.length ≤ 20000) : Fgd [.tup (.str z :: is.map D.int), .tup (.str z :: is.map D.int)] (.ok (.va (.bl true))) := ⟨z, is, h, rfl, rfl⟩
theorem ok_gd {f : Addr} {fd : FuncData} (Fu : Fun K "_law_good" "_law_good" st_l_good f fd) (T : Txt K mg) (Ts : ClsName mg (Str.ofString "str") (.type "str")) : FnOk P w K mg base (CXE P w) 1 f fd ["_law_found", "_law_due"] (spF K Fgd) := by
  refine fn_q Fu sc_l_good (by rintro ds r ⟨z, is, _, rfl, _⟩; rfl) (by rintro ds r ⟨z, is, _, _, rfl⟩; exact ⟨_, rfl⟩) fun c hq ds sl hF => ?_
  obtain ⟨z, is, h, rfl, e⟩ := hF
  injection e with e
  subst e
  show EvSs c _ [.va (.tup (.str z :: is.map D.int)), .va (.tup (.str z :: is.map D.int))] _ _
  conv in (defBody _) => whnf
  walk_at "nx"
  refine ixp_t (at_hd _ _) ?_
  walk_at "ev"
  refine eqp_tup (Sd.mk (fun i d e h1 h2 => ?_) ?_)
  · rw [h1] at h2; cases h2
    rcases List.mem_cons.mp (List.mem_of_getElem? h1) with rfl | hm
    · exact .sc rfl
    · obtain ⟨x, _, rfl⟩ := List.mem_map.mp hm
      exact .sc rfl
  rw [decide_eq_true rfl]
  walk_at "ev"
  walk_at "sb"
  walk_at "nx"
  refine e_x (x_comp hq (N' := ["_law_one"]) (ρ0 := fun _ => [.un]) (fun t => .un .nil) (i_seq ?_))
  walk_at "ev"
  · rw [cut_tail, List.length_map]
    exact Nat.le_trans h (by decide)
  rw [cut_tail]
  refine ⟨is.map fun _ => none, by simp, ?_, fz_ow ?_⟩
  · intro c3 hc3 t k d o hd ho
    obtain ⟨x, hx, rfl, rfl⟩ := map_at2 hd ho
    refine g_name (by walk_at "at") (nxt (by walk_at "sset") ⟨.un .nil, ?_⟩)
    simp only [EvC]
    walk_at "ev"
    trivial
  have en : (is.map fun _ => (none : Option EV.D)).filterMap id = [] := by
    rw [List.filterMap_eq_nil_iff]
    intro o ho
    obtain ⟨_, _, rfl⟩ := List.mem_map.mp ho; rfl
  rw [en]
  walk_at "ev"
  rfl

end



section
variable {P : Program} {w : World} {K : PySem.W.Frag} {mg : Str → Option Value} {base : Heap}
local macro_rules | `(tactic| walk_at "evL") => `(tactic| ((with_reducible show ∃ t b, TyD _ _ t ∧ _); first
  | with_reducible refine isd .non kt_non_int ?_
  | with_reducible refine isd .bl kt_bl_int ?_
  | with_reducible refine isd .str kt_str_int ?_
  | with_reducible refine isd .tup kt_tup_int ?_
  | with_reducible refine isd .lst kt_lst_int ?_
  | with_reducible refine isd .non kt_non_bool ?_
  | with_reducible refine isd .str kt_str_bool ?_
  | with_reducible refine isd .tup kt_tup_bool ?_
  | with_reducible refine isd .lst kt_lst_bool ?_
  | with_reducible refine isd .non kt_non_str ?_
  | with_reducible refine isd .bl kt_bl_str ?_
  | with_reducible refine isd .int kt_int_str ?_
  | with_reducible refine isd .str kit_ss ?_
  | with_reducible refine isd .tup kt_tup_str ?_
  | with_reducible refine isd .lst kt_lst_str ?_
  | with_reducible refine isd .non kt_non_tuple ?_
  | with_reducible refine isd .bl kt_bl_tuple ?_
  | with_reducible refine isd .int kt_int_tuple ?_
  | with_reducible refine isd .str kt_str_tuple ?_
  | with_reducible refine isd .lst kt_lst_tuple ?_))
local macro_rules | `(tactic| walk_at "evCa") => `(tactic| ((with_reducible show EvE _ (Expr.Call (Expr.Name (Str.ofString "isinstance") _) _ _ _) _ _); first
  | with_reducible refine e_isin (Txt.isin (by assumption)) (Txt.c_int (by assumption)) ?_
  | with_reducible refine e_isin (Txt.isin (by assumption)) (Txt.c_tuple (by assumption)) ?_
  | with_reducible refine e_isin (Txt.isin (by assumption)) (Txt.c_bool (by assumption)) ?_
  | with_reducible refine e_isin (Txt.isin (by assumption)) (by assumption) ?_))

/-! _law_bent -/
theorem if2_tr {A B p : Prop} {i : Decidable p} (h : p) (hA : A) : If2 A B (@decide p i) := if2_dec (fun _ => hA) fun q => absurd h q
theorem if2_fl {A B p : Prop} {i : Decidable p} (h : ¬ p) (hB : B) : If2 A B (@decide p i) := if2_dec (fun q => absurd q h) fun _ => hB
def bpre : Str := Str.ofString " -/=019ABZ_~!"
def chr (t : Str) (i : Int) : Str := ⟨#[t.cps.toList.getD i.toNat 0]⟩
def bAt (t : Str) (n : Int) : Int := n / 1000 % ((t.length : Int) + 1)
def bAtM (t : Str) (n : Int) : Int := if (t.length : Int) - 1 < bAt t n then (t.length : Int) - 1 else bAt t n
def oths (zs : List Str) : List Str := zs ++ said ++ [Str.ofString "", Str.ofString "none", Str.ofString "free"]
def bOth (zs : List Str) (n : Int) : Str := (oths zs).getD (n / 1000 % ((zs.length : Int) + 19)).toNat (Str.ofString "")
def bWs (ws : List Str) (n : Int) (p : Nat) (o : Str) : List Str := if n % 9 = 6 then ws.set p o else if n % 9 = 7 then ws.take p ++ o :: ws.drop p else ws
def bentT (t : Str) (n : Int) (s : Str) (a b : Int) : Str :=
  if n % 9 = 1 then Txt.slice t none (some a) ++ s ++ Txt.slice t (some a) none else if n % 9 = 2 then Txt.slice t none (some a)
  else if n % 9 = 3 then Txt.slice t none (some b) ++ Txt.slice t (some (b + 1)) none else if n % 9 = 4 then Txt.slice t none (some b) ++ s ++ Txt.slice t (some (b + 1)) none
  else Txt.slice t none (some b) ++ Txt.slice t (some (b + 1)) (some (b + 2)) ++ chr t b ++ Txt.slice t (some (b + 2)) none
def bentF (t : Str) (n : Int) (zs : List Str) : Str :=
  if n % 9 = 1 ∨ n % 9 = 2 ∨ n % 9 = 3 ∨ n % 9 = 4 ∨ n % 9 = 5 then bentT t n (chr (bpre ++ t) (n / 9 % (13 + (t.length : Int)))) (bAt t n) (bAtM t n)
  else Txt.join blk (bWs (Txt.split t blk) n (n / 9 % ((Txt.split t blk).length : Int)).toNat (bOth zs n))
structure BentOk (t : Str) (zs : List Str) : Prop where
  t1 : 1 ≤ t.length
  t2 : t.length ≤ 100
  l : zs.length ≤ 24
  e : ∀ z ∈ zs, z.length ≤ 8
def Fbent : Fn := fun ds r => ∃ (t : Str) (n : Int) (zs : List Str), BentOk t zs ∧ ds = [.str t, .int n, .lst (zs.map D.str)] ∧ r = .ok (.va (.str (bentF t n zs)))
theorem f_bent {t : Str} (n : Int) {zs : List Str} (h : BentOk t zs) : Fbent [.str t, .int n, .lst (zs.map D.str)] (.ok (.va (.str (bentF t n zs)))) := ⟨t, n, zs, h, rfl, rfl⟩
theorem bn_sl {t : Str} {l u : Option Int} (h : t.length ≤ 100) : (Txt.slice t l u).length ≤ 100 := Nat.le_trans (Txt.slice_le t l u) h
theorem bn_ch {t : Str} {i : Int} : (chr t i).length ≤ 1 := Nat.le_refl 1
theorem bn_ap {x y : Str} {a b : Nat} (h : x.length ≤ a) (h2 : y.length ≤ b) : (x ++ y).length ≤ a + b := by rw [len_app]; lia
theorem add_s {x y : Str} {a b : Nat} {R : Sl → Prop} (h : x.length ≤ a) (h2 : y.length ≤ b) (h3 : a + b ≤ 1000000) (hR : R (.va (.str (x ++ y)))) : AddP (.str x) (.str y) R := AddP.str (Sd.mk (sz9 (by lia)) hR)
theorem bentT_len {t : Str} {n : Int} {s : Str} {a b : Int} (h : t.length ≤ 100) (hs : s.length ≤ 1) : (bentT t n s a b).length ≤ 301 := by
  unfold bentT
  split
  · exact Nat.le_trans (bn_ap (bn_ap (bn_sl h) hs) (bn_sl h)) (by decide)
  · split
    · exact Nat.le_trans (bn_sl h) (by decide)
    · split
      · exact Nat.le_trans (bn_ap (bn_sl h) (bn_sl h)) (by decide)
      · split
        · exact Nat.le_trans (bn_ap (bn_ap (bn_sl h) hs) (bn_sl h)) (by decide)
        · exact bn_ap (bn_ap (bn_ap (bn_sl h) (bn_sl h)) bn_ch) (bn_sl h)
theorem oths_len (zs : List Str) : (oths zs).length = zs.length + 19 := by
  unfold oths
  rw [List.length_append, List.length_append]; rfl
theorem said_few : ∀ z ∈ said, z.length ≤ 20 := by decide +kernel
theorem oths_few {zs : List Str} (h : ∀ z ∈ zs, z.length ≤ 8) : ∀ z ∈ oths zs, z.length ≤ 20 := by
  intro z hz
  unfold oths at hz
  rw [List.mem_append, List.mem_append] at hz
  rcases hz with (hz | hz) | hz
  · exact Nat.le_trans (h z hz) (by decide)
  · exact said_few z hz
  · revert z; decide +kernel
theorem getD_few {l : List Str} {B : Nat} (h : ∀ z ∈ l, z.length ≤ B) (i : Nat) : (l.getD i (Str.ofString "")).length ≤ B := by
  rw [List.getD_eq_getElem?_getD]
  cases e : l[i]? with
  | none => exact Nat.zero_le _
  | some z => exact h z (List.mem_of_getElem? e)
theorem bWs_len {ws : List Str} {n : Int} {p : Nat} {o : Str} : (bWs ws n p o).length ≤ ws.length + 1 := by
  unfold bWs
  split
  · rw [List.length_set]; lia
  · split
    · rw [List.length_append, List.length_cons, List.length_take, List.length_drop]; lia
    · lia
theorem bWs_few {ws : List Str} {n : Int} {p : Nat} {o : Str} {B : Nat} (h : ∀ z ∈ ws, z.length ≤ B) (ho : o.length ≤ B) : ∀ z ∈ bWs ws n p o, z.length ≤ B := by
  intro z hz
  unfold bWs at hz
  split at hz
  · rcases List.mem_or_eq_of_mem_set hz with q | q
    · exact h z q
    · rw [q]; exact ho
  · split at hz
    · rw [List.mem_append, List.mem_cons] at hz
      rcases hz with q | q | q
      · exact h z (List.mem_of_mem_take q)
      · rw [q]; exact ho
      · exact h z (List.mem_of_mem_drop q)
    · exact h z hz
theorem join_le (sep : Str) : ∀ zs : List Str, (Str.join sep zs).length ≤ sumL zs + zs.length * sep.length
  | [] => Nat.zero_le _
  | [x] => by show x.length ≤ (x.length + 0) + _; lia
  | x :: y :: r => by
    have h := join_le sep (y :: r)
    have e : sumL (x :: y :: r) = x.length + sumL (y :: r) := by unfold sumL; rw [List.map_cons, List.sum_cons]
    show (x ++ sep ++ Str.join sep (y :: r)).length ≤ _
    rw [len_app, len_app, e, List.length_cons, Nat.succ_mul]
    lia
theorem joinT_le (sep : Str) (zs : List Str) : (Txt.join sep zs).length ≤ sumL zs + zs.length * sep.length := by
  have e : Txt.join sep zs = Str.join sep zs := StrLaws.glued_eq_join sep zs
  rw [e]
  exact join_le sep zs
theorem mul_le2 {a b c d : Nat} (h : a ≤ b) (h2 : c ≤ d) : a * c ≤ b * d := Nat.mul_le_mul h h2
theorem bWs_sum {t : Str} {zs : List Str} (h : BentOk t zs) (n : Int) (p : Nat) : sumL (bWs (Txt.split t blk) n p (bOth zs n)) + (bWs (Txt.split t blk) n p (bOth zs n)).length * blk.length ≤ 10403 := by
  have h1 := bWs_len (ws := Txt.split t blk) (n := n) (p := p) (o := bOth zs n)
  have h2 := split_len t blk
  have h3 := h.t2
  have h4 := bWs_few (n := n) (p := p) (o := bOth zs n) (fun z hz => Nat.le_trans (split_each t blk z hz) h3) (Nat.le_trans (getD_few (oths_few h.e) _) (by decide))
  have h5 := sumL_le h4
  have h6 : (bWs (Txt.split t blk) n p (bOth zs n)).length * 100 ≤ 103 * 100 := mul_le2 (by lia) (Nat.le_refl _)
  have h7 : (bWs (Txt.split t blk) n p (bOth zs n)).length * blk.length ≤ 103 * 1 := mul_le2 (by lia) (Nat.le_refl 1)
  lia
theorem bentF_len {t : Str} {n : Int} {zs : List Str} (h : BentOk t zs) : (bentF t n zs).length ≤ 19000 := by
  unfold bentF
  split
  · exact Nat.le_trans (bentT_len h.t2 bn_ch) (by decide)
  · exact Nat.le_trans (joinT_le _ _) (Nat.le_trans (bWs_sum h n _) (by decide))
theorem at_chr {t : Str} {i : Int} (h0 : 0 ≤ i) (h1 : i < t.length) : atI t.cps.toList i = some (t.cps.toList.getD i.toNat 0) := by
  have l : t.length = t.cps.toList.length := Array.length_toList.symm
  have hi : i.toNat < t.cps.toList.length := by lia
  rw [atI_pos h0 (by lia), List.getD_eq_getElem?_getD, List.getElem?_eq_getElem hi]; rfl
theorem at_oth (zs : List Str) (n : Int) : atI (zs.map D.str ++ said.map D.str ++ [.str (Str.ofString ""), .str (Str.ofString "none"), .str (Str.ofString "free")]) (n / 1000 % ((zs.length : Int) + 19)) = some (.str (bOth zs n)) := by
  have h0 : 0 ≤ n / 1000 % ((zs.length : Int) + 19) := Int.emod_nonneg _ (by lia)
  have h1 : n / 1000 % ((zs.length : Int) + 19) < (zs.length : Int) + 19 := Int.emod_lt_of_pos _ (by lia)
  have e : zs.map D.str ++ said.map D.str ++ [.str (Str.ofString ""), .str (Str.ofString "none"), .str (Str.ofString "free")] = (oths zs).map D.str := by unfold oths; rw [List.map_append, List.map_append]; rfl
  obtain ⟨q, eq⟩ : ∃ q : Nat, n / 1000 % ((zs.length : Int) + 19) = (q : Int) := ⟨_, (Int.toNat_of_nonneg h0).symm⟩
  unfold bOth
  rw [eq] at h1 ⊢
  rw [e, at_strs (by rw [oths_len]; lia), Int.toNat_natCast]
section
local macro_rules | `(tactic| walk_at "evL") => `(tactic| ((with_reducible show If2 _ _ (decide _)); first
  | with_reducible refine if2_tr (by assumption) ?_
  | with_reducible refine if2_fl (by assumption) ?_))
local macro_rules | `(tactic| walk_at "evPut") => `(tactic| with_reducible refine s_lput (by walk_at "at") (by walk_at "at") (by walk_at "own") ?_)
local macro_rules | `(tactic| walk_at "evXp") => `(tactic| with_reducible refine s_insG (by walk_at "at") (by walk_at "at") (by walk_at "own") ?_)
local macro_rules | `(tactic| walk_at "evXC") => `(tactic| with_reducible refine x_split ?_)
local macro_rules | `(tactic| walk_at "evMt") => `(tactic| with_reducible refine e_joinS ?_)
local macro_rules | `(tactic| walk_at "evCa") => `(tactic| first
  | with_reducible refine e_x (x_call0 (F := Fsd) (by assumption) (by decide) ?_)
  | ((with_reducible show EvE _ (Expr.Call (Expr.Name (Str.ofString "len") _) [Expr.Name (Str.ofString "_law_text") _] _ _) _ _); with_reducible refine e_lenS (Txt.len (by assumption)) ?_)
  | ((with_reducible show EvE _ (Expr.Call (Expr.Name (Str.ofString "len") _) [Expr.Name (Str.ofString "_law_some") _] _ _) _ _); with_reducible refine e_lenS (Txt.len (by assumption)) ?_)
  | ((with_reducible show EvE _ (Expr.Call (Expr.Name (Str.ofString "min") _) [_, _] _ _) _ _); with_reducible refine e_min2 (Txt.min (by assumption)) ?_))
local macro_rules | `(tactic| walk_at "evIx") => `(tactic| first
  | ((with_reducible show EvE _ (Expr.Subscript _ (Expr.Slice _ _ _ _) _) _ _); with_reducible refine e_cutS ?_)
  | ((with_reducible show EvE _ (Expr.Subscript (Expr.Name (Str.ofString "_law_some") _) _ _) _ _); with_reducible refine e_ixS ?_)
  | ((with_reducible show EvE _ (Expr.Subscript (Expr.Name (Str.ofString "_law_text") _) _ _) _ _); with_reducible refine e_ixS ?_))
local macro_rules | `(tactic| walk_at "evX") => `(tactic| ((with_reducible show EvX _ (Expr.Subscript _ (Expr.Slice _ _ _ _) _) _ _); with_reducible refine x_e (e_cutS ?_)))
local macro_rules | `(tactic| walk_at "evR") => `(tactic| with_reducible refine rs_ok f_sd ?_)
theorem ok_bent {f : Addr} {fd : FuncData} (Fu : Fun K "_law_bent" "_law_bent" st_l_bent f fd) (T : Txt K mg) (h1 : Cal P w K mg base 1 (Str.ofString "_law_said") Fsd) : FnOk P w K mg base (CXE P w) 2 f fd ["_law_text", "_law_number", "_law_names_here"] (spF K Fbent) := by
  refine fn_q Fu sc_l_bent (by rintro ds r ⟨t, n, zs, _, rfl, _⟩; rfl) (by rintro ds r ⟨t, n, zs, _, _, rfl⟩; exact ⟨_, rfl⟩) fun c hq ds sl hF => ?_
  obtain ⟨t, n, zs, h, rfl, e⟩ := hF
  injection e with e
  subst e
  show EvSs c _ [.va (.str t), .va (.int n), .va (.lst (zs.map D.str)), .un, .un, .un, .un, .un, .un, .un] _ _
  conv in (defBody _) => whnf
  have ht1 := h.t1
  have ht2 := h.t2
  have hts : t.length ≤ sizeLine := sz9 (by lia)
  have hbl : bpre.length = 13 := by decide +kernel
  have esl : (bpre ++ t).length = 13 + t.length := by rw [len_app, hbl]
  have ha0 : 0 ≤ bAt t n := Int.emod_nonneg _ (by lia)
  have ha1 : bAt t n < (t.length : Int) + 1 := Int.emod_lt_of_pos _ (by lia)
  have hb0 : 0 ≤ bAtM t n := by unfold bAtM; split <;> lia
  have hb1 : bAtM t n < (t.length : Int) := by unfold bAtM; split <;> lia
  walk_at "nx"
  refine add_s (a := 13) (b := 100) (Nat.le_of_eq hbl) ht2 (by decide) ?_
  walk_at "ev"
  walk_at "sb"
  walk_at "nx"
  refine ⟨bpre ++ t, rfl, Sd.mk (sz9 (by rw [esl]; lia)) ?_⟩
  rw [esl]
  walk_at "ev"
  refine ⟨bpre ++ t, _, _, rfl, rfl, sz9 (by rw [esl]; lia), at_chr (Int.emod_nonneg _ (by lia)) (by rw [esl]; exact Int.emod_lt_of_pos _ (by lia)), ?_⟩
  walk_at "ev"
  walk_at "sb"
  walk_at "nx"
  refine ⟨t, rfl, Sd.mk hts ?_⟩
  walk_at "ev"
  walk_at "sb"
  have hs1 : (chr (bpre ++ t) (n / 9 % (13 + (t.length : Int)))).length ≤ 1 := bn_ch
  have e13 : ((13 + t.length : Nat) : Int) = 13 + (t.length : Int) := by push_cast; rfl
  rw [e13]
  show EvSs c _ [.va (.str t), .va (.int n), .va (.lst (zs.map D.str)), .va (.str (bpre ++ t)), .va (.str (chr (bpre ++ t) (n / 9 % (13 + (t.length : Int))))), .va (.int (bAt t n)), .un, .un, .un, .un] _ _
  have hBT : (n % 9 = 1 ∨ n % 9 = 2 ∨ n % 9 = 3 ∨ n % 9 = 4 ∨ n % 9 = 5) → bentF t n zs = bentT t n (chr (bpre ++ t) (n / 9 % (13 + (t.length : Int)))) (bAt t n) (bAtM t n) := fun q => if_pos q
  have hBJ : ¬ (n % 9 = 1 ∨ n % 9 = 2 ∨ n % 9 = 3 ∨ n % 9 = 4 ∨ n % 9 = 5) → bentF t n zs = _ := fun q => if_neg q
  have eM : (if (t.length : Int) - 1 < bAt t n then (t.length : Int) - 1 else bAt t n) = bAtM t n := rfl
  generalize chr (bpre ++ t) (n / 9 % (13 + (t.length : Int))) = s at hs1 hBT ⊢
  generalize bAt t n = a at ha0 ha1 hBT eM ⊢
  generalize bAtM t n = b at hb0 hb1 hBT eM ⊢
  by_cases m1 : n % 9 = 1
  · have eb := hBT (by lia)
    rw [show bentT t n s a b = _ from if_pos m1] at eb
    rw [eb]
    walk_at "nx"
    refine ⟨t, rfl, Sd.mk hts ?_⟩
    walk_at "ev"
    refine add_s (a := 100) (b := 1) (bn_sl ht2) hs1 (by decide) (fz_va ?_)
    walk_at "ev"
    refine ⟨t, rfl, Sd.mk hts ?_⟩
    refine add_s (a := 101) (b := 100) (bn_ap (bn_sl ht2) hs1) (bn_sl ht2) (by decide) ?_
    walk_at "ev"
    rfl
  by_cases m2 : n % 9 = 2
  · have eb := hBT (by lia)
    rw [show bentT t n s a b = _ from (if_neg m1).trans (if_pos m2)] at eb
    rw [eb]
    walk_at "nx"
    walk_at "sb"
    walk_at "nx"
    refine ⟨t, rfl, Sd.mk hts ?_⟩
    walk_at "ev"
    rfl
  walk_at "nx"
  walk_at "sb"
  walk_at "nx"
  walk_at "sb"
  walk_at "nx"
  refine ⟨t, rfl, Sd.mk hts ?_⟩
  walk_at "ev"
  walk_at "sb"
  rw [eM]
  by_cases m3 : n % 9 = 3
  · have eb := hBT (by lia)
    rw [show bentT t n s a b = _ from (if_neg m1).trans ((if_neg m2).trans (if_pos m3))] at eb
    rw [eb]
    walk_at "nx"
    refine ⟨t, rfl, Sd.mk hts ?_⟩
    walk_at "ev"
    refine ⟨t, rfl, Sd.mk hts ?_⟩
    refine add_s (a := 100) (b := 100) (bn_sl ht2) (bn_sl ht2) (by decide) ?_
    rfl
  by_cases m4 : n % 9 = 4
  · have eb := hBT (by lia)
    rw [show bentT t n s a b = _ from (if_neg m1).trans ((if_neg m2).trans ((if_neg m3).trans (if_pos m4)))] at eb
    rw [eb]
    walk_at "nx"
    walk_at "sb"
    walk_at "nx"
    refine ⟨t, rfl, Sd.mk hts ?_⟩
    walk_at "ev"
    refine add_s (a := 100) (b := 1) (bn_sl ht2) hs1 (by decide) (fz_va ?_)
    walk_at "ev"
    refine ⟨t, rfl, Sd.mk hts ?_⟩
    refine add_s (a := 101) (b := 100) (bn_ap (bn_sl ht2) hs1) (bn_sl ht2) (by decide) ?_
    rfl
  by_cases m5 : n % 9 = 5
  · have eb := hBT (by lia)
    rw [show bentT t n s a b = _ from (if_neg m1).trans ((if_neg m2).trans ((if_neg m3).trans (if_neg m4)))] at eb
    rw [eb]
    walk_at "nx"
    walk_at "sb"
    walk_at "nx"
    walk_at "sb"
    walk_at "nx"
    refine ⟨t, rfl, Sd.mk hts ?_⟩
    walk_at "ev"
    refine ⟨t, rfl, Sd.mk hts ?_⟩
    walk_at "ev"
    refine add_s (a := 100) (b := 100) (bn_sl ht2) (bn_sl ht2) (by decide) (fz_va ?_)
    walk_at "ev"
    refine ⟨t, _, _, rfl, rfl, hts, at_chr hb0 hb1, ?_⟩
    refine add_s (a := 200) (b := 1) (bn_ap (bn_sl ht2) (bn_sl ht2)) bn_ch (by decide) (fz_va ?_)
    walk_at "ev"
    refine ⟨t, rfl, Sd.mk hts ?_⟩
    refine add_s (a := 201) (b := 100) (bn_ap (bn_ap (bn_sl ht2) (bn_sl ht2)) bn_ch) (bn_sl ht2) (by decide) ?_
    rfl
  have eb := hBJ (by lia)
  rw [eb]
  clear hBT hBJ eM
  have w1 := split_len t blk
  have w2 := EV.split_pos t blk
  have hbs := bWs_sum h n (n / 9 % ((Txt.split t blk).length : Int)).toNat
  unfold bWs at hbs ⊢
  obtain ⟨ws, ews⟩ : ∃ ws, Txt.split t blk = ws := ⟨_, rfl⟩
  rw [ews] at w1 w2 hbs ⊢
  have hp0 : 0 ≤ n / 9 % (ws.length : Int) := Int.emod_nonneg _ (by lia)
  have hp1 : n / 9 % (ws.length : Int) < (ws.length : Int) := Int.emod_lt_of_pos _ (by lia)
  obtain ⟨p, ep⟩ : ∃ p : Nat, n / 9 % (ws.length : Int) = (p : Int) := ⟨_, (Int.toNat_of_nonneg hp0).symm⟩
  rw [ep, Int.toNat_natCast] at hbs ⊢
  walk_at "nx"
  walk_at "sb"
  walk_at "nx"
  walk_at "sb"
  walk_at "nx"
  walk_at "sb"
  walk_at "nx"
  refine ⟨t, rfl, ?_⟩
  walk_at "ev"
  refine ⟨blk, rfl, Sd.mk ⟨rfl, by lia⟩ ?_⟩
  rw [ews]
  have lws : (ws.map D.str).length = ws.length := by rw [List.length_map]
  have lzs : (zs.map D.str).length = zs.length := by rw [List.length_map]
  walk_at "ev"
  walk_at "sb"
  walk_at "nx"
  walk_at "sb"
  rw [lws]
  rw [ep] at hp0 hp1 ⊢
  walk_at "nx"
  · exact sz9 (by rw [lzs]; show zs.length + 16 ≤ _; have := h.l; lia)
  · exact sz9 (by rw [List.length_append, lzs]; show zs.length + 16 + 3 ≤ _; have := h.l; lia)
  rw [lzs]
  refine ixp_l (at_oth zs n) ?_
  walk_at "ev"
  walk_at "sb"
  generalize bOth zs n = o at hbs ⊢
  have fin : ∀ ws' : List Str, sumL ws' + ws'.length * blk.length ≤ 10403 → sumL ws' + ws'.length * (Str.ofString " ").length ≤ 16777216 := fun ws' q => Nat.le_trans q (by decide)
  by_cases m6 : n % 9 = 6
  · have m7 : ¬ n % 9 = 7 := by lia
    rw [if_pos m6] at hbs ⊢
    walk_at "nx"
    refine ⟨p, rfl, Sd.mk (by lia) ?_⟩
    have em : (ws.map D.str).set p (.str o) = (ws.set p o).map D.str := List.map_set.symm
    rw [em]
    walk_at "ev"
    walk_at "sb"
    walk_at "nx"
    walk_at "sb"
    refine ss_frz 7 (by walk_at "at") rfl (by walk_at "sset") ?_
    walk_at "ev"
    refine ⟨ws.set p o, rfl, Sd.mk (fin _ hbs) ?_⟩
    rfl
  by_cases m7 : n % 9 = 7
  · rw [if_neg m6, if_pos m7] at hbs ⊢
    walk_at "nx"
    walk_at "sb"
    walk_at "nx"
    refine ⟨p, rfl, by lia, Sd.mk (Nat.lt_of_le_of_lt (show _ ≤ 102 by lia) (by decide)) ?_⟩
    have em : (ws.map D.str).take p ++ .str o :: (ws.map D.str).drop p = (ws.take p ++ o :: ws.drop p).map D.str := by rw [List.map_append, List.map_cons, List.map_take, List.map_drop]
    rw [em]
    walk_at "ev"
    walk_at "sb"
    refine ss_frz 7 (by walk_at "at") rfl (by walk_at "sset") ?_
    walk_at "ev"
    refine ⟨_, rfl, Sd.mk (fin _ hbs) ?_⟩
    rfl
  rw [if_neg m6, if_neg m7] at hbs ⊢
  walk_at "nx"
  walk_at "sb"
  walk_at "nx"
  walk_at "sb"
  refine ss_frz 7 (by walk_at "at") rfl (by walk_at "sset") ?_
  walk_at "ev"
  refine ⟨ws, rfl, Sd.mk (fin _ hbs) ?_⟩
  rfl
end

end



section
variable {P : Program} {w : World} {K : PySem.W.Frag} {mg : Str → Option Value} {base : Heap}
local macro_rules | `(tactic| walk_at "evL") => `(tactic| ((with_reducible show ∃ t b, TyD _ _ t ∧ _); first
  | with_reducible refine isd .non kt_non_int ?_
  | with_reducible refine isd .bl kt_bl_int ?_
  | with_reducible refine isd .str kt_str_int ?_
  | with_reducible refine isd .tup kt_tup_int ?_
  | with_reducible refine isd .lst kt_lst_int ?_
  | with_reducible refine isd .non kt_non_bool ?_
  | with_reducible refine isd .str kt_str_bool ?_
  | with_reducible refine isd .tup kt_tup_bool ?_
  | with_reducible refine isd .lst kt_lst_bool ?_
  | with_reducible refine isd .non kt_non_str ?_
  | with_reducible refine isd .bl kt_bl_str ?_
  | with_reducible refine isd .int kt_int_str ?_
  | with_reducible refine isd .str kit_ss ?_
  | with_reducible refine isd .tup kt_tup_str ?_
  | with_reducible refine isd .lst kt_lst_str ?_
  | with_reducible refine isd .non kt_non_tuple ?_
  | with_reducible refine isd .bl kt_bl_tuple ?_
  | with_reducible refine isd .int kt_int_tuple ?_
  | with_reducible refine isd .str kt_str_tuple ?_
  | with_reducible refine isd .lst kt_lst_tuple ?_))
local macro_rules | `(tactic| walk_at "evCa") => `(tactic| ((with_reducible show EvE _ (Expr.Call (Expr.Name (Str.ofString "isinstance") _) _ _ _) _ _); first
  | with_reducible refine e_isin (Txt.isin (by assumption)) (Txt.c_int (by assumption)) ?_
  | with_reducible refine e_isin (Txt.isin (by assumption)) (Txt.c_tuple (by assumption)) ?_
  | with_reducible refine e_isin (Txt.isin (by assumption)) (Txt.c_bool (by assumption)) ?_
  | with_reducible refine e_isin (Txt.isin (by assumption)) (by assumption) ?_))

/-! the law -/
theorem str_at {ws : List Str} {i : Int} (h0 : 0 ≤ i) (h1 : i < (ws.map D.str).length) : ∃ z, z ∈ ws ∧ atI (ws.map D.str) i = some (.str z) := by
  have hi : i.toNat < ws.length := by rw [List.length_map] at h1; lia
  refine ⟨ws[i.toNat], List.getElem_mem hi, ?_⟩
  rw [atI_pos h0 h1, List.getElem?_map, List.getElem?_eq_getElem hi]; rfl
theorem cut_le {α : Type} (xs : List α) : (EV.cutD xs none (some 40)).length ≤ xs.length := by
  unfold EV.cutD
  rw [List.length_take, List.length_drop]
  lia
theorem say_ok {z : Str} (hz : z ∈ said) {is : List Int} (hl : is.length = (marksF z).length) : sayOk (.tup (.str z :: is.map D.int)) = true := by
  have hw : wordOk (.str z) = true := by rw [← any_said]; exact List.any_eq_true.mpr ⟨z, hz, beq_self_eq_true z⟩
  obtain ⟨z', p, e, hp⟩ := word_yes hw
  cases e
  have h1 := marks_len p (List.mem_of_find?_eq_some hp)
  rw [show p.1 = z by simpa using List.find?_some hp] at h1
  rw [sayOk_yes hp, Bool.and_eq_true]
  refine ⟨decide_eq_true (by rw [List.length_map]; lia), List.all_eq_true.mpr fun x hx => ?_⟩
  obtain ⟨i, _, rfl⟩ := List.mem_map.mp hx; rfl
theorem shT_len {z : Str} {is : List Int} {ns : List EV.D} (h : ShOk z is ns) : (shT z is ns).length ≤ 100 := by
  have h1 := sh_sum h
  have h2 := joinT_le (Str.ofString " ") (z :: is.map fun i => nmAt ns (.int i))
  unfold shT
  have e : (Str.ofString " ").length = 1 := by decide +kernel
  rw [e] at h2
  lia
theorem said_pos : ∀ z ∈ said, 1 ≤ z.length := by decide +kernel
theorem joinS_pos (sep : Str) {z : Str} : ∀ zs : List Str, 1 ≤ z.length → 1 ≤ (Str.join sep (z :: zs)).length
  | [], h => h
  | y :: r, h => by
    show 1 ≤ (z ++ sep ++ Str.join sep (y :: r)).length
    rw [len_app, len_app]; lia
theorem shT_pos {z : Str} {is : List Int} {ns : List EV.D} (h : z ∈ said) : 1 ≤ (shT z is ns).length := by
  unfold shT
  have e : Txt.join (Str.ofString " ") (z :: is.map fun i => nmAt ns (.int i)) = Str.join (Str.ofString " ") (z :: is.map fun i => nmAt ns (.int i)) := StrLaws.glued_eq_join _ _
  rw [e]
  exact joinS_pos _ _ (said_pos z h)
section
local macro_rules | `(tactic| walk_at "evCa") => `(tactic| first
  | with_reducible refine e_call (F := Fmix) (by assumption) (by decide) ?_
  | with_reducible refine e_call (F := Frest) (by assumption) (by decide) ?_
  | with_reducible refine e_call (F := Fmk) (by assumption) (by decide) ?_
  | with_reducible refine e_call (F := Fbent) (by assumption) (by decide) ?_
  | with_reducible refine e_call (F := Fsh) (by assumption) (by decide) ?_
  | with_reducible refine e_call (F := Frdr) (by assumption) (by decide) ?_
  | with_reducible refine e_call (F := Fgd) (by assumption) (by decide) ?_
  | with_reducible refine e_call (F := Falo _) (by assumption) (by decide) ?_
  | ((with_reducible show EvE _ (Expr.Call (Expr.Name (Str.ofString "isinstance") _) _ _ _) _ _); with_reducible refine e_isin (Txt.isin (by assumption)) (by assumption) ?_)
  | with_reducible refine e_x (x_call0 (F := Fsd) (by assumption) (by decide) ?_))
local macro_rules | `(tactic| walk_at "evL") => `(tactic| first
  | ((with_reducible show ∃ t b, TyD _ _ t ∧ _); with_reducible refine isd .str kit_ss ?_)
  | with_reducible refine exc_is ?_)
local macro_rules | `(tactic| walk_at "evE") => `(tactic| ((with_reducible show EvE _ (Expr.Attribute _ _ _) _ _); with_reducible refine e_exL (by assumption) (Exs.ex (by assumption)) ?_))
local macro_rules | `(tactic| walk_at "evXC") => `(tactic| with_reducible refine x_call (F := Fnms) (by assumption) (by decide) ?_)
local macro_rules | `(tactic| walk_at "evMt") => `(tactic| with_reducible refine e_joinS ?_)
local macro_rules | `(tactic| walk_at "evR") => `(tactic| with_reducible refine rs_ok f_sd ?_)
theorem ok_law {f CT E fI : Addr} {fd : FuncData} (Fu : Fun K "law" "law" st_law f fd) (T : Txt K mg) (Ts : ClsName mg (Str.ofString "str") (.type "str")) (h1 : Cal P w K mg base 1 (Str.ofString "_law_mixed") Fmix) (h2 : Cal P w K mg base 2 (Str.ofString "_law_rest") Frest) (h3 : Cal P w K mg base 1 (Str.ofString "_law_names") Fnms) (h4 : Cal P w K mg base 1 (Str.ofString "_law_said") Fsd)
    (h5 : Cal P w K mg base 2 (Str.ofString "_law_marks") Fmk) (h6 : Cal P w K mg base 2 (Str.ofString "_law_bent") Fbent) (h7 : Cal P w K mg base 4 (Str.ofString "shown_saying") Fsh) (h8 : Cal P w K mg base 3 (Str.ofString "_law_reader") Frdr) (h9 : Cal P w K mg base 4 (Str.ofString "read_saying") (Frd CT)) (h10 : Cal P w K mg base 1 (Str.ofString "_law_alone") (Falo CT)) (h11 : Cal P w K mg base 1 (Str.ofString "_law_good") Fgd)
    (hC : mg (Str.ofString "NoText") = some (.ref CT)) (xcc : PySem.W.exmOne K (.ref CT) (.ref CT) = some true) (L : ExL K CT fI (Str.ofString "line")) (TS : Exs K mg nts CT E) : FnOk P w K mg base (CXE P w) 5 f fd ["_law_script"] (spF K Flaw) := by
  refine fn_q Fu sc_law (by rintro ds r ⟨ns, _, rfl, _⟩; rfl) (by rintro ds r ⟨ns, _, _, rfl⟩; exact ⟨_, rfl⟩) fun c hq ds sl hF => ?_
  obtain ⟨ns, hl, rfl, e⟩ := hF
  injection e with e
  subst e
  show EvSs c _ [.va (.lst (ns.map D.int)), .un, .un, .un, .un, .un, .un, .un, .un, .un, .un, .un, .un] _ _
  conv in (defBody _) => whnf
  walk_at "nx"
  refine rs_ok (f_rest ⟨by decide, by decide⟩ hl) ?_
  walk_at "ev"
  walk_at "sb"
  generalize restF ns 0 / 2 = r0
  obtain ⟨m, em, m1, m24⟩ : ∃ m : Nat, 1 + r0 % 24 = (m : Int) ∧ 1 ≤ m ∧ m ≤ 24 := by
    have := Int.emod_nonneg r0 (show (24 : Int) ≠ 0 by decide)
    have := Int.emod_lt_of_pos r0 (show (0 : Int) < 24 by decide)
    exact ⟨(1 + r0 % 24).toNat, by lia, by lia, by lia⟩
  walk_at "nx"
  refine rs_ok (f_rest ⟨by decide, by decide⟩ hl) ?_
  walk_at "ev"
  rw [em]
  refine rs_ok (f_nms _ m24) ?_
  walk_at "ev"
  walk_at "sb"
  obtain ⟨hN, hNl⟩ := ng (restF ns 1) m24
  generalize namesG (restF ns 1) m = L0 at hN hNl ⊢
  refine ss_frz 2 (by walk_at "at") rfl (by walk_at "sset") ?_
  walk_at "nx"
  walk_at "sb"
  refine ss_frz 3 (by walk_at "at") rfl (by walk_at "sset") ?_
  have hl0 : (L0.map D.str).length = m := by rw [List.length_map, hNl]
  refine ss_cons (s_for hq (i_range2 (Txt.range T) ?_))
  walk_at "ev"
  · exact ⟨by decide, by decide⟩
  · have := cut_le (ns.map D.int)
    rw [List.length_map] at this
    exact ⟨by lia, by lia⟩
  have hcl := cut_le (ns.map D.int)
  rw [List.length_map] at hcl
  generalize (EV.cutD (ns.map D.int) none (some 40)).length = q at hcl ⊢
  refine ⟨fun i ρ' => ∃ s1 s4 s5 s6 s7 s8 s9 s10 s11 s12 : Sl, ρ' = [.va (.lst (ns.map D.int)), s1, .va (.lst (L0.map D.str)), .va (.lst (L0.map D.str)), s4, s5, s6, s7, s8, s9, s10, s11, s12], ⟨_, _, _, _, _, _, _, _, _, _, rfl⟩, ?_, ?_⟩
  rotate_left
  · rintro ρ' ⟨s1, s4, s5, s6, s7, s8, s9, s10, s11, s12, rfl⟩
    walk_at "ev"
    exact eqp_self (fun i d e h1 h2 => by
      rw [h1] at h2; cases h2
      obtain ⟨z, _, rfl⟩ := List.mem_map.mp (List.mem_of_getElem? h1)
      exact .sc rfl) rfl
  rintro c2 hcX hcR hcM i d ρ' hd ⟨s1, s4, s5, s6, s7, s8, s9, s10, s11, s12, rfl⟩
  have hq2 : c2.X.xe = fun _ _ => False := by rw [hcX]; exact hq
  obtain ⟨k, hk2, hkq, rfl⟩ : ∃ k : Nat, 2 ≤ k ∧ k < ns.length ∧ d = .int k := by
    unfold rngD at hd
    rw [List.getElem?_map] at hd
    obtain ⟨j, e1, e2⟩ := Option.map_eq_some_iff.mp hd
    obtain ⟨h1, h2⟩ := List.getElem?_eq_some_iff.mp e1
    rw [List.getElem_range] at h2
    rw [List.length_range] at h1
    subst h2
    exact ⟨2 + i, by lia, by lia, by rw [← e2]; congr 1⟩
  refine g_name (by walk_at "at") (nxt (by walk_at "sset") ?_)
  walk_at "nx"
  refine rs_ok (f_rest ⟨by lia, by lia⟩ hl) ?_
  walk_at "ev"
  walk_at "sb"
  generalize restF ns k = r
  have sl : (said.map D.str).length = 16 := rfl
  have p16 := Int.emod_nonneg r (show (16 : Int) ≠ 0 by decide)
  have q16 := Int.emod_lt_of_pos r (show (0 : Int) < 16 by decide)
  obtain ⟨z, hz, ez⟩ := str_at (ws := said) p16 (by lia)
  obtain ⟨f1, f2, f3⟩ := marks_few z hz
  walk_at "nx"
  refine ixp_l ez ?_
  walk_at "ev"
  walk_at "sb"
  walk_at "nx"
  walk_at "sb"
  show EvSs c2 _ [.va (.lst (ns.map D.int)), .va (.int (r / 16)), .va (.lst (L0.map D.str)), .va (.lst (L0.map D.str)), .va (.int k), .ow (.str z :: ([] : List Int).map D.int), s6, s7, s8, s9, s10, s11, s12] _ _
  refine ss_cons (s_for hq2 (i_str ?_))
  generalize hG : (fun ρ' => EvSs c2 _ ρ' _ _) = G
  walk_at "ev"
  · trivial
  refine rs_ok (f_mk hz) (fz_va ?_)
  have el : (sgD (marksF z)).length = (marksF z).length := by unfold sgD; rw [List.length_map]; exact Array.length_toList
  refine ⟨_, rfl, f3, fun j ρ' => ∃ (rr : Int) (is : List Int) (s6 : Sl), is.length = j ∧ (∀ i ∈ is, 0 ≤ i ∧ i < (m : Int)) ∧ ρ' = [.va (.lst (ns.map D.int)), .va (.int rr), .va (.lst (L0.map D.str)), .va (.lst (L0.map D.str)), .va (.int k), .ow (.str z :: is.map D.int), s6, s7, s8, s9, s10, s11, s12], ⟨_, [], _, rfl, (fun _ h => by cases h), rfl⟩, ?_, ?_⟩
  · rintro c3 hcX3 hcR3 hcM3 j d ρ' hd ⟨rr, is, s6, hj, hi, rfl⟩
    have hj6 : j < (sgD (marksF z)).length := (List.getElem?_eq_some_iff.mp hd).1
    rw [el] at hj6
    refine g_name (by walk_at "at") (nxt (by walk_at "sset") ?_)
    walk_at "ev"
    · rw [List.length_cons, List.length_map]
      exact Nat.lt_of_le_of_lt (show is.length + 1 ≤ 7 by lia) (by decide)
    · exact dv_few (by lia) (by lia)
    refine ⟨_, is ++ [rr % (m : Int)], _, by rw [List.length_append, hj]; rfl, fun i h => ?_, by rw [List.map_append, hl0]; rfl⟩
    rcases List.mem_append.mp h with h | h
    · exact hi i h
    · rw [List.mem_singleton.mp h]
      exact ⟨Int.emod_nonneg _ (by lia), Int.emod_lt_of_pos _ (by lia)⟩
  rintro ρ' ⟨rr, is, s6, hj, hi, rfl⟩
  rw [el] at hj
  walk_at "sb"
  refine ss_frz 5 (by walk_at "at") rfl (by walk_at "sset") ?_
  have hSh : ShOk z is (L0.map D.str) := ⟨say_ok hz hj, by lia, hN.n, hN.ok, fun i h => by rw [hl0]; exact hi i h⟩
  have h100 := shT_len hSh
  have h001 : 1 ≤ (shT z is (L0.map D.str)).length := shT_pos hz
  have hsum := sh_sum hSh
  walk_at "nx"
  refine ixp_l (at_hd _ _) ?_
  walk_at "ev"
  refine e_x (x_comp hq2 (N' := ["_law_number", "_law_names_here"]) (ρ0 := fun _ => [.un, .va (.lst (L0.map D.str))]) (fun t => .un (.fr (by walk_at "at") (by walk_at "at") (by decide) rfl .nil)) (i_seq ?_))
  walk_at "ev"
  · rw [cut_tail, List.length_map]
    exact Nat.le_trans hSh.l (by decide)
  rw [cut_tail]
  refine ⟨is.map fun i => some (D.str (nmAt (L0.map D.str) (.int i))), by simp, ?_, fz_ow ?_⟩
  · intro c3 hc3 t k d o hd ho
    obtain ⟨x, hx, rfl, rfl⟩ := map_at2 hd ho
    refine g_name (by walk_at "at") (nxt (by walk_at "sset") ⟨.un (.same .nil), ?_⟩)
    simp only [EvC]
    refine ⟨fun _ => ?_, fun h => by cases h⟩
    obtain ⟨i0, i1⟩ := hSh.i x (List.mem_of_getElem? hx)
    obtain ⟨s, e1, e2, e3⟩ := names_txt hSh.o i0 i1
    walk_at "ev"
    refine ixp_l e1 ?_
    rw [e2]
  rw [some_map']
  walk_at "ev"
  · rw [List.length_map]
    exact sz9 (by show 1 + is.length ≤ 1000000; have := hSh.l; lia)
  refine ⟨z :: is.map fun i => nmAt (L0.map D.str) (.int i), by rw [List.map_cons, List.map_map]; rfl, Sd.mk (Nat.le_trans hsum (by decide)) ?_⟩
  show Nx _ _ _ (Sl.va (.str (shT z is (L0.map D.str))))
  walk_at "ev"
  walk_at "sb"
  walk_at "nx"
  refine rs_ok (f_sh hSh) ?_
  walk_at "ev"
  walk_at "sb"
  generalize shT z is (L0.map D.str) = tx at h100 h001 ⊢
  walk_at "nx"
  rotate_left
  · rename_i h
    exact absurd rfl h
  walk_at "sb"
  walk_at "nx"
  refine ixp_l (at_ints (Int.natCast_nonneg k) (by lia)) ?_
  walk_at "ev"
  refine rs_ok (f_mix _ (by lia)) ?_
  walk_at "ev"
  have hbt : BentOk tx L0 := ⟨h001, h100, by lia, hN.l⟩
  refine rs_ok (f_bent _ hbt) ?_
  walk_at "ev"
  walk_at "sb"
  have hrd : RdOk (bentF tx (mixF (cellA ns k) (k + 40)) L0) L0 := ⟨bentF_len hbt, hN, by lia⟩
  generalize bentF tx (mixF (cellA ns k) (k + 40)) L0 = tb at hrd ⊢
  walk_at "nx"
  refine rs_ok (f_rdr hrd) ?_
  walk_at "ev"
  walk_at "sb"
  walk_at "nx"
  walk_at "sb"
  walk_at "nx"
  walk_at "sb"
  refine ss_cons ?_
  generalize hG : (fun ρ' => EvSs c2 _ ρ' _ _) = G
  refine s_tryA (i := 12) (j := 11) hC (by walk_at "at") (by walk_at "at") (by decide) fun c' hR => ?_
  refine ss_cons (s_set (by walk_at "at") (x_call (F := Frd CT) h9 (by decide) ?_))
  walk_at "ev"
  obtain ⟨js, hjs, ej⟩ : ∃ (v : Str × List Int), v.2.length ≤ 20000 ∧ tupW L0 (Txt.split tb blk) = .tup (.str v.1 :: v.2.map D.int) := by
    obtain ⟨w, r, ew⟩ := split_cons tb
    have hwl := split_len tb blk
    have := hrd.t
    rw [ew, List.length_cons] at hwl
    rw [ew]
    exact ⟨(w, r.map fun x => (L0.idxOf x : Int)), by rw [List.length_map]; lia, by rw [List.map_map]; rfl⟩
  cases hk : okW L0 (Txt.split tb blk)
  · rw [if_neg (by decide)]
    refine rs_ex (f_rdX CT hrd hk) (hR _ _ ⟨xcc, _, _, (by walk_at "sset"), (by walk_at "sset"), ?_⟩)
    walk_at "sb"
    walk_at "ev"
    refine rs_ok (f_alo CT) (fz_va ?_)
    walk_at "ev"
    · exact ⟨_, _, _, _, _, _, _, _, _, _, rfl⟩
    · rename_i h
      exact absurd rfl h
  · rw [if_pos rfl]
    have fr := f_rd CT hrd hk
    rw [ej] at fr ⊢
    refine rs_ok fr ?_
    walk_at "ev"
    walk_at "sb"
    walk_at "ev"
    refine isn_f (fun q => by cases q) ?_
    walk_at "ev"
    refine isn_f (fun q => by cases q) ?_
    walk_at "ev"
    refine rs_ok (f_gd hjs) (fz_va ?_)
    walk_at "ev"
    exact ⟨_, _, _, _, _, _, _, _, _, _, rfl⟩
end

end



section
variable {P : Program} {w : World} {K : PySem.W.Frag} {mg : Str → Option Value} {base h : Heap}
local macro_rules | `(tactic| walk_at "evL") => `(tactic| ((with_reducible show ∃ t b, TyD _ _ t ∧ _); first
  | with_reducible refine isd .non kt_non_int ?_
  | with_reducible refine isd .bl kt_bl_int ?_
  | with_reducible refine isd .str kt_str_int ?_
  | with_reducible refine isd .tup kt_tup_int ?_
  | with_reducible refine isd .lst kt_lst_int ?_
  | with_reducible refine isd .non kt_non_bool ?_
  | with_reducible refine isd .str kt_str_bool ?_
  | with_reducible refine isd .tup kt_tup_bool ?_
  | with_reducible refine isd .lst kt_lst_bool ?_
  | with_reducible refine isd .non kt_non_str ?_
  | with_reducible refine isd .bl kt_bl_str ?_
  | with_reducible refine isd .int kt_int_str ?_
  | with_reducible refine isd .str kit_ss ?_
  | with_reducible refine isd .tup kt_tup_str ?_
  | with_reducible refine isd .lst kt_lst_str ?_
  | with_reducible refine isd .non kt_non_tuple ?_
  | with_reducible refine isd .bl kt_bl_tuple ?_
  | with_reducible refine isd .int kt_int_tuple ?_
  | with_reducible refine isd .str kt_str_tuple ?_
  | with_reducible refine isd .lst kt_lst_tuple ?_))
local macro_rules | `(tactic| walk_at "evCa") => `(tactic| ((with_reducible show EvE _ (Expr.Call (Expr.Name (Str.ofString "isinstance") _) _ _ _) _ _); first
  | with_reducible refine e_isin (Txt.isin (by assumption)) (Txt.c_int (by assumption)) ?_
  | with_reducible refine e_isin (Txt.isin (by assumption)) (Txt.c_tuple (by assumption)) ?_
  | with_reducible refine e_isin (Txt.isin (by assumption)) (Txt.c_bool (by assumption)) ?_
  | with_reducible refine e_isin (Txt.isin (by assumption)) (by assumption) ?_))

/-! what the head shows -/
theorem str_mk {x z : Str} {t : Tok} (KX : K.In h) (G : h.Ns mainGlobals mg) (a : PySem.W.nsIn K mainGlobals x = some (some (.str z t))) : ∃ tk : Tok, mg x = some (.str z tk) := ⟨_, PySem.W.mg_of KX G a⟩
theorem ts_mk (KX : K.In h) (G : h.Ns mainGlobals mg) (a : PySem.W.nsIn K mainGlobals (Str.ofString "str") = some none) : ClsName mg (Str.ofString "str") (.type "str") := .inr ⟨_, rfl, PySem.W.mg_none_of KX G a, by decide +kernel, by decide +kernel⟩
theorem gd_mk {S : Addr} {es : Array DictEntry} {n : Nat} (KX : K.In h) (G : h.Ns mainGlobals mg) (a : PySem.W.nsIn K mainGlobals (Str.ofString "SAYINGS") = some (some (.ref S))) (l : K.lookup S = some ⟨.type "dict", none, .dict es n, #[]⟩) (m : (S == sysModules) = false) (e : EntsOk K w.params es.toList sayW) : ∃ S, mg (Str.ofString "SAYINGS") = some (.ref S) ∧ GDat K w S sayW :=
  ⟨S, PySem.W.mg_of KX G a, es, n, l, m, e⟩
theorem ents_cons {Pm : Params} {x : Str} {t : Tok} {ys : List Str} {W : List (Str × List Str)} {l : List DictEntry} {a : Addr} {oc : Value} {dd : Option Addr} {osl : Array (Option Value)} {hh : Int} {its : Array Value} {n : Nat} (k : hh = PyData.keyHash Pm x) (lk : K.lookup a = some ⟨oc, dd, .seq its n, osl⟩) (c : oc = .type "tuple") (sz : its.size ≤ sizeLine) (vs : Vals (ys.map V.str) its.toList) (r : EntsOk K Pm l W) : EntsOk K Pm (⟨hh, .str x t, .ref a⟩ :: l) ((x, ys) :: W) :=
  ⟨⟨t, rfl⟩, k, ⟨a, _, its, n, rfl, lk, c, rfl, sz, vs⟩, r⟩
theorem ents_nil {Pm : Params} : EntsOk K Pm [] [] := trivial
theorem kit_no {C E : Addr} {cd : ClassData} (e : (Value.ref C == Value.ref E) = false) (c : PySem.W.clsIn K E = some cd) (t : PySem.W.typeIn K (.ref E) = some (.type "type")) (s : PySem.W.subIn K (.ref C) (.ref E) = some false) : PySem.W.kitOne K (.ref C) (.ref E) = some false := by
  unfold PySem.W.kitOne PySem.W.kitCls
  simp [e, c, t, s]
theorem kit_yes {C E : Addr} {cd : ClassData} (e : (Value.ref C == Value.ref E) = false) (c : PySem.W.clsIn K E = some cd) (t : PySem.W.typeIn K (.ref E) = some (.type "type")) (s : PySem.W.subIn K (.ref C) (.ref E) = some true) : PySem.W.kitOne K (.ref C) (.ref E) = some true := by
  unfold PySem.W.kitOne PySem.W.kitCls
  simp [e, c, t, s]
theorem exm_is {C E : Addr} {cd : ClassData} {b : Bool} (b0 : PySem.W.subIn K (.ref E) (.type "BaseException") = some true) (c : PySem.W.clsIn K E = some cd) (t : PySem.W.typeIn K (.ref E) = some (.type "type")) (s : PySem.W.subIn K (.ref C) (.ref E) = some b) : PySem.W.exmOne K (.ref C) (.ref E) = some b := by
  unfold PySem.W.exmOne PySem.W.kitCls
  simp [b0, c, t, s]
def Oc (K : PySem.W.Frag) (C : Addr) (x : Str) : Prop := ∃ (c : Addr) (d : ClassData), PySem.W.nsIn K mainGlobals x = some (some (.ref c)) ∧ PySem.W.clsIn K c = some d ∧ PySem.W.typeIn K (.ref c) = some (.type "type") ∧ PySem.W.subIn K (.ref C) (.ref c) = some false ∧ (Value.ref C == Value.ref c) = false
theorem oc_mk {C c : Addr} {x : Str} {d : ClassData} (a : PySem.W.nsIn K mainGlobals x = some (some (.ref c))) (e : PySem.W.clsIn K c = some d) (t : PySem.W.typeIn K (.ref c) = some (.type "type")) (s : PySem.W.subIn K (.ref C) (.ref c) = some false) (n : (Value.ref C == Value.ref c) = false) : Oc K C x := ⟨c, d, a, e, t, s, n⟩
/-- a class and what an except clause asks of it -/
structure ExsD (K : PySem.W.Frag) (mg : Str → Option Value) (sn : Str) (C E : Addr) : Prop where
  x : Exs K mg sn C E
  b : PySem.W.subIn K (.ref C) (.type "BaseException") = some true
  c : ∃ d, PySem.W.clsIn K C = some d
  t : PySem.W.typeIn K (.ref C) = some (.type "type")
  s : PySem.W.subIn K (.ref C) (.ref C) = some true
theorem cls_mk (sn : Str) {C E : Addr} {dd0 dd1 : ClassData} (KX : K.In h) (G : h.Ns mainGlobals mg)
    (aC : PySem.W.nsIn K mainGlobals sn = some (some (.ref C)))
    (aE : PySem.W.nsIn K mainGlobals (Str.ofString "DrawError") = some (some (.ref E)))
    (dE : PySem.W.clsIn K E = some dd0)
    (tE : PySem.W.typeIn K (.ref E) = some (.type "type"))
    (sE : PySem.W.subIn K (.ref C) (.ref E) = some true)
    (nE : (Value.ref C == Value.ref E) = false)
    (zVerr : PySem.W.nsIn K mainGlobals (Str.ofString "ValueError") = some none)
    (sCV : PySem.W.subIn K (.ref C) (.type "ValueError") = some true)
    (ga : PySem.W.findIn K (.ref C) "__getattribute__" = some (some (.builtin "BaseException.__getattribute__")))
    (hk : PySem.W.findIn K (.ref C) "__getattr__" = some none)
    (ca : PySem.W.findIn K (.ref C) "__class__" = some (some (.builtin "object.__class__")))
    (gt : PySem.W.specialIn K (.builtin "object.__class__") "__get__" = some (some (.builtin "getset_descriptor.__get__")))
    (tk : PySem.W.takesIn K (.builtin "object.__class__") = some true)
    (mo : PySem.W.mroIn K C (.type "object") = some true)
    (mb : PySem.W.mroIn K C (.type "BaseException") = some true)
    (b0 : PySem.W.subIn K (.ref C) (.type "BaseException") = some true)
    (dC : PySem.W.clsIn K C = some dd1)
    (tC : PySem.W.typeIn K (.ref C) = some (.type "type"))
    (sC : PySem.W.subIn K (.ref C) (.ref C) = some true)
    (oc : ∀ x ∈ all16, x ≠ sn → Oc K C x) : ExsD K mg sn C E :=
  ⟨⟨PySem.W.mg_none_of KX G zVerr, kit_ty rfl (by decide) sCV, ⟨ga, hk, ca, gt, tk, mo, mb⟩, PySem.W.mg_of KX G aC, kit_same (by simp), PySem.W.mg_of KX G aE, kit_yes nE dE tE sE, fun x hx hn => by
    obtain ⟨c, d, a, e, t, s, n⟩ := oc x hx hn
    exact ⟨_, PySem.W.mg_of KX G a, kit_no n e t s, s⟩⟩, b0, ⟨_, dC⟩, tC, sC⟩
theorem exm_self {sn : Str} {C E : Addr} (X : ExsD K mg sn C E) : PySem.W.exmOne K (.ref C) (.ref C) = some true := by
  obtain ⟨d, hd⟩ := X.c
  exact exm_is X.b hd X.t X.s
/-! the class that has its own __init__ -/
abbrev st_init : Stmt := match top 17 with
  | .ClassDef _ _ _ b _ _ _ _ _ _ _ => b.getD 0 (.Pass ⟨0, 0, 0, 0⟩)
  | _ => .Pass ⟨0, 0, 0, 0⟩
theorem sc_init : FS ["self", "line"] ["self", "line"] st_init := by decide +kernel
abbrev iqn : Str := Str.ofString "NoText.__init__"
theorem tail_one {E : Addr} {oc : Value} {od : Option Addr} {cd : ClassData} {osl : Array (Option Value)} (l : K.lookup E = some ⟨oc, od, .cls cd, osl⟩) (nk : PySem.W.nsOkIn K cd.ns = true) (ni : PySem.W.nsIn K cd.ns "__init__" = some none) : PySem.W.tailIn K vErr (.ref E :: vErr) = true := by
  have h : PySem.W.tailIn K vErr vErr = true := by unfold vErr PySem.W.tailIn; rw [beq_self_eq_true]; rfl
  unfold PySem.W.tailIn
  dsimp only
  rw [l]
  dsimp only
  rw [nk, ni, h]
  simp
theorem ns_ok {N : Addr} {oc : Value} {od : Option Addr} {es : Array DictEntry} {n : Nat} {osl : Array (Option Value)} (l : K.lookup N = some ⟨oc, od, .dict es n, osl⟩) (e : (es.toList.all fun e => match e.key with | .str _ _ => true | _ => false) = true) : PySem.W.nsOkIn K N = true := by
  unfold PySem.W.nsOkIn
  rw [l]
  show (es.all _) = true
  rw [← Array.all_toList]
  exact e
structure NtD (K : PySem.W.Frag) (mg : Str → Option Value) (C E f : Addr) (fd : FuncData) : Prop where
  x : ExsD K mg nts C E
  l : ExL K C f (Str.ofString "line")
  fu : Fun K (Str.ofString "__init__") iqn st_init f fd
  kp : PySem.W.keepIn K (.ref C) = true
  g : PySem.W.specialIn K (.ref E) "__getattribute__" = some (some (.builtin "type.__getattribute__"))
  r : PySem.W.readsIn K E (.type "type") = true
  c : PySem.W.findCls K (.ref E) (.type "type") "__init__" = some (.val (.builtin "ValueError.__init__"))
theorem NtD.init {C E f : Addr} {fd : FuncData} (Y : NtD K mg C E f fd) : FnOk P w K mg base (CXE P w) 1 f fd ["self", "line"] (spI C) :=
  init_ok Y.fu sc_init Y.l rfl (by decide) (by decide) (by decide) (by decide +kernel) Y.x.x.e Y.g Y.r Y.c
theorem NtD.bi {C E f : Addr} {fd : FuncData} (Y : NtD K mg C E f fd) : Binds K fd ["self", "line"] [] :=
  Y.fu.binds fun _ _ _ _ _ _ us hl => by obtain ⟨a, b, rfl⟩ := len2 us hl; rfl
theorem exl_mk {C E f NC NE : Addr} {n q : Str} {bs : List Value} {sn : List Str} {sub : List Value} {ab : Bool} {col : Option Bool} {dd : Option Addr} {k0 k1 k2 k3 k5 : Option Value} {oc oc2 oc3 : Value} {od od2 od3 : Option Addr} {cd : ClassData} {osl osl2 osl3 : Array (Option Value)} {es es2 : Array DictEntry} {m m2 : Nat}
    (lC : K.lookup C = some (excClassObj n q C NC bs (.ref E :: vErr) true sn sub ab col dd k0 k1 k2 k3 k5 "ValueError.__new__"))
    (lE : K.lookup E = some ⟨oc, od, .cls cd, osl⟩) (eN : cd.ns = NE)
    (lN : K.lookup NC = some ⟨oc2, od2, .dict es m, osl2⟩) (aN : (es.toList.all fun e => match e.key with | .str _ _ => true | _ => false) = true)
    (lM : K.lookup NE = some ⟨oc3, od3, .dict es2 m2, osl3⟩) (aM : (es2.toList.all fun e => match e.key with | .str _ _ => true | _ => false) = true)
    (ni : PySem.W.nsIn K NE "__init__" = some none) (nf : PySem.W.nsIn K NC "__init__" = some (some (.ref f)))
    (fn : PySem.W.typeIn K (.ref f) = some (.type "function"))
    (sa : PySem.W.findIn K (.ref C) "__setattr__" = some (some (.builtin "object.__setattr__")))
    (no : PySem.W.findIn K (.ref C) "line" = some none)
    (mo : PySem.W.mroIn K C (.type "object") = some true) : ExL K C f (Str.ofString "line") := by
  subst eN
  exact ⟨⟨_, _, _, _, _, _, _, _, _, _, _, _, _, _, _, lC, tail_one lE (ns_ok lM aM) ni, ns_ok lN aN, nf⟩, fn, sa, no, mo⟩

end


section
variable {P : Program} {w : World} {K : PySem.W.Frag} {mg : Str → Option Value} {base h : Heap}
theorem main_mk {fa : Addr} (hfa : mg (Str.ofString "law") = some (.ref fa)) (T : Txt K mg) (Ts : ClsName mg (Str.ofString "str") (.type "str")) (xLET : ∃ tk : Tok, mg (Str.ofString "LETTERS") = some (.str LET tk)) (xFIG : ∃ tk : Tok, mg (Str.ofString "FIGURES") = some (.str FIG tk)) (xS : ∃ S, mg (Str.ofString "SAYINGS") = some (.ref S) ∧ GDat K w S sayW) (xA : ∃ C E f fd, NtD K mg C E f fd) (xLONGEST_NAME : ∃ tk : Tok, mg (Str.ofString "LONGEST_NAME") = some (.int 8 tk))
    (D19 : DefIn K mg (Str.ofString "is_whole") (top 19))
    (D22 : DefIn K mg (Str.ofString "is_saying_word") (top 22))
    (D23 : DefIn K mg (Str.ofString "is_saying") (top 23))
    (D28 : DefIn K mg (Str.ofString "all_among") (top 28))
    (D29 : DefIn K mg (Str.ofString "is_name") (top 29))
    (D30 : DefIn K mg (Str.ofString "look_names") (top 30))
    (D31 : DefIn K mg (Str.ofString "numbers_by") (top 31))
    (D32 : DefIn K mg (Str.ofString "shown_saying") (top 32))
    (D33 : DefIn K mg (Str.ofString "read_saying") (top 33))
    (D35 : DefIn K mg (Str.ofString "_law_cell_at") (top 35))
    (D36 : DefIn K mg (Str.ofString "_law_mixed") (top 36))
    (D37 : DefIn K mg (Str.ofString "_law_rest") (top 37))
    (D38 : DefIn K mg (Str.ofString "_law_names") (top 38))
    (D39 : DefIn K mg (Str.ofString "_law_alone") (top 39))
    (D40 : DefIn K mg (Str.ofString "_law_said") (top 40))
    (D41 : DefIn K mg (Str.ofString "_law_marks") (top 41))
    (D42 : DefIn K mg (Str.ofString "_law_bent") (top 42))
    (D43 : DefIn K mg (Str.ofString "_law_reader") (top 43))
    (D44 : DefIn K mg (Str.ofString "_law_good") (top 44))
    (D45 : DefIn K mg (Str.ofString "law") (top 45))
    : ∃ fd : FuncData, (∀ (s : Shared) (u : Value), BindsTo s fd ⟨[u], []⟩ [("_law_script", u)]) ∧ ∀ base : Heap, K.In base → base.Ns mainGlobals mg → FnOk P w K mg base (CXE P w) 20 fa fd ["_law_script"] (spF K Flaw) := by
  refine Classical.byContradiction fun hG => ?_
  obtain ⟨CT, E, fI, fdI, Y⟩ := xA; obtain ⟨t1, hL⟩ := xLET; obtain ⟨t2, hF⟩ := xFIG; obtain ⟨t3, hN⟩ := xLONGEST_NAME; obtain ⟨S, hS, hG0⟩ := xS
  obtain ⟨f45, fd45, m45, Fu45⟩ := D45
  have e := hfa.symm.trans m45
  cases e
  refine hG ⟨fd45, ?_, fun base _ _ => ?_⟩
  · obtain ⟨oc, od, kV, doc, pm, an, cdv, ct, osl, rfl, lk, hcd⟩ := Fu45.ex
    exact fun s u => .of_eq rfl
  have C19 := cal_of P w base D19 fun u => ok_wh u T
  have C22 := cal_of P w base D22 fun u => ok_sw u T Ts hS hG0
  have C23 := cal_of P w base D23 fun u => ok_say u T C22 C19 hS hG0
  have C28 := cal_of P w base D28 fun u => ok_amo u T
  have C29 := cal_of P w base D29 fun u => ok_nam u T Ts C28 hL hF hN
  have C30 := cal_of P w base D30 fun u => ok_look u T C29
  have C32 := cal_of P w base D32 fun u => ok_show u T C23 C30
  have C31 := cal_of P w base D31 fun u => ok_nb u T
  have C33 := cal_of P w base D33 fun u => ok_rd u T C31 C22 hS hG0 Y.x.x.self Y.l Y.init Y.bi Y.kp
  have C35 := cal_of P w base D35 fun u => ok_cat u T
  have C36 := cal_of P w base D36 fun u => ok_mix u
  have C37 := cal_of P w base D37 fun u => ok_rest u T C35 C36
  have C38 := cal_of P w base D38 fun u => ok_nms u T
  have C39 := cal_of P w base D39 fun u => ok_alo u T Y.x.x
  have C40 := cal_of P w base D40 fun u => ok_sd u
  have C41 := cal_of P w base D41 fun u => ok_mk u C40
  have C42 := cal_of P w base D42 fun u => ok_bent u T C40
  have C43 := cal_of P w base D43 fun u => ok_rdr u T C40 C41
  have C44 := cal_of P w base D44 fun u => ok_gd u T Ts
  exact (ok_law Fu45 T Ts C36 C37 C38 C40 C41 C42 C32 C43 C33 C39 C44 Y.x.x.self (exm_self Y.x) Y.l Y.x.x).mono (by decide)
end
end My


open PySem PySem.W PyProof.Rows
local macro_rules | `(tactic| walk_at "dm") => `(tactic| (dsimp only [L2.KOf]; refine' EV.def_mk (by assumption) (by assumption) ?a ?l ?c ?k; (case a => k_is); (case l => k_is); (case c => k_is); (case k => k_is)))
local macro_rules | `(tactic| walk_at "oc") => `(tactic| (refine' My.oc_mk ?a ?d ?t ?s ?n; (case a => k_is); (case d => k_is); (case t => k_is); (case s => k_is); (case n => rfl)))
local macro_rules | `(tactic| walk_at "en") => `(tactic| (refine' My.ents_cons ?k ?l ?c ?z ?v ?r; (case k => rfl); (case l => k_is); (case c => rfl); (case z => decide); (case v => repeat' (first | exact PySem.Paired.nil | refine PySem.Paired.cons ⟨_, rfl⟩ ?_))))
set_option maxRecDepth 100000 in
set_option maxHeartbeats 0 in
theorem PySem.Challenge.cw_everydraw_k82_sayings_written_down_holds : PySem.Challenge.rw_everydraw_k82_sayings_written_down.Holds := by
  w_on; o_law; k_head; (case hw => w_witness2)
  k_fill
  refine EV.walk (k := 20) (l := PySem.Challenge.rw_everydraw_k82_sayings_written_down) (by decide) rfl rfl (fun w h Y => PySem.W.kIn_of Y) ?F
  case F =>
    intro w mg fa h KX G hmg
    have D19 : EV.DefIn (L2.KOf KX) mg (Str.ofString "is_whole") (My.top 19) := by walk_at "dm"
    have D22 : EV.DefIn (L2.KOf KX) mg (Str.ofString "is_saying_word") (My.top 22) := by walk_at "dm"
    have D23 : EV.DefIn (L2.KOf KX) mg (Str.ofString "is_saying") (My.top 23) := by walk_at "dm"
    have D28 : EV.DefIn (L2.KOf KX) mg (Str.ofString "all_among") (My.top 28) := by walk_at "dm"
    have D29 : EV.DefIn (L2.KOf KX) mg (Str.ofString "is_name") (My.top 29) := by walk_at "dm"
    have D30 : EV.DefIn (L2.KOf KX) mg (Str.ofString "look_names") (My.top 30) := by walk_at "dm"
    have D31 : EV.DefIn (L2.KOf KX) mg (Str.ofString "numbers_by") (My.top 31) := by walk_at "dm"
    have D32 : EV.DefIn (L2.KOf KX) mg (Str.ofString "shown_saying") (My.top 32) := by walk_at "dm"
    have D33 : EV.DefIn (L2.KOf KX) mg (Str.ofString "read_saying") (My.top 33) := by walk_at "dm"
    have D35 : EV.DefIn (L2.KOf KX) mg (Str.ofString "_law_cell_at") (My.top 35) := by walk_at "dm"
    have D36 : EV.DefIn (L2.KOf KX) mg (Str.ofString "_law_mixed") (My.top 36) := by walk_at "dm"
    have D37 : EV.DefIn (L2.KOf KX) mg (Str.ofString "_law_rest") (My.top 37) := by walk_at "dm"
    have D38 : EV.DefIn (L2.KOf KX) mg (Str.ofString "_law_names") (My.top 38) := by walk_at "dm"
    have D39 : EV.DefIn (L2.KOf KX) mg (Str.ofString "_law_alone") (My.top 39) := by walk_at "dm"
    have D40 : EV.DefIn (L2.KOf KX) mg (Str.ofString "_law_said") (My.top 40) := by walk_at "dm"
    have D41 : EV.DefIn (L2.KOf KX) mg (Str.ofString "_law_marks") (My.top 41) := by walk_at "dm"
    have D42 : EV.DefIn (L2.KOf KX) mg (Str.ofString "_law_bent") (My.top 42) := by walk_at "dm"
    have D43 : EV.DefIn (L2.KOf KX) mg (Str.ofString "_law_reader") (My.top 43) := by walk_at "dm"
    have D44 : EV.DefIn (L2.KOf KX) mg (Str.ofString "_law_good") (My.top 44) := by walk_at "dm"
    have D45 : EV.DefIn (L2.KOf KX) mg (Str.ofString "law") (My.top 45) := by walk_at "dm"
    have T : EV.Txt (L2.KOf KX) mg := by
      dsimp only [L2.KOf]
      refine' EV.txt_mk KX G ?z1 ?z2 ?z3 ?z4 ?z5 ?z6 ?z7 ?z8 ?z9 ?z10 ?z11 ?z12 ?z13 ?z14 ?z15 ?z16 ?z17 ?sib
      (case z1 => k_is)
      (case z2 => k_is)
      (case z3 => k_is)
      (case z4 => k_is)
      (case z5 => k_is)
      (case z6 => k_is)
      (case z7 => k_is)
      (case z8 => k_is)
      (case z9 => k_is)
      (case z10 => k_is)
      (case z11 => k_is)
      (case z12 => k_is)
      (case z13 => k_is)
      (case z14 => k_is)
      (case z15 => k_is)
      (case z16 => k_is)
      (case z17 => k_is)
      (case sib => k_is)
    have Ts : EV.ClsName mg (Str.ofString "str") (.type "str") := by
      refine' My.ts_mk KX G ?a
      (case a => k_is)
    have xLET : ∃ tk : Tok, mg (Str.ofString "LETTERS") = some (.str My.LET tk) := by
      refine' My.str_mk KX G ?a
      (case a => k_is)
    have xFIG : ∃ tk : Tok, mg (Str.ofString "FIGURES") = some (.str My.FIG tk) := by
      refine' My.str_mk KX G ?a
      (case a => k_is)
    have xS : ∃ S, mg (Str.ofString "SAYINGS") = some (.ref S) ∧ EV.GDat (L2.KOf KX) w S My.sayW := by
      dsimp only [L2.KOf]
      refine' My.gd_mk KX G ?a ?l ?m ?e
      (case a => k_is)
      (case l => k_is)
      (case m => rfl)
      (case e => repeat' (first | exact My.ents_nil | walk_at "en"))
    have xA : ∃ C E f fd, My.NtD (L2.KOf KX) mg C E f fd := by
      dsimp only [L2.KOf]
      refine' ⟨_, _, _, _, ⟨My.cls_mk My.nts KX G ?aC ?aE ?dE ?tE ?sE ?nE ?zVerr ?sCV ?ga ?hk ?ca ?gt ?tk ?mo ?mb ?b0 ?dC ?tC ?sC ?oc, My.exl_mk ?lC ?lE ?eN ?lN ?aN ?lM ?aM ?ni ?nf ?fn ?sa ?no ?mo2, L2.fun_mk ?fl ?fc ?fk, ?kp, ?g, ?r, ?c⟩⟩
      (case aC => k_is)
      (case aE => k_is)
      (case dE => k_is)
      (case tE => k_is)
      (case sE => k_is)
      (case nE => rfl)
      (case zVerr => k_is)
      (case sCV => k_is)
      (case ga => k_is)
      (case hk => k_is)
      (case ca => k_is)
      (case gt => k_is)
      (case tk => k_is)
      (case mo => k_is)
      (case mb => k_is)
      (case b0 => k_is)
      (case dC => k_is)
      (case tC => k_is)
      (case sC => k_is)
      (case oc => intro x hx hn; simp only [My.all16, List.map_cons, List.map_nil, List.mem_cons, List.not_mem_nil, or_false] at hx; rcases hx with rfl | rfl | rfl | rfl | rfl | rfl | rfl | rfl | rfl | rfl | rfl | rfl | rfl | rfl | rfl | rfl <;> first | (exact absurd rfl hn) | walk_at "oc")
      (case lC => k_is)
      (case lE => k_is)
      (case eN => rfl)
      (case lN => k_is)
      (case aN => rfl)
      (case lM => k_is)
      (case aM => rfl)
      (case ni => k_is)
      (case nf => k_is)
      (case fn => k_is)
      (case sa => k_is)
      (case no => k_is)
      (case mo2 => k_is)
      (case fl => k_is)
      (case fc => k_is)
      (case fk => k_is)
      (case kp => k_is)
      (case g => k_is)
      (case r => k_is)
      (case c => k_is)
    have xLONGEST_NAME : ∃ tk : Tok, mg (Str.ofString "LONGEST_NAME") = some (.int 8 tk) := by
      refine' EV.int_mk KX G ?a
      (case a => k_is)
    exact My.main_mk hmg T Ts xLET xFIG xS xA xLONGEST_NAME D19 D22 D23 D28 D29 D30 D31 D32 D33 D35 D36 D37 D38 D39 D40 D41 D42 D43 D44 D45
