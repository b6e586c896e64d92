import PyProof.Rows.All
import Wide.All
import OpenK.AllK
import Wide.FinOn
import Lean
import PyProof.EqAt
import PyProof.EqKinds
import PyProof.TupleCall
import KE.KTryMore
import PyProof.NeKinds
import PySem.Challenge.RW_everydraw_k02_fractions_reckoned
def PySem.W.Fast.tw8327928241344279249 : Unit := ()
def PySem.W.Fast.tw10383520360263360804 : Unit := ()
def PySem.W.Fast.tw14732565791366751269 : Unit := ()
def PySem.W.Fast.tw9018288447104203107 : Unit := ()
def PySem.W.Fast.tw10473173123593917223 : Unit := ()
def PySem.W.Fast.tw17443605028962809513 : Unit := ()
def PySem.W.Fast.tw7380621718299961058 : Unit := ()
def PySem.W.Fast.tw6308171667973211788 : Unit := ()
def PySem.W.Fast.tw15458277482675864181 : Unit := ()
def PySem.W.Fast.tw16751285036575998680 : Unit := ()
def PySem.W.Fast.tw13945570036142103799 : Unit := ()
def PySem.W.Fast.tw10477532606282534368 : Unit := ()
def PySem.W.Fast.tw6068554954108646762 : Unit := ()
def PySem.W.Fast.tw15748105882641042304 : Unit := ()
def PySem.W.Fast.tw17803266227813358260 : Unit := ()
def PySem.W.Fast.tw2078206537405250046 : Unit := ()
def PySem.W.Fast.tw8280688864824224280 : Unit := ()
def PySem.W.Fast.tw15998826679304084506 : Unit := ()
def PySem.W.Fast.tw1851250022662388871 : Unit := ()
def PySem.W.Fast.tw3595936664663968767 : Unit := ()
def PySem.W.Fast.tw9836369237954355254 : Unit := ()
def PySem.W.Fast.tw16688070310161740844 : Unit := ()
def PySem.W.Fast.tw12848453980732060751 : Unit := ()
def PySem.W.Fast.tw7222615202234202913 : Unit := ()
def PySem.W.Fast.tw6769531897870732618 : Unit := ()
def PySem.W.Fast.tw448050494426001570 : Unit := ()
def PySem.W.Fast.tw17619649551782228202 : Unit := ()
def PySem.W.Fast.tw746114956305526572 : Unit := ()
def PySem.W.Fast.tw16284717287889561160 : Unit := ()
def PySem.W.Fast.tw15996095567528276515 : Unit := ()
def PySem.W.Fast.tw13676989714557819571 : Unit := ()
def PySem.W.Fast.tw8433901656926336717 : Unit := ()
def PySem.W.Fast.tw3883322824675216376 : Unit := ()
def PySem.W.Fast.tw12608939458592882227 : Unit := ()
def PySem.W.Fast.tw2524574210186207519 : Unit := ()
def PySem.W.Fast.tw11558446680449396132 : Unit := ()
def PySem.W.Fast.tw8546452812278815703 : Unit := ()
def PySem.W.Fast.tw971033976402289118 : Unit := ()
def PySem.W.Fast.tw7155606918411673502 : Unit := ()
def PySem.W.Fast.tw11199157992785734543 : Unit := ()
def PySem.W.Fast.tw10107270364850346039 : Unit := ()
def PySem.W.Fast.tw11235040807219695235 : Unit := ()
def PySem.W.Fast.tw11875106590947966698 : Unit := ()
def PySem.W.Fast.tw13674891555352344345 : Unit := ()
def PySem.W.Fast.tw15435119466761174744 : Unit := ()
def PySem.W.Fast.tw7649565442960750833 : Unit := ()
def PySem.W.Fast.tw7454883057570135627 : Unit := ()
def PySem.W.Fast.tw13817583166994212835 : Unit := ()
def PySem.W.Fast.tw6423876218146747728 : Unit := ()
def PySem.W.Fast.tw15984250513325689029 : Unit := ()
def PySem.W.Fast.tw3932475322016662307 : Unit := ()
def PySem.W.Fast.tw8094937515912641034 : Unit := ()
def PySem.W.Fast.tw17678722841786476154 : Unit := ()
def PySem.W.Fast.tw9670379059700083428 : Unit := ()
def PySem.W.Fast.tw15133414742293937289 : Unit := ()
def PySem.W.Fast.tw16687183690162556456 : Unit := ()
def PySem.W.Fast.tw15148669521368544827 : Unit := ()
def PySem.W.Fast.tw11066643383902781766 : Unit := ()
def PySem.W.Fast.tw15404664333595514108 : Unit := ()
def PySem.W.Fast.tw9916913594214551780 : Unit := ()
def PySem.W.Fast.tw50305053078463486 : Unit := ()
def PySem.W.Fast.tw3865231188980800813 : Unit := ()
def PySem.W.Fast.tw1159165129019289144 : Unit := ()
def PySem.W.Fast.tw13003309728977967812 : Unit := ()
def PySem.W.Fast.tw14415114923712111045 : Unit := ()
def PySem.W.Fast.tw7921387265891888913 : Unit := ()
def PySem.W.Fast.tw16936433182838448413 : Unit := ()
def PySem.W.Fast.tw5751279327930672722 : Unit := ()
def PySem.W.Fast.tw14954171140988966388 : Unit := ()
def PySem.W.Fast.tw7737500157176974763 : Unit := ()
def PySem.W.Fast.tw526316889562198786 : Unit := ()
def PySem.W.Fast.tw18021979117505976693 : Unit := ()
def PySem.W.Fast.tw10225878620711682303 : Unit := ()
def PySem.W.Fast.tw16139485492057482999 : Unit := ()
def PySem.W.Fast.tw9850500949328103953 : Unit := ()
def PySem.W.Fast.tw7385262506022211182 : Unit := ()
def PySem.W.Fast.tw8299447128652892381 : Unit := ()
def PySem.W.Fast.tw5574276396924467086 : Unit := ()
def PySem.W.Fast.tw6332157079795864043 : Unit := ()
def PySem.W.Fast.tw14995106400487200290 : Unit := ()
def PySem.W.Fast.tw3062991890637331226 : Unit := ()
def PySem.W.Fast.tw2815858514475736840 : Unit := ()
def PySem.W.Fast.tw15405616384366224099 : Unit := ()
def PySem.W.Fast.tw1228254094595799405 : Unit := ()
def PySem.W.Fast.tw14856368372830494484 : Unit := ()
def PySem.W.Fast.tw9395825577879040996 : Unit := ()
def PySem.W.Fast.tw8462779130570865210 : Unit := ()
def PySem.W.Fast.tw17198675413099591812 : Unit := ()
def PySem.W.Fast.tw11232042162779377978 : Unit := ()
def PySem.W.Fast.tw11515473617227660132 : Unit := ()
def PySem.W.Fast.tw2246807049467551629 : Unit := ()
def PySem.W.Fast.tw13789244109394414345 : Unit := ()
def PySem.W.Fast.tw835991413807527946 : Unit := ()
def PySem.W.Fast.tw434578696012929105 : Unit := ()
def PySem.W.Fast.tw4501704659697620937 : Unit := ()
def PySem.W.Fast.tw721809146653597356 : Unit := ()
def PySem.W.Fast.tw8154526734417592617 : Unit := ()
def PySem.W.Fast.tw17051992396030056827 : Unit := ()
def PySem.W.Fast.tw4585372208448195958 : Unit := ()
def PySem.W.Fast.tw3410074923955963851 : Unit := ()
def PySem.W.Fast.tw11325618576217185604 : Unit := ()
def PySem.W.Fast.tw4743079578321845599 : Unit := ()
def PySem.W.Fast.tw9153152823509565117 : Unit := ()
def PySem.W.Fast.tw15869634198814880075 : Unit := ()
def PySem.W.Fast.tw13993381725683647923 : Unit := ()
def PySem.W.Fast.tw11608075480230811817 : Unit := ()
def PySem.W.Fast.tw10394460857775159735 : Unit := ()
def PySem.W.Fast.tw14901221642165690710 : Unit := ()
def PySem.W.Fast.tw4604625330786329708 : Unit := ()
def PySem.W.Fast.tw17953879956829703881 : Unit := ()
def PySem.W.Fast.tw2637722124665430140 : Unit := ()
def PySem.W.Fast.tw10066509564560438757 : Unit := ()
def PySem.W.Fast.tw10349673185451719855 : Unit := ()
def PySem.W.Fast.tw13382794979669539922 : Unit := ()
def PySem.W.Fast.tw13165079992140334416 : Unit := ()
def PySem.W.Fast.tw1239800378233454905 : Unit := ()
def PySem.W.Fast.tw17762756809980202546 : Unit := ()
def PySem.W.Fast.tw15809271529056199954 : Unit := ()
def PySem.W.Fast.tw6172975420741546794 : Unit := ()
def PySem.W.Fast.tw5424842518046802942 : Unit := ()
def PySem.W.Fast.tw12857868564058076424 : Unit := ()
def PySem.W.Fast.tw11466437077426965822 : Unit := ()
def PySem.W.Fast.tw669613286906360669 : Unit := ()
def PySem.W.Fast.tw2214866343234004785 : Unit := ()
def PySem.W.Fast.tw12212432525441980020 : Unit := ()
def PySem.W.Fast.tw2178963498609351017 : Unit := ()
def PySem.W.Fast.tw4110730775424932322 : Unit := ()
def PySem.W.Fast.tw4762987609606908091 : Unit := ()
def PySem.W.Fast.tw7422254686997081280 : Unit := ()
def PySem.W.Fast.tw3235465646374946807 : Unit := ()
def PySem.W.Fast.tw15504166983456585599 : Unit := ()
def PySem.W.Fast.tw8171976638201784043 : Unit := ()
def PySem.W.Fast.tw9952287315503736618 : Unit := ()
def PySem.W.Fast.tw13508100229806686277 : Unit := ()
def PySem.W.Fast.tw6811325813749810298 : Unit := ()
def PySem.W.Fast.tw13010619158941901705 : Unit := ()
def PySem.W.Fast.tw11643947729306579218 : Unit := ()
def PySem.W.Fast.tw14250220751139332511 : Unit := ()
def PySem.W.Fast.tw12225109476971076891 : Unit := ()
def PySem.W.Fast.tw3156270349595659584 : Unit := ()
def PySem.W.Fast.tw13171629360022387077 : Unit := ()
def PySem.W.Fast.tw6585635148004386527 : Unit := ()
def PySem.W.Fast.tw12334104278799856575 : Unit := ()
def PySem.W.Fast.tw5768478931101014213 : Unit := ()
def PySem.W.Fast.tw10722457287417152497 : Unit := ()
def PySem.W.Fast.tw6895827455472451075 : Unit := ()
def PySem.W.Fast.tw1966905175958246021 : Unit := ()
def PySem.W.Fast.tw9702961202314543004 : Unit := ()
def PySem.W.Fast.tw2122147963313963150 : Unit := ()
def PySem.W.Fast.tw8495368759636869166 : Unit := ()
def PySem.W.Fast.tw18417398881185725988 : Unit := ()
def PySem.W.Fast.tw12896587048334327344 : Unit := ()
def PySem.W.Fast.tw15638647001513432153 : Unit := ()
def PySem.W.Fast.tw16533035011292866498 : Unit := ()
def PySem.W.Fast.tw6105890597322921031 : Unit := ()
def PySem.W.Fast.tw16456016191616842221 : Unit := ()
def PySem.W.Fast.tw3289132385359846579 : Unit := ()
def PySem.W.Fast.tw3954972832301353502 : Unit := ()
def PySem.W.Fast.tw1371587594515482459 : Unit := ()
def PySem.W.Fast.tw1926948368775999780 : Unit := ()
def PySem.W.Fast.tw1922813590643292927 : Unit := ()
def PySem.W.Fast.tw6847830973917713951 : Unit := ()
def PySem.W.Fast.tw6053404394688688946 : Unit := ()
def PySem.W.Fast.tw7251427518237513507 : Unit := ()
def PySem.W.Fast.tw13992602541488104541 : Unit := ()
def PySem.W.Fast.tw3705926758432033894 : Unit := ()
def PySem.W.Fast.tw2212224969449716076 : Unit := ()
def PySem.W.Fast.tw1229143896342367023 : Unit := ()
def PySem.W.Fast.tw12690716276766162718 : Unit := ()
def PySem.W.Fast.tw13874156142050378675 : Unit := ()
def PySem.W.Fast.tw12290782522752095785 : Unit := ()
def PySem.W.Fast.tw11687551717624136039 : Unit := ()
def PySem.W.Fast.tw3156424583082469748 : Unit := ()
def PySem.W.Fast.tw9930818781456296761 : Unit := ()
def PySem.W.Fast.tw954248267786279692 : Unit := ()
def PySem.W.Fast.tw3026833288587737539 : Unit := ()
def PySem.W.Fast.tw2797000330591826259 : Unit := ()
def PySem.W.Fast.tw15792547650668508601 : Unit := ()
def PySem.W.Fast.tw5109687264313315912 : Unit := ()
def PySem.W.Fast.tw16753801912038741390 : Unit := ()
def PySem.W.Fast.tw5952703076036334369 : Unit := ()
def PySem.W.Fast.tw9536392135355251093 : Unit := ()
def PySem.W.Fast.tw394682105250579934 : Unit := ()
def PySem.W.Fast.tw4019180077165582117 : Unit := ()
def PySem.W.Fast.tw12048756126229112650 : Unit := ()
def PySem.W.Fast.tw851438510480421055 : Unit := ()
def PySem.W.Fast.tw821916980549249775 : Unit := ()
def PySem.W.Fast.tw2728094176203681935 : Unit := ()
def PySem.W.Fast.tw15243039543907798284 : Unit := ()
def PySem.W.Fast.tw2652007686499435191 : Unit := ()
def PySem.W.Fast.tw14558925354221382362 : Unit := ()
def PySem.W.Fast.tw17724031526293649064 : Unit := ()
def PySem.W.Fast.tw11790534551630968827 : Unit := ()
def PySem.W.Fast.tw12546032362366393217 : Unit := ()
def PySem.W.Fast.tw10991977565044118947 : Unit := ()
def PySem.W.Fast.tw8700493627005684321 : Unit := ()
def PySem.W.Fast.tw8635894765006364180 : Unit := ()
def PySem.W.Fast.tw9945634354715404542 : Unit := ()
def PySem.W.Fast.tw263964776466814593 : Unit := ()
def PySem.W.Fast.tw4065792852939667407 : Unit := ()
def PySem.W.Fast.tw2610379886985849296 : Unit := ()
def PySem.W.Fast.tw2071913982418185 : Unit := ()
def PySem.W.Fast.tw15711771287670488963 : Unit := ()
def PySem.W.Fast.tw27614692530408314 : Unit := ()
def PySem.W.Fast.tw6131760437128388308 : Unit := ()
def PySem.W.Fast.tw3501920070589055739 : Unit := ()
def PySem.W.Fast.tw9456732595353674563 : Unit := ()
def PySem.W.Fast.tw16097669556169697311 : Unit := ()
def PySem.W.Fast.tw2733762087389667668 : Unit := ()
def PySem.W.Fast.tw18259716487879014493 : Unit := ()
def PySem.W.Fast.tw7152947832873050093 : Unit := ()
def PySem.W.Fast.tw8329144678431035985 : Unit := ()
def PySem.W.Fast.tw11778130899981206518 : Unit := ()
def PySem.W.Fast.tw15802083353778071473 : Unit := ()
def PySem.W.Fast.tw11328450731718690031 : Unit := ()
def PySem.W.Fast.tw7223452474889975146 : Unit := ()
def PySem.W.Fast.tw16432588806310053002 : Unit := ()
def PySem.W.Fast.tw16307000361858064173 : Unit := ()
def PySem.W.Fast.tw1552715490043770991 : Unit := ()
def PySem.W.Fast.tw6077109302743361798 : Unit := ()
def PySem.W.Fast.tw13030508913677534723 : Unit := ()
def PySem.W.Fast.tw2820515201654284030 : Unit := ()
def PySem.W.Fast.tw16096945414838888138 : Unit := ()
def PySem.W.Fast.tw3713380429494438250 : Unit := ()
def PySem.W.Fast.tw6249244138004119131 : Unit := ()
def PySem.W.Fast.tw12763467839020183653 : Unit := ()
def PySem.W.Fast.tw13465558801474649676 : Unit := ()
def PySem.W.Fast.tw1245175391871351038 : Unit := ()
def PySem.W.Fast.tw16246364993961598644 : Unit := ()
def PySem.W.Fast.tw1204468234669191551 : Unit := ()
def PySem.W.Fast.tw655937869291882347 : Unit := ()
def PySem.W.Fast.tw17664064433822533656 : Unit := ()
def PySem.W.Fast.tw618971690827982762 : Unit := ()
def PySem.W.Fast.tw14354289495962594559 : Unit := ()
def PySem.W.Fast.tw6706884639473710269 : Unit := ()
def PySem.W.Fast.tw18047246227616069992 : Unit := ()
def PySem.W.Fast.tw9381427219104563179 : Unit := ()
def PySem.W.Fast.tw11707465868268759161 : Unit := ()
def PySem.W.Fast.tw16120267006974836899 : Unit := ()
def PySem.W.Fast.tw10474492591775857932 : Unit := ()
def PySem.W.Fast.tw14553391006425274724 : Unit := ()
def PySem.W.Fast.tw7877992346415736254 : Unit := ()
def PySem.W.Fast.tw7929828261678555231 : Unit := ()
def PySem.W.Fast.tw14583748217180553704 : Unit := ()
def PySem.W.Fast.tw2256184668750476451 : Unit := ()
def PySem.W.Fast.tw2625113436690638399 : Unit := ()
def PySem.W.Fast.tw2015816053466501053 : Unit := ()
def PySem.W.Fast.tw2713597163427403613 : Unit := ()
def PySem.W.Fast.tw17949184914241561528 : Unit := ()
def PySem.W.Fast.tw12001836581933362025 : Unit := ()
def PySem.W.Fast.tw4342102716985891663 : Unit := ()
def PySem.W.Fast.tw15223425680323804 : Unit := ()
def PySem.W.Fast.tw16641026117379248938 : Unit := ()
def PySem.W.Fast.tw6927657135367341988 : Unit := ()
def PySem.W.Fast.tw3673335814669434342 : Unit := ()
def PySem.W.Fast.tw11182359874263181947 : Unit := ()
def PySem.W.Fast.tw1860540091159910366 : Unit := ()
def PySem.W.Fast.tw15015144440822581092 : Unit := ()
def PySem.W.Fast.tw16682331736888836770 : Unit := ()
def PySem.W.Fast.tw7940514709032272386 : Unit := ()
def PySem.W.Fast.tw14372892641616963580 : Unit := ()
def PySem.W.Fast.tw16068759628806047158 : Unit := ()
def PySem.W.Fast.tw17860978924395223384 : Unit := ()
def PySem.W.Fast.tw2152030369470521793 : Unit := ()
def PySem.W.Fast.tw2708559319882536402 : Unit := ()
def PySem.W.Fast.tw14275173383563174564 : Unit := ()
def PySem.W.Fast.tw18047943566398728866 : Unit := ()
def PySem.W.Fast.tw8649665558291278147 : Unit := ()
def PySem.W.Fast.tw14375750569950981715 : Unit := ()
def PySem.W.Fast.tw7611152734376526300 : Unit := ()
def PySem.W.Fast.tw11000787109786199894 : Unit := ()
def PySem.W.Fast.tw1239442392810238006 : Unit := ()
def PySem.W.Fast.tw405924548523311690 : Unit := ()
def PySem.W.Fast.tw15220610672292402545 : Unit := ()
def PySem.W.Fast.tw3237818305442678674 : Unit := ()
def PySem.W.Fast.tw2635358305881335250 : Unit := ()
def PySem.W.Fast.tw4077802914320286918 : Unit := ()
def PySem.W.Fast.tw876641117074730562 : Unit := ()
def PySem.W.Fast.tw2158145236098700606 : Unit := ()
def PySem.W.Fast.tw5270708836592769929 : Unit := ()
def PySem.W.Fast.tw2735507545006586263 : Unit := ()
def PySem.W.Fast.tw15279405199574627448 : Unit := ()
def PySem.W.Fast.tw3552994905195522693 : Unit := ()
def PySem.W.Fast.tw403593739080693642 : Unit := ()
def PySem.W.Fast.tw10161867694100248833 : Unit := ()
def PySem.W.Fast.tw10554423046338470633 : Unit := ()
def PySem.W.Fast.tw3302413394118202436 : Unit := ()
def PySem.W.Fast.tw14036778598475227106 : Unit := ()
def PySem.W.Fast.tw16969306879903945676 : Unit := ()
def PySem.W.Fast.tw10273462157956952514 : Unit := ()
def PySem.W.Fast.tw17705045082983122176 : Unit := ()
def PySem.W.Fast.tw482142112353413427 : Unit := ()
def PySem.W.Fast.tw14496436832390416931 : Unit := ()
def PySem.W.Fast.tw2078477053825733781 : Unit := ()
def PySem.W.Fast.tw10621154514368150237 : Unit := ()
def PySem.W.Fast.tw12038774779199918854 : Unit := ()
def PySem.W.Fast.tw13420702329137874442 : Unit := ()
def PySem.W.Fast.tw16787447724342334639 : Unit := ()
def PySem.W.Fast.tw10360179754704660598 : Unit := ()
def PySem.W.Fast.tw15894865724170462078 : Unit := ()
def PySem.W.Fast.tw17939660899383944120 : Unit := ()
def PySem.W.Fast.tw17485491839372945548 : Unit := ()
def PySem.W.Fast.tw14835974763650012760 : Unit := ()
def PySem.W.Fast.tw16685319721739813077 : Unit := ()
def PySem.W.Fast.tw4396160536975578209 : Unit := ()
def PySem.W.Fast.tw17279409686886535038 : Unit := ()
def PySem.W.Fast.tw9655414346995499956 : Unit := ()
def PySem.W.Fast.tw14098657963729042653 : Unit := ()
def PySem.W.Fast.tw13018049628257129325 : Unit := ()
def PySem.W.Fast.tw4674508472291323239 : Unit := ()
def PySem.W.Fast.tw17430547966546263937 : Unit := ()
def PySem.W.Fast.tw8135813805074902507 : Unit := ()
def PySem.W.Fast.tw5354547031055453193 : Unit := ()
def PySem.W.Fast.tw818559447625482084 : Unit := ()
def PySem.W.Fast.tw13763195122439508262 : Unit := ()
def PySem.W.Fast.tw2927357832256146720 : Unit := ()
def PySem.W.Fast.tw7839815866360896730 : Unit := ()
def PySem.W.Fast.tw7160575900930389452 : Unit := ()
def PySem.W.Fast.tw8284325670622640292 : Unit := ()
def PySem.W.Fast.tw4131653057679615471 : Unit := ()
def PySem.W.Fast.tw13127031431424913907 : Unit := ()
def PySem.W.Fast.tw7522496089721810404 : Unit := ()
def PySem.W.Fast.tw13013998702935517284 : Unit := ()
def PySem.W.Fast.tw17479260724384789227 : Unit := ()
def PySem.W.Fast.tw4745522930034807815 : Unit := ()
def PySem.W.Fast.tw15037501530253693026 : Unit := ()
def PySem.W.Fast.tw4592887018191214003 : Unit := ()
def PySem.W.Fast.tw46626077335045610 : Unit := ()
def PySem.W.Fast.tw679608687099463051 : Unit := ()
def PySem.W.Fast.tw7790377310168278978 : Unit := ()
def PySem.W.Fast.tw12162029160438968034 : Unit := ()
def PySem.W.Fast.tw11145286227222190368 : Unit := ()
def PySem.W.Fast.tw12786970130401379637 : Unit := ()
def PySem.W.Fast.tw12097616770165168231 : Unit := ()
def PySem.W.Fast.tw5622638183100515933 : Unit := ()
def PySem.W.Fast.tw12122787535682681561 : Unit := ()
def PySem.W.Fast.tw15641035394734091668 : Unit := ()
def PySem.W.Fast.tw16888588516973047544 : Unit := ()
def PySem.W.Fast.tw666642551356811394 : Unit := ()
def PySem.W.Fast.tw13852997365491111804 : Unit := ()
def PySem.W.Fast.tw13314450127688967306 : Unit := ()
def PySem.W.Fast.tw7907423251987092164 : Unit := ()
def PySem.W.Fast.tw5554814455203648382 : Unit := ()
def PySem.W.Fast.tw7033014346801570634 : Unit := ()
def PySem.W.Fast.tw12038226874995049968 : Unit := ()
def PySem.W.Fast.tw6962496744685053816 : Unit := ()
def PySem.W.Fast.tw8914898599971948786 : Unit := ()
def PySem.W.Fast.tw15777902742597340980 : Unit := ()
def PySem.W.Fast.tw896870627263776165 : Unit := ()
def PySem.W.Fast.tw9149719663489634487 : Unit := ()
def PySem.W.Fast.tw16001732592876418746 : Unit := ()
def PySem.W.Fast.tw15610857660323545535 : Unit := ()
def PySem.W.Fast.tw16616558430374444906 : Unit := ()
def PySem.W.Fast.tw6843219819207404265 : Unit := ()
def PySem.W.Fast.tw893999494252178256 : Unit := ()
def PySem.W.Fast.tw3574292087102399961 : Unit := ()
def PySem.W.Fast.tw10654203505808789705 : Unit := ()
def PySem.W.Fast.tw7765699699927882487 : Unit := ()
def PySem.W.Fast.tw9464342389997041768 : Unit := ()
def PySem.W.Fast.tw11794058276744890812 : Unit := ()
def PySem.W.Fast.tw11024087441652910735 : Unit := ()
def PySem.W.Fast.tw7883718810178445822 : Unit := ()
def PySem.W.Fast.tw4948874490572702341 : Unit := ()
def PySem.W.Fast.tw17407094570709548650 : Unit := ()
def PySem.W.Fast.tw8083142953044740828 : Unit := ()
def PySem.W.Fast.tw6217984115073784772 : Unit := ()
def PySem.W.Fast.tw3297944080541034256 : Unit := ()
def PySem.W.Fast.tw121325051928857287 : Unit := ()
def PySem.W.Fast.tw13609415160249280239 : Unit := ()
def PySem.W.Fast.tw5055969346785239713 : Unit := ()
def PySem.W.Fast.tw11014641702556714987 : Unit := ()
def PySem.W.Fast.tw13308888550193563323 : Unit := ()
def PySem.W.Fast.tw13365470935414560583 : Unit := ()
def PySem.W.Fast.tw9483725851262852169 : Unit := ()
def PySem.W.Fast.tw1651236707450092844 : Unit := ()
def PySem.W.Fast.tw7528436220945725741 : Unit := ()
def PySem.W.Fast.tw11476791538894785684 : Unit := ()
def PySem.W.Fast.tw17577014016060463594 : Unit := ()
def PySem.W.Fast.tw1504548076890380528 : Unit := ()
def PySem.W.Fast.tw8226100866845466789 : Unit := ()
def PySem.W.Fast.tw18124294910677974503 : Unit := ()
def PySem.W.Fast.tw5936341666605319678 : Unit := ()
def PySem.W.Fast.tw10890755304580920661 : Unit := ()
def PySem.W.Fast.tw6319537662346813910 : Unit := ()
def PySem.W.Fast.tw12842329203875185375 : Unit := ()
def PySem.W.Fast.tw10196872849157118315 : Unit := ()
def PySem.W.Fast.tw6055862059949536767 : Unit := ()
def PySem.W.Fast.tw8607720647799614697 : Unit := ()
def PySem.W.Fast.tw9965780747264966099 : Unit := ()
def PySem.W.Fast.tw4500269723572790081 : Unit := ()
def PySem.W.Fast.tw349947485403471117 : Unit := ()
def PySem.W.Fast.tw10065927856471288177 : Unit := ()
def PySem.W.Fast.tw6396016388022548336 : Unit := ()
def PySem.W.Fast.tw8644153760779931266 : Unit := ()
def PySem.W.Fast.tw5146194713494288602 : Unit := ()
def PySem.W.Fast.tw3179669577699568539 : Unit := ()
def PySem.W.Fast.tw4373575906265620303 : Unit := ()
def PySem.W.Fast.tw12327937968617027677 : Unit := ()
def PySem.W.Fast.tw3729499647458620258 : Unit := ()
def PySem.W.Fast.tw2028858993700076324 : Unit := ()
def PySem.W.Fast.tw16723911200194369545 : Unit := ()
def PySem.W.Fast.tw17978105180074017072 : Unit := ()
def PySem.W.Fast.tw2083237103850777998 : Unit := ()
def PySem.W.Fast.tw2189350457012651386 : Unit := ()
def PySem.W.Fast.tw4827004043724527343 : Unit := ()
def PySem.W.Fast.tw7868812238853699379 : Unit := ()
def PySem.W.Fast.tw7420245612417005835 : Unit := ()
def PySem.W.Fast.tw12373313557653326298 : Unit := ()
def PySem.W.Fast.tw3695067030098568173 : Unit := ()
def PySem.W.Fast.tw475777260458773659 : Unit := ()
def PySem.W.Fast.tw7824212647488872600 : Unit := ()
def PySem.W.Fast.tw16167931370411856079 : Unit := ()
def PySem.W.Fast.tw6403879108677515453 : Unit := ()
def PySem.W.Fast.tw1494402167325451603 : Unit := ()
set_option Elab.async false
set_option linter.all false
set_option maxRecDepth 100000
/-! THE HAND LAYER, for ints, bools, texts, own classes, LISTS and tuples (index, slices, in, append, pop ..), calls, loops. Paste it whole ahead of your own text; what your proof does not reach may be deleted. -/
namespace L2
open PySem PySem.Spec PyProof.Rows

/-- a key: an int or a str -/
abbrev Key := Sum Int Str
def keyIs : Key → Value → Bool
  | .inl k, v => Value.isInt k v
  | .inr x, v => Value.isStrOf x v
def keyH (w : World) : Key → Int
  | .inl k => hashInt k
  | .inr x => hashStr w x
theorem keyIs_shape : ∀ {k : Key} {v : Value}, keyIs k v = true → (∃ i t, k = Sum.inl i ∧ v = Value.int i t) ∨ (∃ x t, k = Sum.inr x ∧ v = Value.str x t)
  | .inl i, v, h => by
    obtain ⟨t, e⟩ := Value.isInt_shape (k := i) (v := v) h
    exact .inl ⟨i, t, rfl, e⟩
  | .inr x, v, h => by
    obtain ⟨t, e⟩ := Value.isStrOf_shape (x := x) (v := v) h
    exact .inr ⟨x, t, rfl, e⟩
theorem keyIs_int (i : Int) (t : Tok) : keyIs (.inl i) (.int i t) = true := by simp [keyIs, Value.isInt]
theorem keyIs_str (x : Str) (t : Tok) : keyIs (.inr x) (.str x t) = true := by simp [keyIs, Value.isStrOf]
theorem key_ll (a b : Int) : decide ((Sum.inl a : Key) = Sum.inl b) = (a == b) := by
  by_cases e : a = b
  · subst e; simp
  · have h : ¬ (Sum.inl a : Key) = Sum.inl b := fun q => e (Sum.inl.inj q)
    rw [decide_eq_false h]
    exact (beq_eq_false_iff_ne.mpr e).symm
theorem key_rr (a b : Str) : decide ((Sum.inr a : Key) = Sum.inr b) = decide (a = b) := by
  by_cases e : a = b
  · subst e; simp
  · have h : ¬ (Sum.inr a : Key) = Sum.inr b := fun q => e (Sum.inr.inj q)
    rw [decide_eq_false h, decide_eq_false e]
theorem key_lr (a : Int) (b : Str) : decide ((Sum.inl a : Key) = Sum.inr b) = false := decide_eq_false (fun q => nomatch q)
theorem key_rl (a : Str) (b : Int) : decide ((Sum.inr a : Key) = Sum.inl b) = false := decide_eq_false (fun q => nomatch q)

def mixKind (prog : Program) (w : World) : PySem.KeyKind prog w Key where
  is := keyIs
  hash := keyH w
  inj := fun v a b ha hb => by
    rcases keyIs_shape ha with ⟨i, t, rfl, rfl⟩ | ⟨x, t, rfl, rfl⟩
    · rcases keyIs_shape hb with ⟨j, u, rfl, e⟩ | ⟨y, u, rfl, e⟩
      · injection e with e1 _; rw [e1]
      · exact nomatch e
    · rcases keyIs_shape hb with ⟨j, u, rfl, e⟩ | ⟨y, u, rfl, e⟩
      · exact nomatch e
      · injection e with e1 _; rw [e1]
  byValue := fun k v h => by
    rcases keyIs_shape h with ⟨i, t, rfl, rfl⟩ | ⟨x, t, rfl, rfl⟩ <;> rfl
  pyHash := fun hv h => by
    rcases keyIs_shape hv with ⟨i, t, rfl, rfl⟩ | ⟨x, t, rfl, rfl⟩
    · exact wpAny_pyHash_int h
    · exact wpAny_pyHash_str h
  eqBool := fun hu hv h => by
    rcases keyIs_shape hu with ⟨i, t, rfl, rfl⟩ | ⟨x, t, rfl, rfl⟩
    · rcases keyIs_shape hv with ⟨j, u, rfl, rfl⟩ | ⟨y, u, rfl, rfl⟩
      · rw [key_ll] at h; exact wpAny_eqBool_int h
      · rw [key_lr] at h; exact SeqAt.EqAt.int_str i t y u _ _ _ _ h
    · rcases keyIs_shape hv with ⟨j, u, rfl, rfl⟩ | ⟨y, u, rfl, rfl⟩
      · rw [key_rl] at h; exact SeqAt.EqAt.str_int x t j u _ _ _ _ h
      · rw [key_rr] at h; exact wpAny_eqBool_str h
  «strs» := fun k x t v h => by
    rcases keyIs_shape h with ⟨i, u, rfl, e⟩ | ⟨y, u, rfl, e⟩
    · exact nomatch e
    · injection e with e1 _
      subst e1
      cases v <;> rfl

theorem mixKind_is (prog : Program) (w : World) (k : Key) (v : Value) : (mixKind prog w).is k v = keyIs k v := rfl
theorem mixKind_int (prog : Program) (w : World) (i : Int) (t : Tok) : (mixKind prog w).is (.inl i) (.int i t) = true := keyIs_int i t
theorem mixKind_str (prog : Program) (w : World) (x : Str) (t : Tok) : (mixKind prog w).is (.inr x) (.str x t) = true := keyIs_str x t
end L2

namespace L2
open PySem PySem.Spec PyProof.Rows

/-- a value, without the heap -/
inductive V where
  | non | bl (b : Bool) | int (i : Int) | str (x : Str) | byt (b : Array UInt8) | flt (b : UInt64) | ref (a : Addr) | ty (n : String)
  deriving DecidableEq

def RelV : V → Value → Prop
  | .non, u => u = Value.none
  | .bl b, u => u = Value.bool b
  | .int i, u => ∃ t, u = Value.int i t
  | .str x, u => ∃ t, u = Value.str x t
  | .byt b, u => ∃ t, u = Value.bytes b t
  | .flt b, u => ∃ t, u = Value.float b t
  | .ref a, u => u = Value.ref a
  | .ty n, u => u = Value.type n

abbrev Vals : List V → List Value → Prop := Paired RelV
theorem Vals.length {xs : List V} {us : List Value} (r : Vals xs us) : xs.length = us.length := Paired.length r
theorem Vals.get : ∀ {xs : List V} {us : List Value} {i : Nat} {x : V}, Vals xs us → xs[i]? = some x → ∃ u, us[i]? = some u ∧ RelV x u
  | _, _, _, _, .nil, e => by simp at e
  | _, _, 0, _, .cons r _, e => by simp at e; subst e; exact ⟨_, rfl, r⟩
  | _, _, i + 1, x, .cons _ t, e => by
    obtain ⟨u, h1, h2⟩ := Vals.get (i := i) (x := x) t (by simpa using e)
    exact ⟨u, by simpa using h1, h2⟩
theorem Vals.set {x : V} {u : Value} (r : RelV x u) : ∀ {xs : List V} {us : List Value} (i : Nat), Vals xs us → Vals (xs.set i x) (us.set i u)
  | _, _, _, .nil => .nil
  | _, _, 0, .cons _ t => .cons r t
  | _, _, i + 1, .cons q t => .cons q (Vals.set r i t)
theorem Vals.append : ∀ {xs ys : List V} {us ws : List Value}, Vals xs us → Vals ys ws → Vals (xs ++ ys) (us ++ ws)
  | _, _, _, _, .nil, s => s
  | _, _, _, _, .cons r t, s => .cons r (Vals.append t s)
theorem Vals.take : ∀ {xs : List V} {us : List Value} (n : Nat), Vals xs us → Vals (xs.take n) (us.take n)
  | _, _, 0, _ => .nil
  | _, _, _ + 1, .nil => .nil
  | _, _, n + 1, .cons r t => .cons r (Vals.take n t)
theorem Vals.drop : ∀ {xs : List V} {us : List Value} (n : Nat), Vals xs us → Vals (xs.drop n) (us.drop n)
  | _, _, 0, r => r
  | _, _, _ + 1, .nil => .nil
  | _, _, n + 1, .cons _ t => Vals.drop n t
theorem Vals.none_of : ∀ {xs : List V} {us : List Value} {i : Nat}, Vals xs us → xs[i]? = none → us[i]? = none := fun {xs us i} r e => by
  have h1 := r.length
  have h2 : xs.length ≤ i := List.getElem?_eq_none_iff.mp e
  exact List.getElem?_eq_none_iff.mpr (by omega)

def RelO : Option V → Option Value → Prop
  | some v, some u => RelV v u
  | none, none => True
  | _, _ => False
def KV {κ : Type} : List (κ × V) → List (κ × Value) → Prop := Paired fun (p : κ × V) (q : κ × Value) => p.1 = q.1 ∧ RelV p.2 q.2

/-- a key of a dict (00_mix): an int or a text -/
def kV : Key → V
  | .inl i => .int i
  | .inr x => .str x

/-- what stands at a tracked address -/
inductive HO where
  /-- a list -/
  | lst (xs : List V)
  /-- a tuple (never changes) -/
  | tup (xs : List V)
  /-- a dict whose keys are ints and texts; one whose keys are tuples of ints and texts (the empty one is both) -/
  | dK (kvs : List (Key × V)) | dT (kvs : List (List Key × V))
  /-- a set of ints: its members, its size -/
  | set (S : Int → Bool) (n : Nat)
  /-- an instance of the class at C, its dict at dx, its attributes -/
  | ins (C dx : Addr) (fs : List (Str × V))
  /-- the dict of the instance at x -/
  | own (x : Addr)
  /-- the dict of an exception -/
  | xd (fs : List (Str × V))
  /-- a bound method, f of x -/
  | met (f x : Addr)
  /-- a range object lo, lo + 1, .. below hi -/
  | rng (lo hi : Int)
  /-- a thing that is known to the object (the script; a dict while a loop walks it): read, never written while it is so -/
  | frz (o : Obj) (u : HO)
  /-- a code object's table -/
  | tbl (ps : Array Value)
  /-- any other thing, by what is true of its one object (a def of one's own: SetO a S n := HO.ext fun h => ..) -/
  | ext (φ : Heap → Prop)

abbrev Hp := Addr → Option HO
def upd (H : Hp) (a : Addr) (o : HO) : Hp := fun b => if b = a then some o else H b
theorem upd_same {H : Hp} {a : Addr} {o : HO} : upd H a o a = some o := by unfold upd; rw [if_pos rfl]
theorem upd_ne {H : Hp} {a b : Addr} {o : HO} (h : b ≠ a) : upd H a o b = H b := by unfold upd; rw [if_neg h]
theorem upd_upd {H : Hp} {a : Addr} {o u : HO} : upd (upd H a o) a u = upd H a u := by
  funext b; unfold upd; split <;> rfl
/-- two objects of different content stand apart -/
theorem ne_of {H : Hp} {a b : Addr} {o u : HO} (h : H a = some o) (h' : H b = some u) (d : o ≠ u) : a ≠ b := by
  intro e; subst e; rw [h] at h'; exact d (Option.some.inj h')
theorem ne_of_none {H : Hp} {a b : Addr} {o : HO} (h : H a = some o) (h' : H b = none) : a ≠ b := by
  intro e; subst e; rw [h] at h'; cases h'

section
variable (P : Program) (w : World)
def ObjOk (H : Hp) (h : Heap) (a : Addr) : HO → Prop
  | .lst xs => xs.length ≤ sizeLine ∧ ∃ (its : List Value) (n : Nat), Vals xs its ∧ h.get? a = some { cls := .type "list", data := .seq its.toArray n }
  | .tup xs => xs.length ≤ sizeLine ∧ ∃ its : List Value, Vals xs its ∧ IsTup h a its.toArray
  | .dK kvs => kvs.length ≤ sizeLine ∧ (a == sysModules) = false ∧ ∃ vs, KV kvs vs ∧ h.DictOf (mixKind P w) a vs
  | .dT kvs => kvs.length ≤ sizeLine ∧ (a == sysModules) = false ∧ ∃ xs : List (List Key × Addr × Value),
      Paired (fun (p : List Key × V) (q : List Key × Addr × Value) => p.1 = q.1 ∧ H q.2.1 = some (.tup (p.1.map kV)) ∧ RelV p.2 q.2.2) kvs xs ∧
      ∃ o es ep, h.get? a = some o ∧ o.ExactDict ∧ o.data = .dict es ep ∧ es.toList = xs.map (entryOfKey (tupleKind (mixKind P w))) ∧ (xs.map (·.1)).Nodup
  | .set S n => h.SetOf (intKind P w) a S n
  | .ins C dx fs => H dx = some (.own a) ∧ fs.length ≤ 1000 ∧ dx ≠ a ∧ h.get? a = some (PySem.W.instObj C dx) ∧
      ∃ mA, h.Ns1 dx mA ∧ (∀ f, RelO (fs.lookup f) (mA f)) ∧ PySem.Within mA (fs.map (·.1))
  | .own _ => ∃ o, h.get? a = some o
  | .xd fs => ∃ mA, h.Ns1 a mA ∧ ∀ f, RelO (fs.lookup f) (mA f)
  | .rng lo hi => ∃ t u v, h.get? a = some { cls := .type "range", data := .fields #[.int lo t, .int hi u, .int 1 v] }
  | .frz o u => h.get? a = some o ∧ ObjOk H h a u
  | .tbl ps => h.get? a = some { cls := .none, data := .fields ps }
  | .met f x => h.get? a = some (PySem.W.methodObj (.ref f) (.ref x))
  | .ext φ => φ h ∧ (∃ o, h.get? a = some o) ∧ ∀ h1 h2 : Heap, φ h1 → (∀ o, h1.get? a = some o → h2.get? a = some o) → φ h2
/-- the abstract heap is held -/
def HOk (H : Hp) (h : Heap) : Prop := ∀ a o, H a = some o → ObjOk P w H h a o
end

section
variable {P : Program} {w : World} {H H' : Hp} {h h' : Heap} {a : Addr} {o : HO}
theorem ObjOk.lt (x : ObjOk P w H h a o) : a < h.objs.size := by
  cases o with
  | lst xs => obtain ⟨_, _, _, _, e⟩ := x; exact Heap.lt_size e
  | tup xs => obtain ⟨_, _, _, p⟩ := x; exact p.lt
  | dK kvs => obtain ⟨_, _, _, _, o, _, _, e, _⟩ := x; exact Heap.lt_size e
  | dT kvs => obtain ⟨_, _, _, _, o, _, _, e, _⟩ := x; exact Heap.lt_size e
  | set S n => obtain ⟨o, _, _, _, e, _⟩ := x; exact Heap.lt_size e
  | ins C dx fs => obtain ⟨_, _, _, e, _⟩ := x; exact Heap.lt_size e
  | own y => obtain ⟨_, e⟩ := x; exact Heap.lt_size e
  | xd fs => obtain ⟨_, ⟨_, _, _, e, _⟩, _⟩ := x; exact Heap.lt_size e
  | rng lo hi => obtain ⟨_, _, _, e⟩ := x; exact Heap.lt_size e
  | frz ob u => obtain ⟨e, _⟩ := x; exact Heap.lt_size e
  | tbl ps => exact Heap.lt_size (show h.get? a = some _ from x)
  | met f y => exact Heap.lt_size (show h.get? a = some _ from x)
  | ext φ => obtain ⟨_, ⟨_, e⟩, _⟩ := x; exact Heap.lt_size e
theorem Paired.mapP {α β : Type} {F G : α → β → Prop} : ∀ {l₁ : List α} {l₂ : List β}, Paired F l₁ l₂ → (∀ a b, F a b → G a b) → Paired G l₁ l₂
  | _, _, .nil, _ => .nil
  | _, _, .cons r t, f => .cons (f _ _ r) (Paired.mapP t f)
theorem Paired.imp' {α β : Type} {F G : α → β → Prop} (f : ∀ a b, F a b → G a b) {l₁ : List α} {l₂ : List β} (r : Paired F l₁ l₂) : Paired G l₁ l₂ := Paired.mapP r f
/-- what an object's description leans on: its own object, its own dict, the tuples -/
theorem ObjOk.stay (x : ObjOk P w H h a o) (k : ∀ b u, (b = a ∨ H b = some (.own a)) → h.get? b = some u → h'.get? b = some u)
    (ho : ∀ b, H b = some (.own a) → H' b = some (.own a)) (ht : ∀ b xs, H b = some (.tup xs) → H' b = some (.tup xs)) : ObjOk P w H' h' a o := by
  induction o with
  | lst xs => obtain ⟨z, its, n, r, e⟩ := x; exact ⟨z, its, n, r, k _ _ (.inl rfl) e⟩
  | tup xs => obtain ⟨z, its, r, ob, e, c⟩ := x; exact ⟨z, its, r, ob, k _ _ (.inl rfl) e, c⟩
  | dK kvs => obtain ⟨z, y, vs, r, ob, es, ep, e, c⟩ := x; exact ⟨z, y, vs, r, ob, es, ep, k _ _ (.inl rfl) e, c⟩
  | dT kvs =>
    obtain ⟨z, y, xs, r, ob, es, ep, e, c⟩ := x
    exact ⟨z, y, xs, Paired.mapP r fun p q z => ⟨z.1, ht _ _ z.2.1, z.2.2⟩, ob, es, ep, k _ _ (.inl rfl) e, c⟩
  | set S n => obtain ⟨ob, es, ep, t, e, c⟩ := x; exact ⟨ob, es, ep, t, k _ _ (.inl rfl) e, c⟩
  | ins C dx fs =>
    obtain ⟨d, z, ne, e, mA, ⟨od, es, ep, e2, c⟩, r⟩ := x
    exact ⟨ho _ d, z, ne, k _ _ (.inl rfl) e, mA, ⟨od, es, ep, k _ _ (.inr d) e2, c⟩, r⟩
  | own y => obtain ⟨ob, e⟩ := x; exact ⟨ob, k _ _ (.inl rfl) e⟩
  | xd fs => obtain ⟨mA, ⟨od, es, ep, e, c⟩, r⟩ := x; exact ⟨mA, ⟨od, es, ep, k _ _ (.inl rfl) e, c⟩, r⟩
  | rng lo hi => obtain ⟨t, u, v, e⟩ := x; exact ⟨t, u, v, k _ _ (.inl rfl) e⟩
  | frz ob u ih => obtain ⟨e, q⟩ := x; exact ⟨k _ _ (.inl rfl) e, ih q⟩
  | tbl ps =>
    have e : h.get? a = some { cls := .none, data := .fields ps } := x
    show h'.get? a = some { cls := .none, data := .fields ps }
    exact k a _ (.inl rfl) e
  | met f y =>
    have e : h.get? a = some (PySem.W.methodObj (.ref f) (.ref y)) := x
    show h'.get? a = some (PySem.W.methodObj (.ref f) (.ref y))
    exact k a _ (.inl rfl) e
  | ext φ => obtain ⟨p, ⟨o, e⟩, st⟩ := x; exact ⟨st _ _ p fun o q => k _ _ (.inl rfl) q, ⟨o, k _ _ (.inl rfl) e⟩, st⟩
theorem HOk.lt (x : HOk P w H h) (e : H a = some o) : a < h.objs.size := (x a o e).lt
theorem HOk.fresh (x : HOk P w H h) (e : h.objs.size ≤ a) : H a = none := by
  cases q : H a with
  | none => rfl
  | some u => exact absurd (Nat.lt_of_lt_of_le (x.lt q) e) (Nat.lt_irrefl _)
/-- every object of the heap is kept -/
theorem HOk.kept (x : HOk P w H h) (k : ∀ b u, h.get? b = some u → h'.get? b = some u) : HOk P w H h' := fun a o e =>
  (x a o e).stay (fun b u _ q => k b u q) (fun _ q => q) fun _ _ q => q
/-- a new object is laid and tracked -/
theorem HOk.laid (x : HOk P w H h) (k : ∀ b u, h.get? b = some u → h'.get? b = some u) (hp : h.objs.size ≤ a) (new : ObjOk P w (upd H a o) h' a o) : HOk P w (upd H a o) h' := fun b u e => by
  have hn := x.fresh hp
  by_cases hb : b = a
  · subst hb; rw [upd_same] at e; cases e; exact new
  · rw [upd_ne hb] at e
    exact (x b u e).stay (fun c v _ q => k c v q) (fun c q => by rw [upd_ne (ne_of_none q hn)]; exact q) fun c xs q => by rw [upd_ne (ne_of_none q hn)]; exact q
end

/-- what may be read as u: it is u, or a known u -/
def Rd (H : Hp) (a : Addr) (u : HO) : Prop := H a = some u ∨ ∃ o, H a = some (.frz o u)
theorem Rd.of {H : Hp} {a : Addr} {u : HO} (h : H a = some u) : Rd H a u := .inl h
theorem Rd.ok {P : Program} {w : World} {H : Hp} {h : Heap} {a : Addr} {u : HO} (r : Rd H a u) (x : HOk P w H h) : ObjOk P w H h a u := by
  rcases r with r | ⟨o, r⟩
  · exact x a u r
  · obtain ⟨_, q⟩ := x a _ r
    exact q
/-- what may be written -/
def Mut : Option HO → Prop
  | some (.lst _) => True
  | some (.dK _) => True
  | some (.dT _) => True
  | some (.set _ _) => True
  | some (.ins _ _ _) => True
  | some (.ext _) => True
  | _ => False
section
variable {P : Program} {w : World} {H : Hp} {h h' : Heap} {x e : Addr} {o' : HO}
/-- the object at e is changed: x itself, or the dict of the instance x -/
theorem HOk.write (ok : HOk P w H h) (mu : Mut (H x)) (he : e = x ∨ H e = some (.own x)) (k : ∀ b u, b ≠ e → h.get? b = some u → h'.get? b = some u) (heo : ∃ u, h'.get? e = some u)
    (new : ObjOk P w (upd H x o') h' x o') : HOk P w (upd H x o') h' := fun b u q => by
  have nown : ∀ c y, H c = some (.own y) → c ≠ x := fun c y r z => by subst z; rw [r] at mu; exact mu
  have ntup : ∀ c xs, H c = some (.tup xs) → c ≠ x := fun c xs r z => by subst z; rw [r] at mu; exact mu
  by_cases hb : b = x
  · subst hb; rw [upd_same] at q; cases q; exact new
  · rw [upd_ne hb] at q
    by_cases hbe : b = e
    · have q' : H b = some (.own x) := by
        rcases he with z | z
        · exact absurd (hbe.trans z) hb
        · rw [hbe]; exact z
      rw [q] at q'; cases q'
      obtain ⟨v, hv⟩ := heo
      exact ⟨v, by rw [hbe]; exact hv⟩
    · refine (ok b u q).stay (fun c v hc r => k c v ?_ r) (fun c r => by rw [upd_ne (nown c b r)]; exact r) fun c xs r => by rw [upd_ne (ntup c xs r)]; exact r
      rcases hc with rfl | hc
      · exact hbe
      · rintro rfl
        rcases he with z | z
        · exact nown c b hc z
        · rw [hc] at z; cases z; exact hb rfl
end

/-! ### kept unless tracked; of the frames at fs (the callers') the slots may change (an exception that passes writes there); of the records at ex (iterators) nothing is said -/
structure Un (fs ex : List Addr) (H H' : Hp) (h h' : Heap) : Prop where
  keep : ∀ b o, h.get? b = some o → H b = none → b ∉ fs → b ∉ ex → h'.get? b = some o
  slot : ∀ b o, h.get? b = some o → H b = none → b ∈ fs → b ∉ ex → ∃ sl, h'.get? b = some { o with slots := sl }
  free : ∀ b o, h.get? b = some o → H b = none → b ∉ ex → H' b = none
  there : ∀ b o, h.get? b = some o → b ∉ ex → ∃ o', h'.get? b = some o'
  tups : ∀ b xs, H b = some (.tup xs) → H' b = some (.tup xs)
  frzs : ∀ b o u, H b = some (.frz o u) → H' b = some (.frz o u)
  tbls : ∀ b ps, H b = some (.tbl ps) → ∃ more, H' b = some (.tbl (ps ++ more))
section
variable {fs fs' ex ex' : List Addr} {H H1 H2 : Hp} {h h1 h2 h' : Heap} {a x e : Addr} {o : HO}
theorem Un.any (u : Un fs ex H H1 h h1) {b : Addr} {ob : Obj} (q : h.get? b = some ob) (n : H b = none) (hx : b ∉ ex) : ∃ sl, h1.get? b = some { ob with slots := sl } := by
  by_cases hb : b ∈ fs
  · exact u.slot b ob q n hb hx
  · exact ⟨ob.slots, u.keep b ob q n hb hx⟩
theorem Un.trans (a : Un fs ex H H1 h h1) (b : Un fs ex H1 H2 h1 h2) : Un fs ex H H2 h h2 where
  keep := fun c ob q n hc hx => b.keep c ob (a.keep c ob q n hc hx) (a.free c ob q n hx) hc hx
  slot := fun c ob q n hc hx => by
    obtain ⟨sl, e1⟩ := a.slot c ob q n hc hx
    obtain ⟨sl', e2⟩ := b.slot c _ e1 (a.free c ob q n hx) hc hx
    exact ⟨sl', e2⟩
  free := fun c ob q n hx => by
    obtain ⟨o', e1⟩ := a.there c ob q hx
    exact b.free c o' e1 (a.free c ob q n hx) hx
  there := fun c ob q hx => by
    obtain ⟨o', e1⟩ := a.there c ob q hx
    exact b.there c o' e1 hx
  tups := fun c xs q => b.tups c xs (a.tups c xs q)
  frzs := fun c ob xs q => b.frzs c ob xs (a.frzs c ob xs q)
  tbls := fun c ps q => by
    obtain ⟨m1, e1⟩ := a.tbls c ps q
    obtain ⟨m2, e2⟩ := b.tbls c _ e1
    exact ⟨m1 ++ m2, by rw [e2, Array.append_assoc]⟩
theorem Un.kept (k : ∀ b u, h.get? b = some u → h'.get? b = some u) : Un fs ex H H h h' :=
  ⟨fun b ob q _ _ _ => k b ob q, fun b ob q _ _ _ => ⟨ob.slots, k b ob q⟩, fun _ _ _ n _ => n, fun b ob q _ => ⟨ob, k b ob q⟩, fun _ _ q => q, fun _ _ _ q => q, fun _ ps q => ⟨#[], by rw [q]; simp⟩⟩
theorem Un.refl : Un fs ex H H h h := Un.kept fun _ _ q => q
theorem Un.laid (k : ∀ b u, h.get? b = some u → h'.get? b = some u) (hp : h.objs.size ≤ a) (hn : H a = none) : Un fs ex H (upd H a o) h h' where
  keep := fun b u q _ _ _ => k b u q
  slot := fun b u q _ _ _ => ⟨u.slots, k b u q⟩
  free := fun b u q n _ => by rw [upd_ne (Nat.ne_of_lt (Nat.lt_of_lt_of_le (Heap.lt_size q) hp))]; exact n
  there := fun b u q _ => ⟨u, k b u q⟩
  tups := fun b xs q => by rw [upd_ne (ne_of_none q hn)]; exact q
  frzs := fun b u xs q => by rw [upd_ne (ne_of_none q hn)]; exact q
  tbls := fun b ps q => ⟨#[], by rw [upd_ne (ne_of_none q hn), q]; simp⟩
theorem Un.write (mu : Mut (H x)) (he : e = x ∨ H e = some (.own x)) (k : ∀ b u, b ≠ e → h.get? b = some u → h'.get? b = some u) (heo : ∃ u, h'.get? e = some u) : Un fs ex H (upd H x o) h h' := by
  have hx : ∀ b, H b = none → b ≠ x := fun b n z => by subst z; rw [n] at mu; exact mu
  have hb : ∀ b, H b = none → b ≠ e := fun b n z => by
    subst z
    rcases he with r | r
    · exact hx b n r
    · rw [n] at r; cases r
  have hm : ∀ b u, H b = some u → ¬ Mut (some u) → b ≠ x := fun b u q nm z => by subst z; rw [q] at mu; exact nm mu
  refine ⟨fun b u q n _ _ => k b u (hb b n) q, fun b u q n _ _ => ⟨u.slots, k b u (hb b n) q⟩, fun b u q n _ => by rw [upd_ne (hx b n)]; exact n, fun b u q _ => ?_,
    fun b xs q => by rw [upd_ne (hm b _ q fun z => z)]; exact q, fun b u xs q => by rw [upd_ne (hm b _ q fun z => z)]; exact q, fun b ps q => ⟨#[], by rw [upd_ne (hm b _ q fun z => z), q]; simp⟩⟩
  by_cases hbe : b = e
  · subst hbe; exact heo
  · exact ⟨u, k b u hbe q⟩
theorem Un.mono (u : Un fs ex H H1 h h1) (hs : ∀ b ∈ fs, b ∈ fs') (hx : ∀ b ∈ ex, b ∈ ex') : Un fs' ex' H H1 h h1 :=
  ⟨fun b ob q n hb he => u.keep b ob q n (fun z => hb (hs b z)) fun z => he (hx b z), fun _ _ q n _ he => u.any q n fun z => he (hx _ z), fun b ob q n he => u.free b ob q n fun z => he (hx b z), fun b ob q he => u.there b ob q fun z => he (hx b z), u.tups, u.frzs, u.tbls⟩
end

/-! ### the heap without what is tracked -/
def trk (h : Heap) (H : Hp) : List Addr := (List.range h.objs.size).filter fun a => (H a).isSome
def hidT (h : Heap) (H : Hp) : Heap := PySem.W.hideAll h (trk h H)
theorem hidT_size (h : Heap) (H : Hp) : (hidT h H).objs.size = h.objs.size := PySem.W.hideAll_size _ _
theorem hidT_get {h : Heap} {H : Hp} {b : Addr} {o : Obj} (e : h.get? b = some o) (n : H b = none) : (hidT h H).get? b = some o :=
  PySem.W.hideAll_get _ e fun hm => by
    have q : (H b).isSome = true := (List.mem_filter.mp hm).2
    rw [n] at q; simp at q
theorem of_hidT {h : Heap} {H : Hp} {b : Addr} {o : Obj} (e : (hidT h H).get? b = some o) : h.get? b = some o ∧ H b = none := by
  have e' : h.get? b = some o := PySem.W.of_hideAll (trk h H) e
  refine ⟨e', ?_⟩
  cases q : H b with
  | none => rfl
  | some x =>
    have hm : b ∈ trk h H := List.mem_filter.mpr ⟨List.mem_range.mpr (Heap.lt_size e'), by simp [q]⟩
    have z : (hidT h H).get? b = none := PySem.W.hideAll_none (trk h H) hm
    rw [z] at e; cases e

/-! ### OpenK's ledger, filled with every new object but one -/
def allNews (g h : Heap) (L : Addr) : List (Addr × Obj) := (List.range h.objs.size).filterMap fun a => if a = L ∨ (g.get? a).isSome = true then none else (h.get? a).map fun o => (a, o)
theorem mem_allNews {g h : Heap} {L a : Addr} {o : Obj} (h1 : a ≠ L) (h2 : g.get? a = none) (h3 : h.get? a = some o) : (a, o) ∈ allNews g h L :=
  List.mem_filterMap.mpr ⟨a, List.mem_range.mpr (Heap.lt_size h3), by simp [h1, h2, h3]⟩
theorem of_mem_allNews {g h : Heap} {L : Addr} {p : Addr × Obj} (hp : p ∈ allNews g h L) : p.1 ≠ L ∧ g.get? p.1 = none ∧ h.get? p.1 = some p.2 := by
  obtain ⟨b, _, e⟩ := List.mem_filterMap.mp hp
  split at e
  · cases e
  · rename_i hn
    cases q : h.get? b with
    | none => rw [q] at e; simp at e
    | some u =>
      rw [q] at e
      simp only [Option.map_some, Option.some.injEq] at e
      subst e
      refine ⟨fun z => hn (.inl z), ?_, q⟩
      show g.get? b = none
      cases r : g.get? b with
      | none => rfl
      | some v => exact (hn (.inr (by simp [r]))).elim
def rest (g h : Heap) (L d : Addr) : List (Addr × Obj) := (allNews g h L).filter fun p => decide (p.1 ≠ d)
theorem rest_ne {g h : Heap} {L d : Addr} : ∀ p ∈ rest g h L d, p.1 ≠ d := fun p hp => of_decide_eq_true (List.mem_filter.mp hp).2
theorem mem_rest {g h : Heap} {L d a : Addr} {o : Obj} (h1 : a ≠ L) (h2 : g.get? a = none) (h3 : h.get? a = some o) (h4 : a ≠ d) : (a, o) ∈ rest g h L d :=
  List.mem_filter.mpr ⟨mem_allNews h1 h2 h3, decide_eq_true h4⟩
theorem news_all {g h : Heap} {L : Addr} : News g L h (allNews g h L) := fun p hp => let ⟨a, b, c⟩ := of_mem_allNews hp; ⟨c, a, b⟩
theorem news_at {g h : Heap} {L d : Addr} {o : Obj} (h1 : d ≠ L) (h2 : g.get? d = none) (h3 : h.get? d = some o) : News g L h ((d, o) :: rest g h L d) := fun p hp => by
  rcases List.mem_cons.mp hp with rfl | hp
  · exact ⟨h3, h1, h2⟩
  · exact news_all p (List.mem_filter.mp hp).1
/-- behind a rule that changed d alone: all else but the frame is kept -/
theorem kept_of_news {g h h' : Heap} {L d : Addr} {m : Str → Option Value} (k : ∀ b o, g.get? b = some o → h.get? b = some o) (F : Fr g L h' m) (N : News g L h' (rest g h L d)) :
    ∀ b o, b ≠ L → b ≠ d → h.get? b = some o → h'.get? b = some o := fun b o h1 h2 e => by
  cases q : g.get? b with
  | some u =>
    have := k b u q
    rw [e] at this; cases this
    exact F.keep b _ q
  | none => exact (N (b, o) (mem_rest h1 q e h2)).1
end L2

namespace L2
open PySem PySem.Spec PyProof.Rows

/-- the module's facts, over the base: the heap at the law's entry without what is tracked there -/
structure Mod (K : PySem.W.Frag) (mg : Str → Option Value) (base : Heap) : Prop where
  kin : K.In base
  glob : base.Ns mainGlobals mg
  blt : ∃ mb, base.Ns builtinsNs mb ∧ ∀ x : Str, x ≠ "__name__" → mb x = bootBuiltins x
  nolimit : base.NoLimit

/-- the context: a def's body (or a comprehension's block) running. base: fixed through the whole law; s₀, H₀: the entry; outer: the frames whose slots others may change (a def's callers); stack: all frames that run;
   ex: iterators that were made ahead of the entry and are walked here (a comprehension's); fn: the names whose cells were made at the entry (a def: all; a comprehension's block: its own); calm: not within an except suite; pn: pins that every state bears; xe: what is wanted of an exception that leaves the code -/
structure Cx where
  prog : Program
  w : World
  K : PySem.W.Frag
  mg : Str → Option Value
  base : Heap
  A : Around
  N : List Str
  s₀ : Shared
  H₀ : Hp
  env : Env
  outer : List Env
  stack : List Env
  ex : List Addr
  fn : Str → Bool
  calm : Bool
  pn : List (Addr × Obj)
  xe : Value → Shared → Prop
/-- the callers' frames -/
def frs (l : List Env) : List Addr := l.filterMap (·.frame)
abbrev Cx.fs (X : Cx) : List Addr := frs X.outer

def Vis (sc : Scope) (x : Str) : Prop := sc.names.lookup x = some .local ∨ sc.names.lookup x = some .cell ∨ sc.names.lookup x = some .free
def Loc (sc : Scope) (x : Str) : Prop := sc.names.lookup x = some .local ∨ sc.names.lookup x = some .cell
def Look (env : Env) (h : Heap) (m : Str → Option Value) (x : Str) (u : Value) : Prop :=
  (env.kindOf x = some .local ∧ m x = some u) ∨ ((env.kindOf x = some .cell ∨ env.kindOf x = some .free) ∧ ∃ c, env.cells.lookup x = some c ∧ h.IsCell c (some u))

structure Cx.Ok (X : Cx) : Prop where
  mod : Mod X.K X.mg X.base
  kind : X.env.scope.kind = .function
  glob : X.env.globals = mainGlobals
  blt : X.env.builtins = builtinsNs
  above : X.s₀.heap.objs.size ≤ X.env.locals
  inj : ∀ x y c, X.env.cells.lookup x = some c → X.env.cells.lookup y = some c → x = y
  has : ∀ x, (X.env.kindOf x = some .cell ∨ X.env.kindOf x = some .free) → ∃ c, X.env.cells.lookup x = some c
  cab : ∀ x c, X.fn x = true → X.env.cells.lookup x = some c → X.s₀.heap.objs.size ≤ c
  hd : X.calm = true → X.A.handled = none
  frames : X.A.frames = some X.stack
  stk : X.stack = X.outer ∨ (X.stack = X.env :: X.outer ∧ X.env.frame = some X.env.locals)
  exf : ∀ b ∈ X.ex, b ≠ X.env.locals ∧ ∀ x c, X.env.cells.lookup x = some c → c ≠ b
  bs : ∀ b o, X.base.get? b = some o → X.s₀.heap.get? b = some o ∧ X.H₀ b = none
  bsz : X.base.objs.size ≤ X.s₀.heap.objs.size
  noex : ∀ b o, X.base.get? b = some o → b ∉ X.ex
  exfs : ∀ b ∈ X.ex, b ∉ X.fs
  funs : X.s₀.heap.FunFrames X.base X.outer
  frf : ∀ b ∈ X.fs, X.H₀ b = none

structure Inv (X : Cx) (pins : List (Addr × Obj)) (σ : List (Option V)) (H : Hp) (s : Shared) : Prop where
  ok : X.Ok
  os : s.os = X.s₀.os
  bare : AllBare s.gens
  base : Un X.fs X.ex X.H₀ H X.s₀.heap s.heap
  loc : ∃ m, s.heap.Ns X.env.locals m ∧ ∀ (i : Nat) (x : Str) (v : V), X.N[i]? = some x → σ[i]? = some (some v) → Vis X.env.scope x → ∃ u, RelV v u ∧ Look X.env s.heap m x u
  cell : ∀ x c, X.env.cells.lookup x = some c → ∃ v, s.heap.IsCell c v
  free : H X.env.locals = none
  freeC : ∀ x c, X.env.cells.lookup x = some c → H c = none
  pin : ∀ p ∈ X.pn ++ pins, s.heap.get? p.1 = some p.2 ∧ H p.1 = none ∧ p.1 ≠ X.env.locals ∧ p.1 ∉ X.fs ∧ ∀ v, p.2.data ≠ .cell v
  hok : HOk X.prog X.w H s.heap
  len : σ.length = X.N.length

section
variable {X : Cx} {pins : List (Addr × Obj)} {σ : List (Option V)} {H H' : Hp} {s : Shared} {h' : Heap}

theorem Cx.Ok.nofr (ok : X.Ok) {b : Addr} {o : Obj} (e : X.base.get? b = some o) : b ∉ X.fs := fun hb => by
  have := (ok.funs.mem hb).1
  rw [e] at this; cases this
theorem Inv.bs (I : Inv X pins σ H s) : ∀ b o, X.base.get? b = some o → s.heap.get? b = some o ∧ H b = none := fun b o e =>
  ⟨I.base.keep b o (I.ok.bs b o e).1 (I.ok.bs b o e).2 (I.ok.nofr e) (I.ok.noex b o e), I.base.free b o (I.ok.bs b o e).1 (I.ok.bs b o e).2 (I.ok.noex b o e)⟩
theorem Inv.bk (I : Inv X pins σ H s) : ∀ b o, X.base.get? b = some o → s.heap.get? b = some o := fun b o e => (I.bs b o e).1
theorem Inv.mod (I : Inv X pins σ H s) : Mod X.K X.mg X.base := I.ok.mod
theorem Inv.kIn (I : Inv X pins σ H s) : X.K.In s.heap := I.ok.mod.kin.keeps I.bk
theorem Inv.nolimit (I : Inv X pins σ H s) : s.heap.NoLimit := I.ok.mod.nolimit.keeps I.bk
/-- the frame over the base: for OpenK's rules (K.In X.base is I.mod.kin) -/
theorem Inv.fr (I : Inv X pins σ H s) : ∃ m, Fr X.base X.env.locals s.heap m :=
  let ⟨m, hn, _⟩ := I.loc
  ⟨m, hn, I.bk, Nat.le_trans I.ok.bsz I.ok.above⟩
theorem Inv.lt (I : Inv X pins σ H s) : X.env.locals < s.heap.objs.size := let ⟨_, hn, _⟩ := I.loc; hn.lt
theorem Inv.sz (I : Inv X pins σ H s) : X.s₀.heap.objs.size ≤ s.heap.objs.size := Nat.le_trans I.ok.above (Nat.le_of_lt I.lt)
theorem Inv.nofs (I : Inv X pins σ H s) {a : Addr} (h : s.heap.objs.size ≤ a) : a ∉ X.fs := fun hb => by
  obtain ⟨_, o, ho, _⟩ := I.ok.funs.mem hb
  exact absurd (Nat.lt_of_lt_of_le (Heap.lt_size ho) (Nat.le_trans I.sz h)) (Nat.lt_irrefl _)
theorem Inv.cne (I : Inv X pins σ H s) : ∀ x c, X.env.cells.lookup x = some c → c ≠ X.env.locals := fun x c e z => by
  obtain ⟨v, o, ho, hd⟩ := I.cell x c e
  obtain ⟨m, ⟨o', es, ep, ho', hd', _⟩, _⟩ := I.loc
  rw [z, ho'] at ho; cases ho; rw [hd'] at hd; cases hd
theorem Inv.funs (I : Inv X pins σ H s) : s.heap.FunFrames X.base X.outer := by
  have all : ∀ (l : List Env), (∀ b ∈ frs l, b ∈ X.fs) → X.s₀.heap.FunFrames X.base l → s.heap.FunFrames X.base l := by
    intro l
    induction l with
    | nil => intro _ _; trivial
    | cons env r ih =>
      intro hs hl
      obtain ⟨hk, ⟨L, o, hf, hn, ho, hd⟩, hr⟩ := hl
      have hL : L ∈ X.fs := hs L (by unfold frs; rw [List.filterMap_cons, hf]; exact List.mem_cons_self)
      obtain ⟨sl, e⟩ := I.base.slot L o ho (I.ok.frf L hL) hL fun z => I.ok.exfs L z hL
      exact ⟨hk, ⟨L, _, hf, hn, e, hd⟩, ih (fun b hb => hs b (by unfold frs; rw [List.filterMap_cons, hf]; exact List.mem_cons_of_mem _ hb)) hr⟩
  exact all X.outer (fun _ hb => hb) I.ok.funs

/-- the frames that run, for a call -/
theorem Inv.stack (I : Inv X pins σ H s) : s.heap.FunFrames X.base X.stack := by
  rcases I.ok.stk with e | ⟨e, hf⟩
  · rw [e]; exact I.funs
  · rw [e]
    obtain ⟨m, hn, _⟩ := I.loc
    refine .cons (by rw [I.ok.kind]; decide) hf hn ?_ I.funs
    exact Heap.get?_none_of_le (Nat.le_trans I.ok.bsz I.ok.above)
theorem Inv.stkSub (I : Inv X pins σ H s) : ∀ b ∈ frs X.stack, b ∈ X.env.locals :: X.fs := fun b hb => by
  rcases I.ok.stk with e | ⟨e, hf⟩
  · rw [e] at hb; exact List.mem_cons_of_mem _ hb
  · rw [e] at hb
    unfold frs at hb
    rw [List.filterMap_cons, hf] at hb
    exact hb
theorem Inv.stkFree (I : Inv X pins σ H s) : ∀ b ∈ frs X.stack, H b = none := fun b hb => by
  rcases List.mem_cons.mp (I.stkSub b hb) with e | hb
  · rw [e]; exact I.free
  · obtain ⟨_, o, ho, _⟩ := I.ok.funs.mem hb
    exact I.base.free b o ho (I.ok.frf b hb) fun z => I.ok.exfs b z hb

/-- THE STEP: the untracked objects but the frame and the records at ch are kept (the callers' frames up to slots), the frame's map is kept, the new abstract heap is held -/
theorem Inv.step {g' : Array GenState} {t' : Nat} {d' : Drawn} {ch : List Addr} (I : Inv X pins σ H s)
    (hch : ∀ b ∈ ch, (b ∈ X.ex ∨ X.s₀.heap.objs.size ≤ b) ∧ b ≠ X.env.locals ∧ (∀ x c, X.env.cells.lookup x = some c → c ≠ b) ∧ ∀ p ∈ X.pn ++ pins, p.1 ≠ b)
    (keep : ∀ b o, b ≠ X.env.locals → b ∉ X.fs → b ∉ ch → s.heap.get? b = some o → H b = none → h'.get? b = some o)
    (slot : ∀ b o, b ≠ X.env.locals → b ∈ X.fs → b ∉ ch → s.heap.get? b = some o → H b = none → ∃ sl, h'.get? b = some { o with slots := sl }) (free : ∀ b o, b ∉ ch → s.heap.get? b = some o → H b = none → H' b = none)
    (there : ∀ b o, b ∉ ch → s.heap.get? b = some o → ∃ o', h'.get? b = some o')
    (tups : ∀ b xs, H b = some (.tup xs) → H' b = some (.tup xs)) (frzs : ∀ b o u, H b = some (.frz o u) → H' b = some (.frz o u)) (tbls : ∀ b ps, H b = some (.tbl ps) → ∃ more, H' b = some (.tbl (ps ++ more)))
    (ns : ∀ m, s.heap.Ns X.env.locals m → h'.Ns X.env.locals m) (hok : HOk X.prog X.w H' h') (hg : AllBare g') :
    Inv X pins σ H' { s with heap := h', gens := g', drawn := d', toks := t' } := by
  have neL : ∀ b o, X.s₀.heap.get? b = some o → b ≠ X.env.locals := fun b o e => Nat.ne_of_lt (Nat.lt_of_lt_of_le (Heap.lt_size e) I.ok.above)
  have neC : ∀ b o, X.s₀.heap.get? b = some o → b ∉ X.ex → b ∉ ch := fun b o e hx hb => by
    rcases (hch b hb).1 with z | z
    · exact hx z
    · exact absurd (Nat.lt_of_lt_of_le (Heap.lt_size e) z) (Nat.lt_irrefl _)
  have cellK : ∀ x c, X.env.cells.lookup x = some c → ∀ v, s.heap.IsCell c v → h'.IsCell c v := fun x c e v ⟨o, ho, hd⟩ => by
    have nch : c ∉ ch := fun z => (hch c z).2.2.1 x c e rfl
    by_cases hc : c ∈ X.fs
    · obtain ⟨sl, q⟩ := slot c o (I.cne x c e) hc nch ho (I.freeC x c e)
      exact ⟨_, q, hd⟩
    · exact ⟨o, keep c o (I.cne x c e) hc nch ho (I.freeC x c e), hd⟩
  refine ⟨I.ok, I.os, hg, ⟨fun b o e n hb hx => ?_, fun b o e n hb hx => ?_, fun b o e n hx => ?_, fun b o e hx => ?_, fun b xs e => tups b xs (I.base.tups b xs e), fun b o xs e => frzs b o xs (I.base.frzs b o xs e), fun b ps e => ?_⟩, ?_, fun x c e => ?_, ?_, fun x c e => ?_, fun p hp => ?_, hok, I.len⟩
  · exact keep b o (neL b o e) hb (neC b o e hx) (I.base.keep b o e n hb hx) (I.base.free b o e n hx)
  · obtain ⟨sl, e1⟩ := I.base.slot b o e n hb hx
    obtain ⟨sl', e2⟩ := slot b _ (neL b o e) hb (neC b o e hx) e1 (I.base.free b o e n hx)
    exact ⟨sl', e2⟩
  · obtain ⟨o', e1⟩ := I.base.there b o e hx
    exact free b o' (neC b o e hx) e1 (I.base.free b o e n hx)
  · obtain ⟨o', e1⟩ := I.base.there b o e hx
    exact there b o' (neC b o e hx) e1
  · obtain ⟨m1, e1⟩ := I.base.tbls b ps e
    obtain ⟨m2, e2⟩ := tbls b _ e1
    exact ⟨m1 ++ m2, by rw [e2, Array.append_assoc]⟩
  · obtain ⟨m, hn, hl⟩ := I.loc
    refine ⟨m, ns m hn, fun i x v e1 e2 e3 => ?_⟩
    obtain ⟨u, r, l⟩ := hl i x v e1 e2 e3
    refine ⟨u, r, ?_⟩
    rcases l with l | ⟨k, c, e, z⟩
    · exact .inl l
    · exact .inr ⟨k, c, e, cellK x c e _ z⟩
  · obtain ⟨v, z⟩ := I.cell x c e
    exact ⟨v, cellK x c e v z⟩
  · obtain ⟨m, ⟨o, _, _, ho, _⟩, _⟩ := I.loc
    exact free _ o (fun z => (hch _ z).2.1 rfl) ho I.free
  · obtain ⟨v, o, ho, hd⟩ := I.cell x c e
    exact free c o (fun z => (hch c z).2.2.1 x c e rfl) ho (I.freeC x c e)
  · obtain ⟨e, n, ne, nf, d⟩ := I.pin p hp
    have nch : p.1 ∉ ch := fun z => (hch p.1 z).2.2.2 p hp rfl
    exact ⟨keep p.1 p.2 ne nf nch e n, free p.1 p.2 nch e n, ne, nf, d⟩
/-- .. where the frame's own object is kept too -/
theorem Inv.un {t' : Nat} (I : Inv X pins σ H s) (u : Un X.fs [] H H' s.heap h') (hok : HOk X.prog X.w H' h') : Inv X pins σ H' { s with heap := h', toks := t' } := by
  obtain ⟨m, ⟨o, es, ep, ho, r⟩, _⟩ := id I.loc
  obtain ⟨sl, hL⟩ := u.any ho I.free (by simp)
  exact I.step (g' := s.gens) (d' := s.drawn) (ch := []) (fun _ z => nomatch z) (fun b o _ hb _ e n => u.keep b o e n hb (by simp)) (fun b o _ hb _ e n => u.slot b o e n hb (by simp)) (fun b o _ e n => u.free b o e n (by simp)) (fun b o _ e => u.there b o e (by simp)) u.tups u.frzs u.tbls (fun m' hm => by
    obtain ⟨o', es', ep', ho', r'⟩ := hm
    rw [ho] at ho'; cases ho'
    exact ⟨_, es', ep', hL, r'⟩) hok I.bare
/-- behind a call (or a comprehension's block): the slots of this frame may have changed too, the records at ch may have turned -/
theorem Inv.call {g' : Array GenState} {t' : Nat} {d' : Drawn} {ch : List Addr} (I : Inv X pins σ H s) (u : Un (frs X.stack) ch H H' s.heap h') (hok : HOk X.prog X.w H' h') (hg : AllBare g')
    (hch : ∀ b ∈ ch, (b ∈ X.ex ∨ X.s₀.heap.objs.size ≤ b) ∧ b ≠ X.env.locals ∧ (∀ x c, X.env.cells.lookup x = some c → c ≠ b) ∧ ∀ p ∈ X.pn ++ pins, p.1 ≠ b) :
    Inv X pins σ H' { s with heap := h', gens := g', drawn := d', toks := t' } := by
  obtain ⟨m, ⟨o, es, ep, ho, r⟩, _⟩ := id I.loc
  obtain ⟨sl, hL⟩ := u.any ho I.free fun z => (hch _ z).2.1 rfl
  exact I.step (ch := ch) hch (fun b o hL hb hc e n => u.keep b o e n (fun z => (List.mem_cons.mp (I.stkSub b z)).elim hL hb) hc) (fun b o _ _ hc e n => u.any e n hc) (fun b o hc e n => u.free b o e n hc) (fun b o hc e => u.there b o e hc) u.tups u.frzs u.tbls (fun m' hm => by
    obtain ⟨o', es', ep', ho', r'⟩ := hm
    rw [ho] at ho'; cases ho'
    exact ⟨_, es', ep', hL, r'⟩) hok hg
/-- an untracked record of ours (an iterator) has turned -/
theorem Inv.turned {t' : Nat} {it : Addr} (I : Inv X pins σ H s) (k : ∀ b o, b ≠ it → s.heap.get? b = some o → h'.get? b = some o) (hn : H it = none) (hL : it ≠ X.env.locals)
    (h1 : it ∈ X.ex ∨ X.s₀.heap.objs.size ≤ it) (h2 : ∀ x c, X.env.cells.lookup x = some c → c ≠ it) (h3 : ∀ p ∈ X.pn ++ pins, p.1 ≠ it) : Inv X pins σ H { s with heap := h', toks := t' } := by
  have nit : ∀ b u, H b = some u → b ≠ it := fun b u e z => by rw [z, hn] at e; cases e
  refine I.step (g' := s.gens) (d' := s.drawn) (ch := [it]) (fun b hb => ?_) (fun b o _ _ hc e _ => k b o (fun z => hc (by simp [z])) e) (fun b o _ _ hc e _ => ⟨o.slots, k b o (fun z => hc (by simp [z])) e⟩) (fun _ _ _ _ n => n)
    (fun b o hc e => ⟨o, k b o (fun z => hc (by simp [z])) e⟩) (fun _ _ e => e) (fun _ _ _ e => e) (fun b ps e => ⟨#[], by rw [e]; simp⟩) (fun m hm => ?_) (fun b u e => ?_) I.bare
  · have e : b = it := by simpa using hb
    subst e
    exact ⟨h1, hL, h2, h3⟩
  · obtain ⟨o, es, ep, ho, r⟩ := hm
    exact ⟨o, es, ep, k _ o (Ne.symm hL) ho, r⟩
  · refine (I.hok b u e).stay (fun c v hc q => k c v ?_ q) (fun _ q => q) fun _ _ q => q
    rcases hc with z | z
    · rw [z]; exact nit b u e
    · exact nit c _ z
theorem Inv.tok (I : Inv X pins σ H s) (t : Nat) : Inv X pins σ H { s with toks := t } := I.un (h' := s.heap) (t' := t) Un.refl I.hok
/-- all objects kept -/
theorem Inv.kept {t' : Nat} (I : Inv X pins σ H s) (k : ∀ b u, s.heap.get? b = some u → h'.get? b = some u) : Inv X pins σ H { s with heap := h', toks := t' } := I.un (Un.kept k) (I.hok.kept k)
/-- a new object laid and tracked -/
theorem Inv.laid {a : Addr} {o : HO} {t' : Nat} (I : Inv X pins σ H s) (k : ∀ b u, s.heap.get? b = some u → h'.get? b = some u) (hp : s.heap.objs.size ≤ a) (new : ObjOk X.prog X.w (upd H a o) h' a o) :
    Inv X pins σ (upd H a o) { s with heap := h', toks := t' } := I.un (Un.laid k hp (I.hok.fresh hp)) (I.hok.laid k hp new)
/-- an object written -/
theorem Inv.write {x e : Addr} {o : HO} {t' : Nat} (I : Inv X pins σ H s) (mu : Mut (H x)) (he : e = x ∨ H e = some (.own x)) (k : ∀ b u, b ≠ e → s.heap.get? b = some u → h'.get? b = some u) (heo : ∃ u, h'.get? e = some u)
    (new : ObjOk X.prog X.w (upd H x o) h' x o) : Inv X pins σ (upd H x o) { s with heap := h', toks := t' } := I.un (Un.write mu he k heo) (I.hok.write mu he k heo new)
/-- forgetting slots, pins -/
theorem Inv.weak {σ' : List (Option V)} (I : Inv X pins σ H s) (hl : σ'.length = σ.length) (w : ∀ (i : Nat) v, σ'[i]? = some (some v) → σ[i]? = some (some v)) : Inv X pins σ' H s :=
  ⟨I.ok, I.os, I.bare, I.base, let ⟨m, hn, hl'⟩ := I.loc; ⟨m, hn, fun i x v e1 e2 e3 => hl' i x v e1 (w i v e2) e3⟩, I.cell, I.free, I.freeC, I.pin, I.hok, hl.trans I.len⟩
theorem Inv.pins_of {pins' : List (Addr × Obj)} (I : Inv X pins σ H s) (h : ∀ p ∈ pins', s.heap.get? p.1 = some p.2 ∧ H p.1 = none ∧ p.1 ≠ X.env.locals ∧ p.1 ∉ X.fs ∧ ∀ v, p.2.data ≠ .cell v) : Inv X pins' σ H s :=
  ⟨I.ok, I.os, I.bare, I.base, I.loc, I.cell, I.free, I.freeC, fun p hp => (List.mem_append.mp hp).elim (fun z => I.pin p (List.mem_append_left _ z)) (h p), I.hok, I.len⟩

theorem nodup_ix {N : List Str} (hN : N.Nodup) {i j : Nat} {x : Str} (a : N[i]? = some x) (b : N[j]? = some x) : i = j := by
  obtain ⟨h1, e1⟩ := List.getElem?_eq_some_iff.mp a
  obtain ⟨h2, e2⟩ := List.getElem?_eq_some_iff.mp b
  exact (List.getElem_inj hN).mp (e1.trans e2.symm)

/-- a name is stored; what changed -/
theorem store_ok2 {M : Model} {A : Around} {E : Value → Shared → Prop} {i : Nat} {x : Str} {v : V} {u : Value} {Q : Unit → Shared → Prop} (I : Inv X pins σ H s) (hN : X.N.Nodup) (hi : X.N[i]? = some x) (hx : Loc X.env.scope x) (r : RelV v u)
    (h : ∀ s', Inv X pins (σ.set i (some v)) H s' → (∃ a, Heap.SameBut a s.heap s'.heap ∧ (a = X.env.locals ∨ X.env.cells.lookup x = some a)) → Q () s') (hf : X.fn x = true ∨ X.env.scope.names.lookup x = some .local := by first | exact .inl rfl | exact .inr rfl | assumption) : wpAny M A (storeName X.env x u) Q E s := by
  obtain ⟨m, hn, hl⟩ := id I.loc
  have hcls : (X.env.scope.kind == .class || (X.env.scope.kind == .module && X.env.locals != X.env.globals)) = false := by rw [I.ok.kind]; rfl
  have hiσ : i < σ.length := by rw [I.len]; exact (List.getElem?_eq_some_iff.mp hi).1
  have cne := I.cne
  have tracked : ∀ {a : Addr} {h' : Heap}, (∃ o, s.heap.get? a = some o ∧ H a = none) → Heap.SameBut a s.heap h' → HOk X.prog X.w H h' := fun {a h'} ha hs b ob e => by
    obtain ⟨_, _, hfree⟩ := ha
    refine (I.hok b ob e).stay (fun c w' hc q => (hs.2 c ?_).trans q) (fun _ q => q) fun _ _ q => q
    rintro rfl
    rcases hc with rfl | hc
    · rw [hfree] at e; cases e
    · rw [hfree] at hc; cases hc
  rcases hx with hk | hk
  · refine wpAny_storeName_local hk hn (fun h' hn' hs => ?_) hcls
    obtain ⟨oL, _, _, hoL, _⟩ := id hn
    refine h _ ⟨I.ok, I.os, I.bare, ⟨fun b o e n hb hx => ?_, fun b o e n hb hx => ?_, I.base.free, fun b o e hx => ?_, I.base.tups, I.base.frzs, I.base.tbls⟩, ⟨_, hn', fun j y v' e1 e2 e3 => ?_⟩, fun y c e => ?_, I.free, I.freeC, fun p hp => ?_, tracked ⟨oL, hoL, I.free⟩ hs, by simpa using I.len⟩ ⟨_, hs, .inl rfl⟩
    · exact (hs.2 b (Nat.ne_of_lt (Nat.lt_of_lt_of_le (Heap.lt_size e) I.ok.above))).trans (I.base.keep b o e n hb hx)
    · obtain ⟨sl, e1⟩ := I.base.slot b o e n hb hx
      exact ⟨sl, (hs.2 b (Nat.ne_of_lt (Nat.lt_of_lt_of_le (Heap.lt_size e) I.ok.above))).trans e1⟩
    · obtain ⟨o', e1⟩ := I.base.there b o e hx
      exact ⟨o', (hs.2 b (Nat.ne_of_lt (Nat.lt_of_lt_of_le (Heap.lt_size e) I.ok.above))).trans e1⟩
    · by_cases hj : j = i
      · subst hj
        rw [hi] at e1; cases e1
        rw [List.getElem?_set_self hiσ] at e2
        cases e2
        exact ⟨u, r, .inl ⟨hk, by simp⟩⟩
      · rw [List.getElem?_set_ne (Ne.symm hj)] at e2
        obtain ⟨u', r', q⟩ := hl j y v' e1 e2 e3
        refine ⟨u', r', ?_⟩
        rcases q with ⟨k, e⟩ | ⟨k, c, e, z⟩
        · refine .inl ⟨k, ?_⟩
          have : y ≠ x := fun e => hj (nodup_ix hN e1 (e ▸ hi))
          simp [this, e]
        · exact .inr ⟨k, c, e, z.sameBut hs (cne y c e)⟩
    · obtain ⟨w', z⟩ := I.cell y c e
      exact ⟨w', z.sameBut hs (cne y c e)⟩
    · obtain ⟨e, n, ne, nf, d⟩ := I.pin p hp
      exact ⟨(hs.2 p.1 ne).trans e, n, ne, nf, d⟩
  · have hfn : X.fn x = true := by
      rcases hf with z | z
      · exact z
      · rw [z] at hk; cases hk
    obtain ⟨c, hc⟩ := I.ok.has x (.inl hk)
    obtain ⟨w', z⟩ := I.cell x c hc
    refine wpAny_storeName_cell I.ok.kind hk hc z (fun h' hc' hs => ?_)
    obtain ⟨oc, hoc, hocd⟩ := id z
    refine h { s with heap := h' } ⟨I.ok, I.os, I.bare, ⟨fun b o e n hb hx => ?_, fun b o e n hb hx => ?_, I.base.free, fun b o e hx => ?_, I.base.tups, I.base.frzs, I.base.tbls⟩, ⟨m, hn.sameBut hs (Ne.symm (cne x c hc)), fun j y v' e1 e2 e3 => ?_⟩, fun y c' e => ?_, I.free, I.freeC, fun p hp => ?_, tracked ⟨oc, hoc, I.freeC x c hc⟩ hs, by simpa using I.len⟩ ⟨c, hs, .inr hc⟩
    · exact (hs.2 b (Nat.ne_of_lt (Nat.lt_of_lt_of_le (Heap.lt_size e) (I.ok.cab x c hfn hc)))).trans (I.base.keep b o e n hb hx)
    · obtain ⟨sl, e1⟩ := I.base.slot b o e n hb hx
      exact ⟨sl, (hs.2 b (Nat.ne_of_lt (Nat.lt_of_lt_of_le (Heap.lt_size e) (I.ok.cab x c hfn hc)))).trans e1⟩
    · obtain ⟨o', e1⟩ := I.base.there b o e hx
      exact ⟨o', (hs.2 b (Nat.ne_of_lt (Nat.lt_of_lt_of_le (Heap.lt_size e) (I.ok.cab x c hfn hc)))).trans e1⟩
    · by_cases hj : j = i
      · subst hj
        rw [hi] at e1; cases e1
        rw [List.getElem?_set_self hiσ] at e2
        cases e2
        exact ⟨u, r, .inr ⟨.inl hk, c, hc, hc'⟩⟩
      · rw [List.getElem?_set_ne (Ne.symm hj)] at e2
        obtain ⟨u', r', q⟩ := hl j y v' e1 e2 e3
        refine ⟨u', r', ?_⟩
        rcases q with q | ⟨k, c', e, z'⟩
        · exact .inl q
        · refine .inr ⟨k, c', e, z'.sameBut hs ?_⟩
          rintro rfl
          exact hj (nodup_ix hN e1 (I.ok.inj _ _ _ e hc ▸ hi))
    · by_cases hcc : c' = c
      · subst hcc; exact ⟨_, hc'⟩
      · obtain ⟨w2, z2⟩ := I.cell y c' e
        exact ⟨w2, z2.sameBut hs hcc⟩
    · obtain ⟨e, n, ne, nf, d⟩ := I.pin p hp
      refine ⟨(hs.2 p.1 ?_).trans e, n, ne, nf, d⟩
      intro q
      rw [q, hoc] at e
      have q' : oc = p.2 := Option.some.inj e
      exact d w' (by rw [← q']; exact hocd)
theorem store_ok {M : Model} {A : Around} {E : Value → Shared → Prop} {i : Nat} {x : Str} {v : V} {u : Value} {Q : Unit → Shared → Prop} (I : Inv X pins σ H s) (hN : X.N.Nodup) (hi : X.N[i]? = some x) (hx : Loc X.env.scope x) (r : RelV v u)
    (h : ∀ s', Inv X pins (σ.set i (some v)) H s' → Q () s') (hf : X.fn x = true ∨ X.env.scope.names.lookup x = some .local := by first | exact .inl rfl | exact .inr rfl | assumption) : wpAny M A (storeName X.env x u) Q E s :=
  store_ok2 I hN hi hx r (fun s' I' _ => h s' I') hf
/-- behind a call or a block, the state as it is -/
theorem Inv.call' {s' : Shared} {ch : List Addr} (I : Inv X pins σ H s) (ho : s'.os = s.os) (u : Un (frs X.stack) ch H H' s.heap s'.heap) (hok : HOk X.prog X.w H' s'.heap) (hg : AllBare s'.gens)
    (hch : ∀ b ∈ ch, (b ∈ X.ex ∨ X.s₀.heap.objs.size ≤ b) ∧ b ≠ X.env.locals ∧ (∀ x c, X.env.cells.lookup x = some c → c ≠ b) ∧ ∀ p ∈ X.pn ++ pins, p.1 ≠ b) : Inv X pins σ H' s' := by
  obtain ⟨h', g', d', t', o'⟩ := s'
  have e : o' = s.os := ho
  subst e
  exact I.call (g' := g') (t' := t') (d' := d') u hok hg hch
end

/-! ### the judgements -/
/-- an exception: its class, its own dict's address (where it has one), the abstract heap behind it -/
abbrev XK := Value → Option Addr → Hp → Prop
abbrev St := List (Option V)
abbrev VK := V → Hp → Prop
/-- an expression's reading; a test's; an argument list's -/
abbrev TE := St → Hp → VK → Prop
abbrev TT := St → Hp → (Bool → Hp → Prop) → Prop
abbrev TA := St → Hp → (List V → Hp → Prop) → Prop
/-- what is wanted behind a statement -/
structure Ends where
  nx : St → Hp → Prop
  rt : VK
  bk : St → Hp → Prop := fun _ _ => False
  ct : St → Hp → Prop := fun _ _ => False
abbrev TS := Ends → St → Hp → Prop

def EP (X : Cx) (pins : List (Addr × Obj)) (σ : St) (Q : VK) (u : Value) (s' : Shared) : Prop := ∃ v H', Inv X pins σ H' s' ∧ RelV v u ∧ Q v H'
def TP (X : Cx) (pins : List (Addr × Obj)) (σ : St) (Q : Bool → Hp → Prop) (b : Bool) (s' : Shared) : Prop := ∃ H', Inv X pins σ H' s' ∧ Q b H'
def AP (X : Cx) (pins : List (Addr × Obj)) (σ : St) (Q : List V → Hp → Prop) (us : List Value) (s' : Shared) : Prop := ∃ vs H', Inv X pins σ H' s' ∧ Vals vs us ∧ Q vs H'
def SP (X : Cx) (pins : List (Addr × Obj)) (D : Ends) (f : Flow) (s' : Shared) : Prop :=
  match f with
  | .next => ∃ σ' H', Inv X pins σ' H' s' ∧ D.nx σ' H'
  | .brk => ∃ σ' H', Inv X pins σ' H' s' ∧ D.bk σ' H'
  | .cont => ∃ σ' H', Inv X pins σ' H' s' ∧ D.ct σ' H'
  | .ret u => ∃ v σ' H', Inv X pins σ' H' s' ∧ RelV v u ∧ D.rt v H'

def PE (X : Cx) (e : Expr) (t : TE) : Prop :=
  ∀ (pins : List (Addr × Obj)) (s : Shared) (σ : St) (H : Hp) (Q : VK), Inv X pins σ H s → t σ H Q → wpAny (model X.prog X.w) X.A (eval e X.env) (EP X pins σ Q) X.xe s
def PT (X : Cx) (e : Expr) (t : TT) : Prop :=
  ∀ (pins : List (Addr × Obj)) (s : Shared) (σ : St) (H : Hp) (Q : Bool → Hp → Prop), Inv X pins σ H s → t σ H Q → wpAny (model X.prog X.w) X.A (isTrue e X.env (eval e X.env)) (TP X pins σ Q) X.xe s
/-- a test whatever its 'whole' is (and, or) -/
def PW (X : Cx) (e : Expr) (t : TT) : Prop :=
  ∀ (whole : Sem Value) (pins : List (Addr × Obj)) (s : Shared) (σ : St) (H : Hp) (Q : Bool → Hp → Prop), Inv X pins σ H s → t σ H Q → wpAny (model X.prog X.w) X.A (isTrue e X.env whole) (TP X pins σ Q) X.xe s
theorem PW.pt {X : Cx} {e : Expr} {t : TT} (h : PW X e t) : PT X e t := h _
/-- an argument list (no star), from the left -/
def PA (X : Cx) (es : List Expr) (t : TA) : Prop :=
  ∀ (pos : Pos) (pins : List (Addr × Obj)) (s : Shared) (σ : St) (H : Hp) (Q : List V → Hp → Prop), Inv X pins σ H s → t σ H Q → wpAny (model X.prog X.w) X.A (spliced (backTo pos (starEach es X.env))) (AP X pins σ Q) X.xe s
def PS (X : Cx) (st : Stmt) (t : TS) : Prop :=
  ∀ (pins : List (Addr × Obj)) (s : Shared) (σ : St) (H : Hp) (D : Ends), Inv X pins σ H s → t D σ H → wpAny (model X.prog X.w) X.A (exec st X.env) (SP X pins D) X.xe s
def PSs (X : Cx) (st : List Stmt) (t : TS) : Prop :=
  ∀ (pins : List (Addr × Obj)) (s : Shared) (σ : St) (H : Hp) (D : Ends), Inv X pins σ H s → t D σ H → wpAny (model X.prog X.w) X.A (execs st X.env) (SP X pins D) X.xe s
/-- weaken the end -/
theorem thn {α : Type} {t : Sem α} {Q Q' : α → Shared → Prop} {M : Model} {A : Around} {E : Value → Shared → Prop} {s : Shared} (h : wpAny M A t Q E s) (hQ : ∀ a s, Q a s → Q' a s) : wpAny M A t Q' E s := wpAny_mono h hQ fun _ _ x => x
end L2

namespace L2
open PySem PySem.Spec PyProof.Rows
section
variable {X : Cx}

/-- two expressions in a row -/
theorem bin {a b : Expr} {ta tb : TE} (ha : PE X a ta) (hb : PE X b tb) {pins : List (Addr × Obj)} {s : Shared} {σ : St} {H : Hp} {R : V → V → Hp → Prop} (I : Inv X pins σ H s) (h : ta σ H fun x H1 => tb σ H1 fun y H2 => R x y H2)
    {α : Type} {Q : α → Shared → Prop} {f : Value → Value → Sem α}
    (hf : ∀ v u s2 x y H2, Inv X pins σ H2 s2 → RelV x v → RelV y u → R x y H2 → wpAny (model X.prog X.w) X.A (f v u) Q X.xe s2) :
    wpAny (model X.prog X.w) X.A (eval a X.env) (fun v s₁ => wpAny (model X.prog X.w) X.A (eval b X.env) (fun u s₂ => wpAny (model X.prog X.w) X.A (f v u) Q X.xe s₂) X.xe s₁) X.xe s := by
  refine thn (ha pins s σ H _ I h) fun v s1 ⟨x, H1, I1, r1, q1⟩ => ?_
  refine thn (hb pins s1 σ H1 _ I1 q1) fun u s2 ⟨y, H2, I2, r2, q2⟩ => ?_
  exact hf v u s2 x y H2 I2 r1 r2 q2

/-! ### names and constants -/
def tVar (i : Nat) : TE := fun σ H Q => ∃ v, σ[i]? = some (some v) ∧ Q v H
def tC (v : V) : TE := fun _ H Q => Q v H
theorem pe_var {i : Nat} {x : Str} {pos : Pos} (hN : X.N[i]? = some x) (hv : Vis X.env.scope x) (hd : (x == ("__debug__" : Str)) = false := by decide) (hcd : (x == ("__classdict__" : Str)) = false := by decide) : PE X (.Name x pos) (tVar i) := by
  intro pins s σ H Q I h
  obtain ⟨v, e, h⟩ := h
  obtain ⟨m, hn, hl⟩ := I.loc
  obtain ⟨u, r, l⟩ := hl i x v hN e hv
  have fin : EP X pins σ Q u s := ⟨v, H, I, r, h⟩
  rcases l with ⟨hk, hm⟩ | ⟨hk, c, hc, hcell⟩
  · exact wpAny_Name (wpAny_loadName_local I.ok.kind hk hn hm fin) hd
  · rcases hk with hk | hk
    · exact wpAny_Name (wpAny_loadName_cell I.ok.kind hk hc hcell fin) hd
    · exact wpAny_Name (wpAny_loadName_free I.ok.kind hk hc hcell fin hcd) hd
theorem pe_int {i j pos} : PE X (.Constant (.int i) j pos) (tC (.int i)) := fun _ _ _ H _ I h => wpAny_Constant_int ⟨.int i, H, I.tok _, ⟨_, rfl⟩, h⟩
theorem pe_bl {b j pos} : PE X (.Constant (.bool b) j pos) (tC (.bl b)) := fun _ _ _ H _ I h => Constant_bool ⟨.bl b, H, I, rfl, h⟩
theorem pe_non {j pos} : PE X (.Constant .none j pos) (tC .non) := fun _ _ _ H _ I h => Constant_none ⟨.non, H, I, rfl, h⟩
theorem pe_str {x j pos} : PE X (.Constant (.str x) j pos) (tC (.str x)) := fun _ _ _ H _ I h => Calls.Constant_str ⟨.str x, H, I.tok _, ⟨_, rfl⟩, h⟩

/-- a global name of the def -/
def Gl (X : Cx) (x : Str) : Prop := X.env.kindOf x = some .globalImplicit
theorem ld_glob {E : Value → Shared → Prop} {pins : List (Addr × Obj)} {s : Shared} {σ : St} {H : Hp} {x : Str} {u : Value} {pos : Pos} {Q : Value → Shared → Prop} (I : Inv X pins σ H s) (hg : Gl X x) (hm : X.mg x = some u) (h : Q u s)
    (hd : (x == ("__debug__" : Str)) = false := by decide) : wpAny (model X.prog X.w) X.A (eval (.Name x pos) X.env) Q E s :=
  Calls.Name_function_global I.ok.kind hg (Calls.loadGlobal_global (by rw [I.ok.glob]; exact I.mod.glob.keeps I.bk) hm h) hd
theorem ld_blt {E : Value → Shared → Prop} {pins : List (Addr × Obj)} {s : Shared} {σ : St} {H : Hp} {x : Str} {u : Value} {pos : Pos} {Q : Value → Shared → Prop} (I : Inv X pins σ H s) (hg : Gl X x) (hm : X.mg x = none) (hv : bootBuiltins x = some u) (h : Q u s)
    (hn : x ≠ "__name__" := by decide) (hd : (x == ("__debug__" : Str)) = false := by decide) : wpAny (model X.prog X.w) X.A (eval (.Name x pos) X.env) Q E s := by
  obtain ⟨mb, h1, h2⟩ := I.mod.blt
  exact Calls.Name_function_global I.ok.kind hg (Calls.loadGlobal_builtin (by rw [I.ok.glob]; exact I.mod.glob.keeps I.bk) hm (by rw [I.ok.blt]; exact h1.keeps I.bk) ((h2 x hn).trans hv) h) hd
/-- a module's constant, a class, a function, as a value -/
theorem pe_glob {x : Str} {v : V} {u : Value} {pos : Pos} (hg : Gl X x) (hm : X.mg x = some u) (r : RelV v u) (hd : (x == ("__debug__" : Str)) = false := by decide) : PE X (.Name x pos) (tC v) :=
  fun _ _ _ H _ I h => ld_glob I hg hm ⟨v, H, I, r, h⟩ hd
theorem pe_bltn {x : Str} {v : V} {u : Value} {pos : Pos} (hg : Gl X x) (hm : X.mg x = none) (hv : bootBuiltins x = some u) (r : RelV v u) (hn : x ≠ "__name__" := by decide) (hd : (x == ("__debug__" : Str)) = false := by decide) : PE X (.Name x pos) (tC v) :=
  fun _ _ _ H _ I h => ld_blt I hg hm hv ⟨v, H, I, r, h⟩ hn hd

/-! ### arithmetic -/
/-- two ints -/
def t2I (ta tb : TE) (k : Int → Int → Hp → Prop) : St → Hp → Prop := fun σ H => ta σ H fun x H1 => tb σ H1 fun y H2 => ∃ i j, x = .int i ∧ y = .int j ∧ k i j H2
def tAdd (ta tb : TE) : TE := fun σ H Q => t2I ta tb (fun i j H2 => Q (.int (i + j)) H2) σ H
def tSub (ta tb : TE) : TE := fun σ H Q => t2I ta tb (fun i j H2 => Q (.int (i - j)) H2) σ H
/-- the left factor below 2^64 -/
def tMul (ta tb : TE) : TE := fun σ H Q => t2I ta tb (fun i j H2 => (-(2 ^ 64) < i ∧ i < 2 ^ 64) ∧ Q (.int (i * j)) H2) σ H
variable {a b : Expr} {ta tb : TE} {pos : Pos}
theorem pe_add (ha : PE X a ta) (hb : PE X b tb) : PE X (.BinOp a .Add b pos) (tAdd ta tb) := by
  intro pins s σ H Q I h
  refine wpAny_BinOp (bin ha hb I h fun v u s2 x y H2 I2 rx ry q => ?_)
  obtain ⟨i, j, rfl, rfl, q⟩ := q
  obtain ⟨t, rfl⟩ := rx
  obtain ⟨t', rfl⟩ := ry
  exact add_int ⟨.int _, H2, I2.tok _, ⟨_, rfl⟩, q⟩
theorem pe_sub (ha : PE X a ta) (hb : PE X b tb) : PE X (.BinOp a .Sub b pos) (tSub ta tb) := by
  intro pins s σ H Q I h
  refine wpAny_BinOp (bin ha hb I h fun v u s2 x y H2 I2 rx ry q => ?_)
  obtain ⟨i, j, rfl, rfl, q⟩ := q
  obtain ⟨t, rfl⟩ := rx
  obtain ⟨t', rfl⟩ := ry
  exact sub_int ⟨.int _, H2, I2.tok _, ⟨_, rfl⟩, q⟩
theorem pe_mul (ha : PE X a ta) (hb : PE X b tb) : PE X (.BinOp a .Mult b pos) (tMul ta tb) := by
  intro pins s σ H Q I h
  refine wpAny_BinOp (bin ha hb I h fun v u s2 x y H2 I2 rx ry q => ?_)
  obtain ⟨i, j, rfl, rfl, ⟨q1, q2⟩, q⟩ := q
  obtain ⟨t, rfl⟩ := rx
  obtain ⟨t', rfl⟩ := ry
  exact mul_int ⟨.int _, H2, I2.tok _, ⟨_, rfl⟩, q⟩ (.of_left (intBits_le_64 q1 q2))

/-! ### comparisons -/
def PC (X : Cx) (op : CmpOp) (a b : Expr) (t : TE) : Prop :=
  ∀ (pins : List (Addr × Obj)) (s : Shared) (σ : St) (H : Hp) (Q : VK), Inv X pins σ H s → t σ H Q →
    wpAny (model X.prog X.w) X.A (eval a X.env) (fun v s₁ => wpAny (model X.prog X.w) X.A (eval b X.env) (fun u s₂ => wpAny (model X.prog X.w) X.A (compareOp op v u) (EP X pins σ Q) X.xe s₂) X.xe s₁) X.xe s
theorem nobehind (b : Expr) {op : CmpOp} (h : op ≠ .In) (h2 : op ≠ .NotIn) : behindInMarks op b = false := by
  have e1 : (op == CmpOp.In) = false := by cases op <;> first | rfl | exact absurd rfl h
  have e2 : (op == CmpOp.NotIn) = false := by cases op <;> first | rfl | exact absurd rfl h2
  cases b <;> simp [behindInMarks, e1, e2]
def tCmp (p : Int → Int → Bool) (ta tb : TE) : TE := fun σ H Q => t2I ta tb (fun i j H2 => Q (.bl (p i j)) H2) σ H
abbrev tLt : TE → TE → TE := tCmp fun i j => decide (i < j)
abbrev tLe : TE → TE → TE := tCmp fun i j => decide (i ≤ j)
abbrev tGt : TE → TE → TE := tCmp fun i j => decide (j < i)
abbrev tGe : TE → TE → TE := tCmp fun i j => decide (j ≤ i)
abbrev tEqI : TE → TE → TE := tCmp fun i j => decide (i = j)
abbrev tNeI : TE → TE → TE := tCmp fun i j => !decide (i = j)
/-- a comparison of two ints, by its rule -/
theorem pc_int {op : CmpOp} {p : Int → Int → Bool} (ha : PE X a ta) (hb : PE X b tb)
    (rule : ∀ (i j : Int) (t u : Tok) (Q : Value → Shared → Prop) (s : Shared), Q (.bool (p i j)) s → wpAny (model X.prog X.w) X.A (compareOp op (.int i t) (.int j u)) Q X.xe s) : PC X op a b (tCmp p ta tb) := by
  intro pins s σ H Q I h
  refine bin ha hb I h fun v u s2 x y H2 I2 rx ry q => ?_
  obtain ⟨i, j, rfl, rfl, q⟩ := q
  obtain ⟨t, rfl⟩ := rx
  obtain ⟨t', rfl⟩ := ry
  exact rule i j t t' _ s2 ⟨.bl _, H2, I2, rfl, q⟩
theorem pc_lt (ha : PE X a ta) (hb : PE X b tb) : PC X .Lt a b (tLt ta tb) := pc_int ha hb fun _ _ _ _ _ _ h => lt_int h
theorem pc_le (ha : PE X a ta) (hb : PE X b tb) : PC X .LtE a b (tLe ta tb) := pc_int ha hb fun _ _ _ _ _ _ h => le_int h
theorem pc_gt (ha : PE X a ta) (hb : PE X b tb) : PC X .Gt a b (tGt ta tb) := pc_int ha hb fun _ _ _ _ _ _ h => gt_int h
theorem pc_ge (ha : PE X a ta) (hb : PE X b tb) : PC X .GtE a b (tGe ta tb) := pc_int ha hb fun _ _ _ _ _ _ h => ge_int h
theorem pc_eqI (ha : PE X a ta) (hb : PE X b tb) : PC X .Eq a b (tEqI ta tb) := pc_int ha hb fun _ _ _ _ _ _ h => eq_int (by rw [Bool.beq_eq_decide_eq]; exact h)
theorem pc_neI (ha : PE X a ta) (hb : PE X b tb) : PC X .NotEq a b (tNeI ta tb) := pc_int ha hb fun _ _ _ _ _ _ h => ne_int (by rw [bne, Bool.beq_eq_decide_eq]; exact h)
/-- is None -/
def tIsN (ta : TE) : TE := fun σ H Q => ta σ H fun x H1 => Q (.bl (decide (x = .non))) H1
def tNotN (ta : TE) : TE := fun σ H Q => ta σ H fun x H1 => Q (.bl (!decide (x = .non))) H1
theorem RelV.none_iff {x : V} {v : Value} (r : RelV x v) : (v == Value.none) = decide (x = .non) := by
  cases x with
  | non => cases r; rfl
  | bl _ => cases r; rfl
  | int _ => obtain ⟨t, rfl⟩ := r; rfl
  | str _ => obtain ⟨t, rfl⟩ := r; rfl
  | byt _ => obtain ⟨t, rfl⟩ := r; rfl
  | flt _ => obtain ⟨t, rfl⟩ := r; rfl
  | ref _ => cases r; rfl
  | ty _ => cases r; rfl
theorem pc_isN {j pos'} (ha : PE X a ta) : PC X .Is a (.Constant .none j pos') (tIsN ta) := by
  intro pins s σ H Q I h
  refine thn (ha pins s σ H _ I h) fun v s1 ⟨x, H1, I1, r1, q1⟩ => ?_
  exact Constant_none (is_none_gen ⟨.bl _, H1, I1, by rw [r1.none_iff]; rfl, q1⟩)
theorem pc_notN {j pos'} (ha : PE X a ta) : PC X .IsNot a (.Constant .none j pos') (tNotN ta) := by
  intro pins s σ H Q I h
  refine thn (ha pins s σ H _ I h) fun v s1 ⟨x, H1, I1, r1, q1⟩ => ?_
  exact Constant_none (isnot_none_gen ⟨.bl _, H1, I1, by rw [r1.none_iff]; rfl, q1⟩)
/-- a comparison as a value, as a test -/
def tB (t : TE) : TT := fun σ H Q => t σ H fun x H1 => ∃ c, x = .bl c ∧ Q c H1
theorem pe_cmp {op : CmpOp} {t : TE} (h : PC X op a b t) (h1 : behindInMarks op b = false := by first | exact nobehind _ (by decide) (by decide) | rfl) : PE X (.Compare a [op] [b] pos) t := fun pins s σ H Q I hw => wpAny_Compare1 (h pins s σ H Q I hw) h1
theorem pt_cmp {op : CmpOp} {t : TE} (h : PC X op a b t) (h1 : behindInMarks op b = false := by first | exact nobehind _ (by decide) (by decide) | rfl) : PT X (.Compare a [op] [b] pos) (tB t) := by
  intro pins s σ H Q I hw
  refine wpAny_isTrue_Compare1 (thn (h pins s σ H _ I hw) fun v s1 h1 => thn h1 fun u s2 h2 => thn h2 fun c s3 ⟨x, H1, I1, r1, q1⟩ => ?_) h1
  obtain ⟨d, rfl, q⟩ := q1
  cases r1
  exact wpAny_truthy_bool ⟨H1, I1, q⟩
/-- an expression whose value is a bool, as a test -/
theorem pt_val {e : Expr} {t : TE} (h : PE X e t) (he : ∀ whole, isTrue e X.env whole = (do let v ← whole; standAt e.pos; holding [v] (truthy v)) := by intro _; rfl) : PT X e (tB t) := by
  intro pins s σ H Q I hw
  refine isTrue_plain (thn (h pins s σ H _ I hw) fun v s1 ⟨x, H1, I1, r1, q1⟩ => ?_) (he _)
  obtain ⟨d, rfl, q⟩ := q1
  cases r1
  exact wpAny_truthy_bool ⟨H1, I1, q⟩

/-! ### and, or, not -/
variable {tA tB' : TT} {rest : List Expr}
def tAnd (t u : TT) : TT := fun σ H Q => t σ H fun c H1 => if c = true then u σ H1 Q else Q false H1
def tOr (t u : TT) : TT := fun σ H Q => t σ H fun c H1 => if c = true then Q true H1 else u σ H1 Q
def tNot (t : TT) : TT := fun σ H Q => t σ H fun c H1 => Q (!c) H1
theorem pw_and1 (ha : PT X a tA) : PW X (.BoolOp .And [a] pos) tA := by
  intro wh pins s σ H Q I h
  refine isTrue_and (thn (ha pins s σ H Q I h) fun c s1 e => ?_)
  cases c with
  | true => exact isTrue_and_nil e
  | false => exact e
theorem pw_or1 (ha : PT X a tA) : PW X (.BoolOp .Or [a] pos) tA := by
  intro wh pins s σ H Q I h
  refine isTrue_or (thn (ha pins s σ H Q I h) fun c s1 e => ?_)
  cases c with
  | false => exact isTrue_or_nil e
  | true => exact e
theorem pw_and (ha : PT X a tA) (hb : PW X (.BoolOp .And (b :: rest) pos) tB') : PW X (.BoolOp .And (a :: b :: rest) pos) (tAnd tA tB') := by
  intro wh pins s σ H Q I h
  refine isTrue_and (thn (ha pins s σ H _ I h) fun c s1 ⟨H1, I1, q1⟩ => ?_)
  cases c with
  | true => exact hb wh pins s1 σ H1 Q I1 q1
  | false => exact ⟨H1, I1, q1⟩
theorem pw_or (ha : PT X a tA) (hb : PW X (.BoolOp .Or (b :: rest) pos) tB') : PW X (.BoolOp .Or (a :: b :: rest) pos) (tOr tA tB') := by
  intro wh pins s σ H Q I h
  refine isTrue_or (thn (ha pins s σ H _ I h) fun c s1 ⟨H1, I1, q1⟩ => ?_)
  cases c with
  | true => exact ⟨H1, I1, q1⟩
  | false => exact hb wh pins s1 σ H1 Q I1 q1
theorem pt_not (ha : PT X a tA) : PT X (.UnaryOp .Not a pos) (tNot tA) := by
  intro pins s σ H Q I h
  exact isTrue_not (ha pins s σ H (fun c H1 => Q (!c) H1) I h)
/-- .. as values (bools) -/
def tAndV (ta tb : TE) : TE := fun σ H Q => ta σ H fun x H1 => ∃ c, x = .bl c ∧ if c = true then tb σ H1 Q else Q (.bl false) H1
def tOrV (ta tb : TE) : TE := fun σ H Q => ta σ H fun x H1 => ∃ c, x = .bl c ∧ if c = true then Q (.bl true) H1 else tb σ H1 Q
def tNotV (ta : TE) : TE := fun σ H Q => ta σ H fun x H1 => ∃ c, x = .bl c ∧ Q (.bl (!c)) H1
theorem pe_one {op} {t : TE} (h : PE X a t) : PE X (.BoolOp op [a] pos) t := fun pins s σ H Q I hw => BoolOp_one (h pins s σ H Q I hw)
theorem pe_and (ha : PE X a ta) (hb : PE X (.BoolOp .And (b :: rest) pos) tb) : PE X (.BoolOp .And (a :: b :: rest) pos) (tAndV ta tb) := by
  intro pins s σ H Q I h
  refine BoolOp_and (thn (ha pins s σ H _ I h) fun v s1 ⟨x, H1, I1, r1, q1⟩ => ?_)
  obtain ⟨c, rfl, q1⟩ := q1
  cases r1
  refine wpAny_truthy_bool ?_
  cases c with
  | true => exact hb pins s1 σ H1 Q I1 q1
  | false => exact ⟨.bl false, H1, I1, rfl, q1⟩
theorem pe_or (ha : PE X a ta) (hb : PE X (.BoolOp .Or (b :: rest) pos) tb) : PE X (.BoolOp .Or (a :: b :: rest) pos) (tOrV ta tb) := by
  intro pins s σ H Q I h
  refine BoolOp_or (thn (ha pins s σ H _ I h) fun v s1 ⟨x, H1, I1, r1, q1⟩ => ?_)
  obtain ⟨c, rfl, q1⟩ := q1
  cases r1
  refine wpAny_truthy_bool ?_
  cases c with
  | false => exact hb pins s1 σ H1 Q I1 q1
  | true => exact ⟨.bl true, H1, I1, rfl, q1⟩
theorem pe_not (ha : PE X a ta) : PE X (.UnaryOp .Not a pos) (tNotV ta) := by
  intro pins s σ H Q I h
  refine UnaryOp_ (thn (ha pins s σ H _ I h) fun v s1 ⟨x, H1, I1, r1, q1⟩ => ?_)
  obtain ⟨c, rfl, q1⟩ := q1
  cases r1
  exact not_of (wpAny_truthy_bool ⟨.bl (!c), H1, I1, rfl, q1⟩)
/-- a if t else b -/
def tIf (t : TT) (ta tb : TE) : TE := fun σ H Q => t σ H fun c H1 => if c = true then ta σ H1 Q else tb σ H1 Q
theorem pe_ifExp {c : Expr} (hc : PT X c tA) (ha : PE X a ta) (hb : PE X b tb) : PE X (.IfExp c a b pos) (tIf tA ta tb) := by
  intro pins s σ H Q I h
  refine wpAny_IfExp (thn (hc pins s σ H _ I h) fun d s1 ⟨H1, I1, q1⟩ => ?_)
  cases d with
  | true => exact ha pins s1 σ H1 Q I1 q1
  | false => exact hb pins s1 σ H1 Q I1 q1
end
end L2

namespace L2
open PySem PySem.Spec PyProof.Rows

/-! ### a list, a tuple that is read: tracked, frozen, or an object of the module -/
def SqL (K : PySem.W.Frag) (H : Hp) (a : Addr) (xs : List V) : Prop :=
  Rd H a (.lst xs) ∨
    ∃ (o : Obj) (its : Array Value) (n : Nat), K.lookup a = some o ∧ o.cls = .type "list" ∧ o.dict = none ∧ o.data = .seq its n ∧ its.size ≤ sizeLine ∧ Vals xs its.toList
def SqT (K : PySem.W.Frag) (H : Hp) (a : Addr) (xs : List V) : Prop :=
  Rd H a (.tup xs) ∨
    ∃ (o : Obj) (its : Array Value) (n : Nat), K.lookup a = some o ∧ o.cls = .type "tuple" ∧ o.data = .seq its n ∧ its.size ≤ sizeLine ∧ Vals xs its.toList
def absV : Value → Option V
  | .none => some .non
  | .bool b => some (.bl b)
  | .int i _ => some (.int i)
  | .str x _ => some (.str x)
  | .bytes b _ => some (.byt b)
  | .float b _ => some (.flt b)
  | .ref a => some (.ref a)
  | .type n => some (.ty n)
  | _ => none
theorem RelV.abs {x : V} {u : Value} (r : RelV x u) : absV u = some x := by
  cases x with
  | non => cases r; rfl
  | bl _ => cases r; rfl
  | int _ => obtain ⟨t, rfl⟩ := r; rfl
  | str _ => obtain ⟨t, rfl⟩ := r; rfl
  | byt _ => obtain ⟨t, rfl⟩ := r; rfl
  | flt _ => obtain ⟨t, rfl⟩ := r; rfl
  | ref _ => cases r; rfl
  | ty _ => cases r; rfl
theorem RelV.inj {x y : V} {u : Value} (r : RelV x u) (q : RelV y u) : x = y := Option.some.inj (r.abs.symm.trans q.abs)
theorem Vals.inj : ∀ {xs ys : List V} {us : List Value}, Vals xs us → Vals ys us → xs = ys
  | _, _, _, .nil, .nil => rfl
  | _, _, _, .cons r t, .cons r' t' => by rw [r.inj r', Vals.inj t t']
section
variable {X : Cx} {pins : List (Addr × Obj)} {σ : St} {H : Hp} {s : Shared} {a : Addr} {xs ys : List V}
theorem SqL.of {K : PySem.W.Frag} (h : H a = some (.lst xs)) : SqL K H a xs := .inl (.inl h)
theorem SqT.of {K : PySem.W.Frag} (h : H a = some (.tup xs)) : SqT K H a xs := .inl (.inl h)
theorem Inv.list (I : Inv X pins σ H s) (h : SqL X.K H a xs) : ∃ its : List Value, Vals xs its ∧ PlainL s.heap a its.toArray ∧ xs.length ≤ sizeLine := by
  rcases h with h | ⟨o, its, n, hk, hc, hd, hs, hz, r⟩
  · obtain ⟨z, its, n, r, e⟩ := h.ok I.hok
    exact ⟨its, r, ⟨_, n, e, rfl, rfl, rfl⟩, z⟩
  · refine ⟨its.toList, r, ⟨o, n, I.kIn a o hk, hc, hd, by simpa using hs⟩, ?_⟩
    have e := r.length
    simp only [Array.length_toList] at e
    omega
theorem Inv.tuple (I : Inv X pins σ H s) (h : SqT X.K H a xs) : ∃ its : List Value, Vals xs its ∧ IsTup s.heap a its.toArray ∧ xs.length ≤ sizeLine := by
  rcases h with h | ⟨o, its, n, hk, hc, hs, hz, r⟩
  · obtain ⟨z, its, r, p⟩ := h.ok I.hok
    exact ⟨its, r, p, z⟩
  · refine ⟨its.toList, r, ⟨o, I.kIn a o hk, hc, n, by simpa using hs⟩, ?_⟩
    have e := r.length
    simp only [Array.length_toList] at e
    omega
theorem Inv.list_inj (I : Inv X pins σ H s) (h : SqL X.K H a xs) (h' : SqL X.K H a ys) : xs = ys := by
  obtain ⟨its, r, ⟨o, n, e, _, _, d⟩, _⟩ := I.list h
  obtain ⟨its', r', ⟨o', n', e', _, _, d'⟩, _⟩ := I.list h'
  rw [e] at e'; cases e'
  rw [d] at d'
  injection d' with d1 _
  have : its = its' := by simpa using congrArg Array.toList d1
  subst this
  exact r.inj r'
theorem Inv.tuple_inj (I : Inv X pins σ H s) (h : SqT X.K H a xs) (h' : SqT X.K H a ys) : xs = ys := by
  obtain ⟨its, r, ⟨o, e, _, n, d⟩, _⟩ := I.tuple h
  obtain ⟨its', r', ⟨o', e', _, n', d'⟩, _⟩ := I.tuple h'
  rw [e] at e'; cases e'
  rw [d] at d'
  injection d' with d1 _
  have : its = its' := by simpa using congrArg Array.toList d1
  subst this
  exact r.inj r'
end

/-! ### another wish about exceptions -/
abbrev Cx.wish (X : Cx) (E : Value → Shared → Prop) : Cx := { X with xe := E }
/-- no exception leaves -/
abbrev Cx.nox (X : Cx) : Cx := X.wish fun _ _ => False
theorem Cx.Ok.wish {X : Cx} (ok : X.Ok) (E : Value → Shared → Prop) : (X.wish E).Ok :=
  ⟨ok.mod, ok.kind, ok.glob, ok.blt, ok.above, ok.inj, ok.has, ok.cab, ok.hd, ok.frames, ok.stk, ok.exf, ok.bs, ok.bsz, ok.noex, ok.exfs, ok.funs, ok.frf⟩
theorem Cx.Ok.unwish {X : Cx} {E : Value → Shared → Prop} (ok : (X.wish E).Ok) : X.Ok :=
  ⟨ok.mod, ok.kind, ok.glob, ok.blt, ok.above, ok.inj, ok.has, ok.cab, ok.hd, ok.frames, ok.stk, ok.exf, ok.bs, ok.bsz, ok.noex, ok.exfs, ok.funs, ok.frf⟩
section
variable {X : Cx} {pins : List (Addr × Obj)} {σ : St} {H : Hp} {s : Shared} {E : Value → Shared → Prop}
theorem Inv.wish (I : Inv X pins σ H s) (E : Value → Shared → Prop) : Inv (X.wish E) pins σ H s := ⟨I.ok.wish E, I.os, I.bare, I.base, I.loc, I.cell, I.free, I.freeC, I.pin, I.hok, I.len⟩
theorem Inv.unwish (I : Inv (X.wish E) pins σ H s) : Inv X pins σ H s := ⟨I.ok.unwish, I.os, I.bare, I.base, I.loc, I.cell, I.free, I.freeC, I.pin, I.hok, I.len⟩
theorem SP.unwish {D : Ends} {f : Flow} {s' : Shared} (h : SP (X.wish E) pins D f s') : SP X pins D f s' := by
  cases f with
  | next => obtain ⟨σ', H', I, q⟩ := h; exact ⟨σ', H', I.unwish, q⟩
  | brk => obtain ⟨σ', H', I, q⟩ := h; exact ⟨σ', H', I.unwish, q⟩
  | cont => obtain ⟨σ', H', I, q⟩ := h; exact ⟨σ', H', I.unwish, q⟩
  | ret u => obtain ⟨v, σ', H', I, r, q⟩ := h; exact ⟨v, σ', H', I.unwish, r, q⟩
theorem PE.nox {e : Expr} {t : TE} (h : PE X.nox e t) : PE X e t := fun pins s σ H Q I hw =>
  wpAny_mono (h pins s σ H Q (I.wish _) hw) (fun _ _ ⟨v, H', I', r, q⟩ => ⟨v, H', I'.unwish, r, q⟩) fun _ _ z => False.elim z
theorem PT.nox {e : Expr} {t : TT} (h : PT X.nox e t) : PT X e t := fun pins s σ H Q I hw =>
  wpAny_mono (h pins s σ H Q (I.wish _) hw) (fun _ _ ⟨H', I', q⟩ => ⟨H', I'.unwish, q⟩) fun _ _ z => False.elim z
theorem PSs.nox {st : List Stmt} {t : TS} (h : PSs X.nox st t) : PSs X st t := fun pins s σ H D I hw =>
  wpAny_mono (h pins s σ H D (I.wish _) hw) (fun _ _ q => q.unwish) fun _ _ z => False.elim z
end

/-! ### blocks and small statements -/
section
variable {X : Cx} {st : Stmt} {rest : List Stmt} {t u : TS} {e : Expr} {te : TE} {pos : Pos}
def tNext : TS := fun D σ H => D.nx σ H
def tSeq (t u : TS) : TS := fun D σ H => t { D with nx := u D } σ H
theorem pss_nil : PSs X [] tNext := fun _ _ σ H _ I h => wpAny_execs_nil ⟨σ, H, I, h⟩
theorem pss_cons (h1 : PS X st t) (h2 : PSs X rest u) : PSs X (st :: rest) (tSeq t u) := by
  intro pins s σ H D I h
  refine wpAny_execs_cons (thn (h1 pins s σ H { D with nx := u D } I h) fun f s1 q => ?_)
  cases f with
  | next =>
    obtain ⟨σ', H', I', q⟩ := q
    exact h2 pins s1 σ' H' D I' q
  | ret v => exact q
  | brk => exact q
  | cont => exact q
theorem pss_one (h1 : PS X st t) : PSs X [st] t := by
  intro pins s σ H D I h
  refine wpAny_execs_cons (thn (h1 pins s σ H D I h) fun f s1 q => ?_)
  cases f with
  | next => exact wpAny_execs_nil q
  | ret v => exact q
  | brk => exact q
  | cont => exact q
def tBreak : TS := fun D σ H => D.bk σ H
def tCont : TS := fun D σ H => D.ct σ H
theorem ps_pass : PS X (.Pass pos) tNext := fun _ _ σ H _ I h => wpAny_Pass ⟨σ, H, I, h⟩
theorem ps_break : PS X (.Break pos) tBreak := fun _ _ σ H _ I h => wpAny_Break ⟨σ, H, I, h⟩
theorem ps_continue : PS X (.Continue pos) tCont := fun _ _ σ H _ I h => wpAny_Continue ⟨σ, H, I, h⟩
/-- in a def's body nothing is shown -/
theorem Inv.quiet {pins : List (Addr × Obj)} {σ : St} {H : Hp} {s : Shared} (I : Inv X pins σ H s) : interactive X.env = false := by simp [interactive, I.ok.kind]
/-- a docstring -/
theorem ps_doc {x j pos pos'} : PS X (.Expr (.Constant (.str x) j pos) pos') tNext := fun _ s σ H _ I h => wpAny_Expr (Calls.Constant_str (show SP X _ _ .next { s with toks := s.toks + 1 } from ⟨σ, H, I.tok _, h⟩)) I.quiet
/-- an expression whose value is dropped -/
def tDrop (te : TE) : TS := fun D σ H => te σ H fun _ H1 => D.nx σ H1
theorem ps_expr (he : PE X e te) (hs : swapsWith e none pos.line X.env = pure false := by rfl) : PS X (.Expr e pos) (tDrop te) := by
  intro pins s σ H D I h
  exact wpAny_Expr_any (thn (he pins s σ H _ I h) fun v s1 ⟨x, H1, I1, r1, q1⟩ => ⟨σ, H1, I1, q1⟩) I.quiet hs
def tRet (te : TE) : TS := fun D σ H => te σ H D.rt
theorem ps_ret (he : PE X e te) : PS X (.Return (some e) pos) (tRet te) := by
  intro pins s σ H D I h
  exact wpAny_Return_some (thn (he pins s σ H _ I h) fun v s1 ⟨x, H1, I1, r1, q1⟩ => ⟨x, σ, H1, I1, r1, q1⟩)
def tRetN : TS := fun D _ H => D.rt .non H
theorem ps_retN : PS X (.Return none pos) tRetN := fun _ _ σ H _ I h => wpAny_Return_none ⟨.non, σ, H, I, rfl, h⟩
def tIfS (c : TT) (t u : TS) : TS := fun D σ H => c σ H fun b H1 => if b = true then t D σ H1 else u D σ H1
theorem ps_if {c : Expr} {a b : List Stmt} {tc : TT} (hc : PT X c tc) (ha : PSs X a t) (hb : PSs X b u) : PS X (.If c a b pos) (tIfS tc t u) := by
  intro pins s σ H D I h
  refine wpAny_If (thn (hc pins s σ H _ I h) fun d s1 ⟨H1, I1, q1⟩ => ?_)
  cases d with
  | true => exact ha pins s1 σ H1 D I1 q1
  | false => exact hb pins s1 σ H1 D I1 q1
/-- code that the proof never comes to -/
def tNever : TS := fun _ _ _ => False
theorem ps_never : PS X st tNever := fun _ _ _ _ _ _ h => h.elim
theorem pss_never {sts : List Stmt} : PSs X sts tNever := fun _ _ _ _ _ _ h => h.elim
end

/-! ### targets -/
abbrev TG := V → St → Hp → (St → Hp → Prop) → Prop
abbrev TGs := List V → St → Hp → (St → Hp → Prop) → Prop
def PG (X : Cx) (target : Expr) (t : TG) : Prop :=
  ∀ (pins : List (Addr × Obj)) (s : Shared) (σ : St) (H : Hp) (v : V) (u : Value) (Q : St → Hp → Prop), Inv X pins σ H s → RelV v u → t v σ H Q →
    wpAny (model X.prog X.w) X.A (assign target X.env u) (fun _ s' => ∃ σ' H', Inv X pins σ' H' s' ∧ Q σ' H') X.xe s
/-- several targets, one after another -/
def PGs (X : Cx) (ts : List Expr) (t : TGs) : Prop :=
  ∀ (pins : List (Addr × Obj)) (s : Shared) (σ : St) (H : Hp) (vs : List V) (us : List Value) (Q : St → Hp → Prop), Inv X pins σ H s → Vals vs us → t vs σ H Q →
    wpAny (model X.prog X.w) X.A (assignInOrder ((assignEach ts X.env).map (·.2)) us) (fun _ s' => ∃ σ' H', Inv X pins σ' H' s' ∧ Q σ' H') X.xe s
/-- o[i] = v, by values -/
abbrev TSet := V → V → V → Hp → (Hp → Prop) → Prop
def PSet (X : Cx) (t : TSet) : Prop :=
  ∀ (pins : List (Addr × Obj)) (s : Shared) (σ : St) (H : Hp) (o i v : V) (ov iv u : Value) (Q : Hp → Prop), Inv X pins σ H s → RelV o ov → RelV i iv → RelV v u → t o i v H Q →
    wpAny (model X.prog X.w) X.A (setItem ov iv u) (fun _ s' => ∃ H', Inv X pins σ H' s' ∧ Q H') X.xe s
/-- a op= b, by values -/
abbrev TIp := V → V → Hp → VK → Prop
def PIp (X : Cx) (op : Operator) (t : TIp) : Prop :=
  ∀ (pins : List (Addr × Obj)) (s : Shared) (σ : St) (H : Hp) (x y : V) (v u : Value) (Q : VK), Inv X pins σ H s → RelV x v → RelV y u → t x y H Q →
    wpAny (model X.prog X.w) X.A (inplaceOp op v u) (EP X pins σ Q) X.xe s
section
variable {X : Cx} {pos : Pos}
def gName (i : Nat) : TG := fun v σ H Q => Q (σ.set i (some v)) H
theorem pg_name {i : Nat} {x : Str} (hN : X.N.Nodup) (hi : X.N[i]? = some x) (hx : Loc X.env.scope x) (hf : X.fn x = true ∨ X.env.scope.names.lookup x = some .local := by first | exact .inl rfl | exact .inr rfl | assumption) : PG X (.Name x pos) (gName i) := by
  intro pins s σ H v u Q I r h
  exact wpAny_assign_Name (store_ok I hN hi hx r (fun s' I' => ⟨_, H, I', h⟩) hf)
def gNil : TGs := fun vs σ H Q => vs = [] ∧ Q σ H
def gCons (t : TG) (u : TGs) : TGs := fun vs σ H Q => ∃ v r, vs = v :: r ∧ t v σ H fun σ' H' => u r σ' H' Q
theorem pgs_nil : PGs X [] gNil := by
  intro pins s σ H vs us Q I r h
  obtain ⟨e, h⟩ := h
  subst e
  cases r
  exact assignInOrder_nil ⟨σ, H, I, h⟩
theorem pgs_cons {e : Expr} {es : List Expr} {t : TG} {u : TGs} (h1 : PG X e t) (h2 : PGs X es u)
    (hs : (assignEach (e :: es) X.env).map (·.2) = assign e X.env :: (assignEach es X.env).map (·.2) := by rfl) : PGs X (e :: es) (gCons t u) := by
  intro pins s σ H vs us Q I r h
  obtain ⟨v, vr, e1, h⟩ := h
  subst e1
  cases r with
  | cons r rr =>
    rw [hs]
    refine assignInOrder_cons (thn (h1 pins s σ H _ _ _ I r h) fun _ s1 ⟨σ1, H1, I1, q1⟩ => ?_)
    exact h2 pins s1 σ1 H1 _ _ Q I1 rr q1
/-- (a, b, ..) = a tuple of that length -/
def gTup (K : PySem.W.Frag) (n : Nat) (t : TGs) : TG := fun v σ H Q => ∃ a xs, v = .ref a ∧ SqT K H a xs ∧ xs.length = n ∧ t xs σ H Q
theorem pg_tup {es : List Expr} {k : Nat} {t : TGs} {n : Nat} (hc : X.calm = true) (h : PGs X es t)
    (hn : (assignEach es X.env).length = n := by rfl) (hst : (assignEach es X.env).findIdx? (·.1) = none := by rfl) : PG X (.Tuple es k pos) (gTup X.K n t) := by
  intro pins s σ H v u Q I r hw
  obtain ⟨a, xs, e1, hq, hl, hw⟩ := hw
  subst e1
  cases r
  obtain ⟨its, rv, ht, hz⟩ := I.tuple hq
  refine assign_Tuple_tuple (I.ok.hd hc) ht (by simp [hn, ← hl, rv.length]) hst fun h' hx => ?_
  have I1 : Inv X pins σ H { s with heap := h' } := I.kept (t' := s.toks) fun b o e => hx b o (Nat.ne_of_lt (Heap.lt_size e)) e
  exact h pins _ σ H xs _ Q I1 (by simpa using rv) hw
/-- o[i] = .. -/
def gSub (to ti : TE) (t : TSet) : TG := fun v σ H Q => to σ H fun o H1 => ti σ H1 fun i H2 => t o i v H2 fun H3 => Q σ H3
theorem pg_sub {o i : Expr} {to ti : TE} {t : TSet} (ho : PE X o to) (hi : PE X i ti) (hs : PSet X t)
    (ha : ∀ v, assign (.Subscript o i pos) X.env v = (do
      let ov ← holding [v] (eval o X.env)
      let iv ← holding [v, ov] (eval i X.env)
      standAt pos
      holding [v, ov, iv] (setItem ov iv v)
      release [v, ov, iv] []) := by intro _; rfl) : PG X (.Subscript o i pos) (gSub to ti t) := by
  intro pins s σ H v u Q I r h
  rw [ha]
  refine wpAny_bind (wpAny_holding (thn (ho pins s σ H _ I h) fun ov s1 ⟨x, H1, I1, r1, q1⟩ => ?_))
  refine wpAny_bind (wpAny_holding (thn (hi pins s1 σ H1 _ I1 q1) fun iv s2 ⟨y, H2, I2, r2, q2⟩ => ?_))
  refine wpAny_bind (wpAny_standAt (wpAny_bind (wpAny_holding (thn (hs pins s2 σ H2 x y v ov iv u _ I2 r1 r2 r q2) fun _ s3 ⟨H3, I3, q3⟩ => ?_))))
  exact wpAny_release ⟨σ, H3, I3, q3⟩
/-- target = value -/
def tAsg (te : TE) (g : TG) : TS := fun D σ H => te σ H fun x H1 => g x σ H1 D.nx
theorem ps_asg {tg e : Expr} {te : TE} {g : TG} (he : PE X e te) (hg : PG X tg g) (hs : swapsWithSole [tg] e pos.line X.env = pure false := by rfl) (hw : swappedStores [tg] e X.env = pure none := by rfl)
    (h1 : (assignEach [tg] X.env).map (·.2) = [assign tg X.env] := by rfl) : PS X (.Assign [tg] e pos) (tAsg te g) := by
  intro pins s σ H D I h
  refine wpAny_Assign_stores (thn (he pins s σ H _ I h) fun v s1 ⟨x, H1, I1, r1, q1⟩ => ?_) hs hw
  rw [h1]
  exact thn (hg pins s1 σ H1 x v _ I1 r1 q1) fun _ s2 q => q
/-- name = value -/
theorem ps_set {i : Nat} {x : Str} {e : Expr} {te : TE} {pos' : Pos} (hN : X.N.Nodup) (hi : X.N[i]? = some x) (hx : Loc X.env.scope x) (he : PE X e te) (hs : swapsWith e (some (.Name x pos')) pos.line X.env = pure false := by rfl) (hf : X.fn x = true ∨ X.env.scope.names.lookup x = some .local := by first | exact .inl rfl | exact .inr rfl | assumption) :
    PS X (.Assign [.Name x pos'] e pos) (tAsg te (gName i)) := by
  intro pins s σ H D I h
  refine wpAny_Assign_Name (thn (he pins s σ H _ I h) fun v s1 ⟨y, H1, I1, r1, q1⟩ => ?_) hs
  exact store_ok I1 hN hi hx r1 (fun s2 I2 => ⟨_, H1, I2, q1⟩) hf
/-- a, b = x, y with plain local names: stored from the right; the pair itself is not tracked (the opening rows as in PyProof/Rows/TupAssign.lean:23) -/
def tPar (i j : Nat) (ta : TA) : TS := fun D σ H => ta σ H fun vs H1 => ∃ v w, vs = [v, w] ∧ D.nx ((σ.set i (some v)).set j (some w)) H1
theorem ps_par {i j : Nat} {x y : Str} {a b : Expr} {ta : TA} {px py pt : Pos} {kt k2 pt2} (hc : X.calm = true) (hN : X.N.Nodup) (hi : X.N[i]? = some x) (hj : X.N[j]? = some y) (hij : i ≠ j)
    (hx : X.env.scope.names.lookup x = some .local) (hy : X.env.scope.names.lookup y = some .local) (ha : PA X [a, b] ta)
    (hw : swappedStores [.Tuple [.Name x px, .Name y py] kt pt] (.Tuple [a, b] k2 pt2) X.env = pure (some [x, y]))
    (hs : swapsWithSole [.Tuple [.Name x px, .Name y py] kt pt] (.Tuple [a, b] k2 pt2) pos.line X.env = pure false := by rfl) :
    PS X (.Assign [.Tuple [.Name x px, .Name y py] kt pt] (.Tuple [a, b] k2 pt2) pos) (tPar i j ta) := by
  intro pins s σ H D I h
  rw [exec_Assign_arm]
  refine wpAny_bind (wpAny_standAt ?_)
  rw [hs]
  refine wpAny_bind (wpAny_pure ?_)
  rw [if_neg (by decide)]
  refine wpAny_bind (Tuple_ (thn (ha _ pins s σ H _ I h) fun us s1 ⟨vs, H1, I1, r1, q1⟩ => ?_))
  obtain ⟨v, w, e1, q1⟩ := q1
  subst e1
  obtain ⟨u1, u2, rfl, rv, rw'⟩ : ∃ u1 u2, us = [u1, u2] ∧ RelV v u1 ∧ RelV w u2 := by
    cases r1 with
    | cons p q =>
      cases q with
      | cons p' q' =>
        cases q'
        exact ⟨_, _, rfl, p, p'⟩
  refine wpAny_newObj_type ?_ (by show 2 ≤ sizeLine; decide)
  have I2 : Inv X pins σ H1 { s1 with heap := s1.heap.push { cls := .type "tuple", data := .seq [u1, u2].toArray } } := I1.kept (t' := s1.toks) fun b o e => Heap.get?_push_of_some _ e
  rw [hw]
  refine wpAny_bind (wpAny_pure ?_)
  show wpAny (model X.prog X.w) X.A (do rule "assign.swapped-stores"; let items ← unpackItems (.ref s1.heap.objs.size) 2 none; assignInOrder [fun v => bindName X.env y v, fun v => bindName X.env x v] items.reverse; pure Flow.next) _ _ _
  refine wpAny_bind (wpAny_rule (wpAny_bind (unpackItems_tuple (items := #[u1, u2]) (I.ok.hd hc) (IsTup.new s1.heap _) fun h' hx' => ?_)))
  have I3 := I2.kept (h' := h') (t' := s1.toks) fun b o e => hx' b o (Nat.ne_of_lt (Heap.lt_size e)) e
  show wpAny _ _ (assignInOrder [fun v => bindName X.env y v, fun v => bindName X.env x v] [u2, u1] >>= fun _ => pure Flow.next) _ _ _
  refine wpAny_bind (assignInOrder_cons (wpAny_bindName (store_ok I3 hN hj (.inl hy) rw' (fun s2 I4 => ?_) (.inr hy))))
  refine assignInOrder_cons (wpAny_bindName (store_ok I4 hN hi (.inl hx) rv (fun s3 I5 => assignInOrder_nil (wpAny_pure ?_)) (.inr hx)))
  rw [List.set_comm _ _ (Ne.symm hij)] at I5
  exact ⟨_, H1, I5, q1⟩
/-- name op= e -/
def tAug (i : Nat) (te : TE) (ti : TIp) : TS := fun D σ H => ∃ x, σ[i]? = some (some x) ∧ te σ H fun y H1 => ti x y H1 fun z H2 => D.nx (σ.set i (some z)) H2
theorem ps_aug {i : Nat} {x : Str} {e : Expr} {te : TE} {op : Operator} {ti : TIp} {pos' : Pos} (hN : X.N.Nodup) (hi : X.N[i]? = some x) (hx : Loc X.env.scope x) (he : PE X e te) (ho : PIp X op ti) (hf : X.fn x = true ∨ X.env.scope.names.lookup x = some .local := by first | exact .inl rfl | exact .inr rfl | assumption) :
    PS X (.AugAssign (.Name x pos') op e pos) (tAug i te ti) := by
  intro pins s σ H D I h
  obtain ⟨v, e1, h⟩ := h
  obtain ⟨m, hn, hl⟩ := I.loc
  have vis : Vis X.env.scope x := by rcases hx with k | k; exact .inl k; exact .inr (.inl k)
  obtain ⟨u, r, l⟩ := hl i x v hi e1 vis
  refine wpAny_AugAssign_Name ?_
  have go : wpAny (model X.prog X.w) X.A (eval e X.env) (fun w s₂ => wpAny (model X.prog X.w) X.A (inplaceOp op u w) (fun r s₃ => wpAny (model X.prog X.w) X.A (storeName X.env x r) (fun _ => SP X pins D .next) X.xe s₃) X.xe s₂) X.xe s := by
    refine thn (he pins s σ H _ I h) fun w s1 ⟨y, H1, I1, r1, q1⟩ => ?_
    refine thn (ho pins s1 σ H1 v y u w _ I1 r r1 q1) fun z s2 ⟨zv, H2, I2, r2, q2⟩ => ?_
    exact store_ok I2 hN hi hx r2 (fun s3 I3 => ⟨_, H2, I3, q2⟩) hf
  rcases l with ⟨hk, hm⟩ | ⟨hk, c, hc, hcell⟩
  · exact wpAny_loadName_local I.ok.kind hk hn hm go
  · rcases hk with hk | hk
    · exact wpAny_loadName_cell I.ok.kind hk hc hcell go
    · rcases hx with k | k
      · have : X.env.scope.names.lookup x = some .free := hk
        rw [k] at this; cases this
      · have : X.env.scope.names.lookup x = some .free := hk
        rw [k] at this; cases this
/-- o[i] op= e -/
def tAugS (to ti te : TE) (tget : V → V → Hp → VK → Prop) (tip : TIp) (tset : TSet) : TS := fun D σ H => to σ H fun o H1 => ti σ H1 fun i H2 => tget o i H2 fun x H3 => te σ H3 fun y H4 => tip x y H4 fun z H5 => tset o i z H5 fun H6 => D.nx σ H6
/-- o[i], by values -/
def PGet (X : Cx) (t : V → V → Hp → VK → Prop) : Prop :=
  ∀ (pins : List (Addr × Obj)) (s : Shared) (σ : St) (H : Hp) (o i : V) (ov iv : Value) (Q : VK), Inv X pins σ H s → RelV o ov → RelV i iv → t o i H Q →
    wpAny (model X.prog X.w) X.A (getItem ov iv) (EP X pins σ Q) X.xe s
theorem ps_augS {o i e : Expr} {to ti te : TE} {tget : V → V → Hp → VK → Prop} {tip : TIp} {tset : TSet} {op : Operator} {tpos : Pos} (ho : PE X o to) (hi : PE X i ti) (hg : PGet X tget) (he : PE X e te) (hp : PIp X op tip) (hs : PSet X tset)
    (ha : ∀ ov iv new, augStore i ov iv new = (do holding [new, ov, iv] (setItem ov iv new); release [new, ov, iv] []; pure .next) := by intros; rfl) : PS X (.AugAssign (.Subscript o i tpos) op e pos) (tAugS to ti te tget tip tset) := by
  intro pins s σ H D I h
  refine wpAny_AugAssign_SubscriptAny (thn (ho pins s σ H _ I h) fun ov s1 ⟨x1, H1, I1, r1, q1⟩ => ?_) ha
  refine thn (hi pins s1 σ H1 _ I1 q1) fun iv s2 ⟨x2, H2, I2, r2, q2⟩ => ?_
  refine thn (hg pins s2 σ H2 x1 x2 ov iv _ I2 r1 r2 q2) fun old s3 ⟨x3, H3, I3, r3, q3⟩ => ?_
  refine thn (he pins s3 σ H3 _ I3 q3) fun v s4 ⟨x4, H4, I4, r4, q4⟩ => ?_
  refine thn (hp pins s4 σ H4 x3 x4 old v _ I4 r3 r4 q4) fun new s5 ⟨x5, H5, I5, r5, q5⟩ => ?_
  exact thn (hs pins s5 σ H5 x1 x2 x5 ov iv new _ I5 r1 r2 r5 q5) fun _ s6 ⟨H6, I6, q6⟩ => ⟨σ, H6, I6, q6⟩
/-- ints -/
def ipI (f : Int → Int → Int) : TIp := fun x y H Q => ∃ i j, x = .int i ∧ y = .int j ∧ Q (.int (f i j)) H
theorem ip_add : PIp X .Add (ipI fun i j => i + j) := by
  intro pins s σ H x y v u Q I r1 r2 h
  obtain ⟨i, j, e1, e2, q⟩ := h
  subst e1; subst e2
  obtain ⟨t, rfl⟩ := r1
  obtain ⟨t', rfl⟩ := r2
  exact iadd_int ⟨.int _, H, I.tok _, ⟨_, rfl⟩, q⟩
theorem ip_sub : PIp X .Sub (ipI fun i j => i - j) := by
  intro pins s σ H x y v u Q I r1 r2 h
  obtain ⟨i, j, e1, e2, q⟩ := h
  subst e1; subst e2
  obtain ⟨t, rfl⟩ := r1
  obtain ⟨t', rfl⟩ := r2
  exact isub_int ⟨.int _, H, I.tok _, ⟨_, rfl⟩, q⟩
end

/-! ### while -/
section
variable {X : Cx} {pos : Pos}
/-- the invariant W with its measure -/
def tWhile (c : TT) (tb : TS) : TS := fun D σ H => ∃ W : Nat → St → Hp → Prop, (∃ m, W m σ H) ∧ ∀ m σ H, W m σ H →
  c σ H fun b H1 => if b = true then ∃ N : St → Hp → Prop, (∀ σ' H', N σ' H' → ∃ m', m' < m ∧ W m' σ' H') ∧ tb { D with nx := N, ct := N, bk := D.nx } σ H1 else D.nx σ H1
theorem ps_while {c : Expr} {body : List Stmt} {tc : TT} {tb : TS} (hp : PassesOwn (model X.prog X.w) X.A X.env X.xe) (hc : PT X c tc) (hb : PSs X body tb) : PS X (.While c body [] pos) (tWhile tc tb) := by
  intro pins s σ H D I h
  obtain ⟨W, ⟨m0, w0⟩, turn⟩ := h
  refine wpAny_While (codeAny_whileLoop (fun n s' => ∃ σ' H', Inv X pins σ' H' s' ∧ W n σ' H') ?_ m0 ⟨σ, H, I, w0⟩)
  rintro n s1 ⟨σ1, H1, I1, w1⟩
  refine wpAny_passesOwn hp (thn (hc pins s1 σ1 H1 _ I1 (turn n σ1 H1 w1)) fun b s2 ⟨H2, I2, q2⟩ => ?_)
  cases b with
  | true =>
    obtain ⟨N, hN, q2⟩ := q2
    rw [if_pos rfl]
    refine wpAny_passesOwn hp (thn (hb pins s2 σ1 H2 _ I2 q2) fun f s3 q3 => ?_)
    cases f with
    | next =>
      obtain ⟨σ3, H3, I3, n3⟩ := q3
      obtain ⟨m', hm, w3⟩ := hN σ3 H3 n3
      exact ⟨m', hm, σ3, H3, I3, w3⟩
    | cont =>
      obtain ⟨σ3, H3, I3, n3⟩ := q3
      obtain ⟨m', hm, w3⟩ := hN σ3 H3 n3
      exact ⟨m', hm, σ3, H3, I3, w3⟩
    | brk => exact q3
    | ret v => exact q3
  | false =>
    rw [if_neg Bool.false_ne_true]
    exact wpAny_execs_nil ⟨σ1, H2, I2, q2⟩
end

/-! ### what a loop or a comprehension walks -/
/-- at turn i: it yields x (the heap may grow), or it stops -/
structure It where
  go : Nat → Hp → Prop
  yld : Nat → Hp → V → Hp → Prop
  stop : Nat → Hp → Prop
/-- the iterator's own objects may turn: they are not the frame's, not pinned, younger than the entry (or a comprehension's own) -/
def FpOk (X : Cx) (pins : List (Addr × Obj)) (H : Hp) (b : Addr) : Prop :=
  H b = none ∧ b ≠ X.env.locals ∧ b ∉ X.fs ∧ (b ∈ X.ex ∨ X.s₀.heap.objs.size ≤ b) ∧ (∀ x c, X.env.cells.lookup x = some c → c ≠ b) ∧ ∀ p ∈ X.pn ++ pins, p.1 ≠ b
theorem Inv.fpOk {X : Cx} {pins : List (Addr × Obj)} {σ : St} {H H' : Hp} {s : Shared} {b : Addr} (I : Inv X pins σ H s) (hb : s.heap.objs.size ≤ b) (hn : H' b = none) : FpOk X pins H' b := by
  refine ⟨hn, Nat.ne_of_gt (Nat.lt_of_lt_of_le I.lt hb), I.nofs hb, .inr (Nat.le_trans I.sz hb), fun x c e z => ?_, fun p hp z => ?_⟩
  · obtain ⟨v, q⟩ := I.cell x c e
    exact absurd (Nat.lt_of_lt_of_le q.lt (by rw [z]; exact hb)) (Nat.lt_irrefl _)
  · exact absurd (Nat.lt_of_lt_of_le (Heap.lt_size (I.pin p hp).1) (by rw [z]; exact hb)) (Nat.lt_irrefl _)
structure Turn (P : Program) (w : World) (K : PySem.W.Frag) (tg : Expr) (J : It) (fp : List Addr) (it : Addr) (tn : Nat → Heap → Prop) : Prop where
  mem : it ∈ fp
  obj : ∀ i h, tn i h → ∀ b ∈ fp, ∃ o, h.get? b = some o ∧ ∀ v, o.data ≠ .cell v
  keep : ∀ i h h', tn i h → (∀ b ∈ fp, ∀ o, h.get? b = some o → h'.get? b = some o) → tn i h'
  item : ∀ (X : Cx), X.prog = P → X.w = w → X.K = K → X.calm = true → ∀ (i : Nat) (pins : List (Addr × Obj)) (s : Shared) (σ : St) (H : Hp) (E : Value → Shared → Prop), Inv X pins σ H s → (∀ b ∈ fp, FpOk X pins H b) → tn i s.heap → J.go i H →
    wpAny (model P w) X.A (pyNext (.ref it)) (fun r s1 => ∃ u, r = some u ∧
      wpAny (model P w) X.A (letOwnedTupleGo tg (.ref it) u) (fun _ s2 => ∃ x H', Inv X pins σ H' s2 ∧ RelV x u ∧ J.yld i H x H' ∧ tn (i + 1) s2.heap ∧ ∀ b ∈ fp, H' b = none) E s1) E s
  done : ∀ (X : Cx), X.prog = P → X.w = w → X.K = K → X.calm = true → ∀ (i : Nat) (pins : List (Addr × Obj)) (s : Shared) (σ : St) (H : Hp) (E : Value → Shared → Prop), Inv X pins σ H s → (∀ b ∈ fp, FpOk X pins H b) → tn i s.heap → J.stop i H →
    wpAny (model P w) X.A (pyNext (.ref it)) (fun r s1 => r = none ∧ Inv X pins σ H s1) E s
  self : ∀ (A : Around) (i : Nat) (s : Shared) (Q : Value → Shared → Prop) (E : Value → Shared → Prop), tn i s.heap → Q (.ref it) s → wpAny (model P w) A (pyIter (.ref it)) Q E s
abbrev TI := St → Hp → (It → Hp → Prop) → Prop
/-- an iterator has come -/
def PIE (X : Cx) (pins : List (Addr × Obj)) (σ : St) (tg : Expr) (R : It → Hp → Prop) (itv : Value) (s2 : Shared) : Prop :=
  ∃ (it : Addr) (fp : List Addr) (tn : Nat → Heap → Prop) (J : It) (H' : Hp), itv = .ref it ∧ Inv X pins σ H' s2 ∧ Turn X.prog X.w X.K tg J fp it tn ∧ tn 0 s2.heap ∧ (∀ b ∈ fp, FpOk X pins H' b) ∧ R J H'
def PI (X : Cx) (tg iter : Expr) (wi : TI) : Prop :=
  ∀ (pins : List (Addr × Obj)) (s : Shared) (σ : St) (H : Hp) (R : It → Hp → Prop), Inv X pins σ H s → wi σ H R →
    wpAny (model X.prog X.w) X.A (eval iter X.env) (fun v s1 => wpAny (model X.prog X.w) X.A (pyIter v) (PIE X pins σ tg R) X.xe s1) X.xe s

/-- the step ahead of the store is nothing for an iterator that keeps no tuple -/
theorem go_of {M : Model} {A : Around} {E : Value → Shared → Prop} {s : Shared} {tg : Expr} {it : Addr} {u : Value} {o : Obj} {n : String} {vs : Array Value} {Q : Unit → Shared → Prop} (ho : s.heap.get? it = some o) (hc : o.cls = .type n) (hd : o.data = .fields vs)
    (hn : ["enumerate", "zip", "dict_itemiterator", "dict_reverseitemiterator", "odict_iterator", "itertools.zip_longest", "itertools.pairwise"].contains n = false) (hQ : Q () s) : wpAny M A (letOwnedTupleGo tg (.ref it) u) Q E s := by
  unfold letOwnedTupleGo
  cases tg <;> first
    | exact wpAny_pure hQ
    | (cases u <;> first
        | exact wpAny_pure hQ
        | (refine wpAny_bind (wpAny_load ho ?_)
           rw [hc, hd]
           show wpAny M A (if (["enumerate", "zip", "dict_itemiterator", "dict_reverseitemiterator", "odict_iterator", "itertools.zip_longest", "itertools.pairwise"].contains n && vs[0]? == some (rawInt _)) = true then _ else _) Q E s
           rw [if_neg (by intro h; rw [hn, Bool.false_and] at h; cases h)]
           exact wpAny_pure hQ))

/-- the list at a, as it stands at each turn (a loop may append to it) -/
def Itl (K : PySem.W.Frag) (a : Addr) : It :=
  ⟨fun i H => ∃ xs x, SqL K H a xs ∧ xs[i]? = some x, fun i H x H' => H' = H ∧ ∀ xs, SqL K H a xs → xs[i]? = some x, fun i H => ∃ xs, SqL K H a xs ∧ xs.length ≤ i⟩
def Itt (K : PySem.W.Frag) (a : Addr) : It :=
  ⟨fun i H => ∃ xs x, SqT K H a xs ∧ xs[i]? = some x, fun i H x H' => H' = H ∧ ∀ xs, SqT K H a xs → xs[i]? = some x, fun i H => ∃ xs, SqT K H a xs ∧ xs.length ≤ i⟩
/-- lo, lo + 1, .. (n of them) -/
def Itr (lo : Int) (n : Nat) : It := ⟨fun i _ => i < n, fun i H x H' => H' = H ∧ x = .int (lo + i), fun i _ => n ≤ i⟩
theorem turn_list {P : Program} {w : World} {K : PySem.W.Frag} {tg : Expr} (a it : Addr) : Turn P w K tg (Itl K a) [it] it (fun i h => h.IsListIter it a i) where
  mem := by simp
  obj := fun i h st b hb => by
    have e : b = it := by simpa using hb
    subst e
    obtain ⟨o, e, c, d⟩ := st
    exact ⟨o, e, fun v z => by rw [d] at z; cases z⟩
  keep := fun i h h' st k => st.at fun o e => k it (by simp) o e
  item := by
    intro X hP hw hK hc i pins s σ H E I hf st hg
    subst hP hw hK
    obtain ⟨xs, x, hq, hx⟩ := hg
    obtain ⟨its, rv, p, hz⟩ := I.list hq
    obtain ⟨u, hu, ru⟩ := rv.get hx
    obtain ⟨f0, f1, f2, f3, f4, f5⟩ := hf it (by simp)
    refine wpAny_pyNext_list_item st p.isList (x := u) (by simpa using hu) fun h' st' sb => ?_
    have I1 : Inv X pins σ H { s with heap := h' } := I.turned (t' := s.toks) (fun b o hb e => (sb.2 b hb).trans e) f0 f1 f3 f4 f5
    obtain ⟨o, e, c, d⟩ := id st'
    exact ⟨u, rfl, go_of (s := { s with heap := h' }) e c d (by decide) ⟨x, H, I1, ru, ⟨rfl, fun ys hy => by rw [I.list_inj hy hq]; exact hx⟩, st', fun b hb => (hf b hb).1⟩⟩
  done := by
    intro X hP hw hK hc i pins s σ H E I hf st hg
    subst hP hw hK
    obtain ⟨xs, hq, hx⟩ := hg
    obtain ⟨its, rv, p, hz⟩ := I.list hq
    obtain ⟨f0, f1, f2, f3, f4, f5⟩ := hf it (by simp)
    have hl := rv.length
    exact wpAny_pyNext_list_end (I.ok.hd hc) st p.isList (by simp; omega) fun h' eb => ⟨rfl, I.turned (t' := s.toks) (fun b o hb e => eb b o hb e) f0 f1 f3 f4 f5⟩
  self := fun _ _ _ _ _ st h => wpAny_pyIter_listiter st h
theorem turn_tuple {P : Program} {w : World} {K : PySem.W.Frag} {tg : Expr} (a it : Addr) : Turn P w K tg (Itt K a) [it] it (fun i h => h.IsTupleIter it a i) where
  mem := by simp
  obj := fun i h st b hb => by
    have e : b = it := by simpa using hb
    subst e
    obtain ⟨o, e, c, d⟩ := st
    exact ⟨o, e, fun v z => by rw [d] at z; cases z⟩
  keep := fun i h h' st k => st.at fun o e => k it (by simp) o e
  item := by
    intro X hP hw hK hc i pins s σ H E I hf st hg
    subst hP hw hK
    obtain ⟨xs, x, hq, hx⟩ := hg
    obtain ⟨its, rv, p, hz⟩ := I.tuple hq
    obtain ⟨u, hu, ru⟩ := rv.get hx
    obtain ⟨f0, f1, f2, f3, f4, f5⟩ := hf it (by simp)
    refine wpAny_pyNext_tuple_item st (show s.heap.IsTuple a its.toArray from p) (x := u) (by simpa using hu) fun h' st' sb => ?_
    have I1 : Inv X pins σ H { s with heap := h' } := I.turned (t' := s.toks) (fun b o hb e => (sb.2 b hb).trans e) f0 f1 f3 f4 f5
    obtain ⟨o, e, c, d⟩ := id st'
    exact ⟨u, rfl, go_of (s := { s with heap := h' }) e c d (by decide) ⟨x, H, I1, ru, ⟨rfl, fun ys hy => by rw [I.tuple_inj hy hq]; exact hx⟩, st', fun b hb => (hf b hb).1⟩⟩
  done := by
    intro X hP hw hK hc i pins s σ H E I hf st hg
    subst hP hw hK
    obtain ⟨xs, hq, hx⟩ := hg
    obtain ⟨its, rv, p, hz⟩ := I.tuple hq
    obtain ⟨f0, f1, f2, f3, f4, f5⟩ := hf it (by simp)
    have hl := rv.length
    exact wpAny_pyNext_tuple_end (I.ok.hd hc) st (show s.heap.IsTuple a its.toArray from p) (by simp; omega) fun h' eb => ⟨rfl, I.turned (t' := s.toks) (fun b o hb e => eb b o hb e) f0 f1 f3 f4 f5⟩
  self := fun _ _ _ _ _ st h => wpAny_pyIter_tupleiter st h
theorem turn_range {P : Program} {w : World} {K : PySem.W.Frag} {tg : Expr} (it : Addr) (lo : Int) (n : Nat) : Turn P w K tg (Itr lo n) [it] it (fun i h => IsRangeIter h it (lo + (i : Nat) * 1) ((n : Int) - (i : Nat)) 1) where
  mem := by simp
  obj := fun i h st b hb => by
    have e : b = it := by simpa using hb
    subst e
    exact ⟨_, st, fun v z => by
      have z' : Data.fields _ = Data.cell v := z
      cases z'⟩
  keep := fun i h h' st k => k it (by simp) _ st
  item := by
    intro X hP hw hK hc i pins s σ H E I hf st hg
    subst hP hw hK
    obtain ⟨f0, f1, f2, f3, f4, f5⟩ := hf it (by simp)
    have W := Walks.range (prog := X.prog) (w := X.w) (I.ok.hd hc) it lo 1 n
    refine W.item i s _ _ hg st fun v h' tk hv st' kk => ?_
    obtain ⟨t, rfl⟩ := hv
    have I1 : Inv X pins σ H { s with heap := h', toks := tk } := I.turned (fun b o hb e => kk b o (by simpa using hb) e) f0 f1 f3 f4 f5
    refine ⟨_, rfl, go_of (s := { s with heap := h', toks := tk }) (n := "range_iterator") st' rfl rfl (by decide) ⟨.int (lo + i), H, I1, ⟨t, ?_⟩, ⟨rfl, rfl⟩, st', fun b hb => (hf b hb).1⟩⟩
    rw [Int.mul_one]
  done := by
    intro X hP hw hK hc i pins s σ H E I hf st hg
    subst hP hw hK
    obtain ⟨f0, f1, f2, f3, f4, f5⟩ := hf it (by simp)
    exact wpAny_pyNext_range_end (I.ok.hd hc) st (by have : n ≤ i := hg; omega) fun h' eb => ⟨rfl, I.turned (t' := s.toks) (fun b o hb e => eb b o hb e) f0 f1 f3 f4 f5⟩
  self := fun _ _ _ _ _ st h => wpAny_pyIter_rangeiter st h
end L2

namespace L2
open PySem PySem.Spec PyProof.Rows
section
variable {X : Cx} {tg : Expr}
def iList (K : PySem.W.Frag) (tl : TE) : TI := fun σ H R => tl σ H fun x H1 => ∃ a, x = .ref a ∧ (∃ xs, SqL K H1 a xs) ∧ R (Itl K a) H1
def iTup (K : PySem.W.Frag) (tl : TE) : TI := fun σ H R => tl σ H fun x H1 => ∃ a, x = .ref a ∧ (∃ xs, SqT K H1 a xs) ∧ R (Itt K a) H1
theorem pi_list {l : Expr} {tl : TE} (hl : PE X l tl) : PI X tg l (iList X.K tl) := by
  intro pins s σ H R I h
  refine thn (hl pins s σ H _ I h) fun v s1 ⟨x, H1, I1, r1, q1⟩ => ?_
  obtain ⟨a, e, ⟨xs, hq⟩, q⟩ := q1
  subst e
  cases r1
  obtain ⟨its, rv, p, hz⟩ := I1.list hq
  refine wpAny_pyIter_list p.isList ?_
  refine ⟨s1.heap.objs.size, [s1.heap.objs.size], _, _, H1, rfl, I1.kept (t' := s1.toks) fun b o e => Heap.get?_push_of_some _ e, turn_list a _, ⟨_, Heap.get?_push_size _ rfl, rfl, rfl⟩, fun b hb => ?_, q⟩
  have e : b = s1.heap.objs.size := by simpa using hb
  subst e
  exact I1.fpOk (Nat.le_refl _) (I1.hok.fresh (Nat.le_refl _))
theorem pi_tup {l : Expr} {tl : TE} (hl : PE X l tl) : PI X tg l (iTup X.K tl) := by
  intro pins s σ H R I h
  refine thn (hl pins s σ H _ I h) fun v s1 ⟨x, H1, I1, r1, q1⟩ => ?_
  obtain ⟨a, e, ⟨xs, hq⟩, q⟩ := q1
  subst e
  cases r1
  obtain ⟨its, rv, p, hz⟩ := I1.tuple hq
  refine wpAny_pyIter_tuple (show s1.heap.IsTuple a its.toArray from p) ?_
  refine ⟨s1.heap.objs.size, [s1.heap.objs.size], _, _, H1, rfl, I1.kept (t' := s1.toks) fun b o e => Heap.get?_push_of_some _ e, turn_tuple a _, ⟨_, Heap.get?_push_size _ rfl, rfl, rfl⟩, fun b hb => ?_, q⟩
  have e : b = s1.heap.objs.size := by simpa using hb
  subst e
  exact I1.fpOk (Nat.le_refl _) (I1.hok.fresh (Nat.le_refl _))
/-- a range object just made, walked -/
theorem range_it {pins : List (Addr × Obj)} {σ : St} {H : Hp} {s : Shared} {R : It → Hp → Prop} {E : Value → Shared → Prop} {lo hi : Int} {t u v : Tok} {tk : Nat} (I : Inv X pins σ H s) (h1 : -(2 ^ 62) ≤ lo) (h2 : lo < 2 ^ 62) (h3 : -(2 ^ 62) ≤ hi) (h4 : hi < 2 ^ 62)
    (q : R (Itr lo (hi - lo).toNat) H) : wpAny (model X.prog X.w) X.A (pyIter (.ref s.heap.objs.size)) (PIE X pins σ tg R) E { s with heap := s.heap.push { cls := .type "range", data := .fields #[.int lo t, .int hi u, .int 1 v] }, toks := tk } := by
  refine wpAny_pyIter_range (IsRange.new ..) (small_one h1 h2 h3 h4) ?_
  have I1 : Inv X pins σ H { s with heap := s.heap.push { cls := .type "range", data := .fields #[.int lo t, .int hi u, .int 1 v] }, toks := tk } := I.kept fun b o e => Heap.get?_push_of_some _ e
  refine ⟨(s.heap.push { cls := .type "range", data := .fields #[.int lo t, .int hi u, .int 1 v] }).objs.size, [(s.heap.push { cls := .type "range", data := .fields #[.int lo t, .int hi u, .int 1 v] }).objs.size], _, _, H, rfl,
    I1.kept (t' := tk) fun b o e => Heap.get?_push_of_some _ e, turn_range _ lo (hi - lo).toNat, ?_, fun b hb => ?_, q⟩
  · have e1 : lo + ((0 : Nat) : Int) * 1 = lo := by simp
    have e2 : (((hi - lo).toNat : Nat) : Int) - ((0 : Nat) : Int) = Builtin.Range.rangeSize lo hi 1 := by rw [rangeSize_one]; split <;> omega
    show IsRangeIter _ _ (lo + ((0 : Nat) : Int) * 1) ((((hi - lo).toNat : Nat) : Int) - ((0 : Nat) : Int)) 1
    rw [e1, e2]
    exact Heap.get?_push_size _ rfl
  · have e : b = (s.heap.push { cls := .type "range", data := .fields #[.int lo t, .int hi u, .int 1 v] }).objs.size := by simpa using hb
    subst e
    exact I1.fpOk (Nat.le_refl _) (I1.hok.fresh (Nat.le_refl _))
def iRng1 (ta : TA) : TI := fun σ H R => ta σ H fun vs H1 => ∃ j : Int, vs = [.int j] ∧ -(2 ^ 62) ≤ j ∧ j < 2 ^ 62 ∧ R (Itr 0 j.toNat) H1
def iRng2 (ta : TA) : TI := fun σ H R => ta σ H fun vs H1 => ∃ i j : Int, vs = [.int i, .int j] ∧ (-(2 ^ 62) ≤ i ∧ i < 2 ^ 62 ∧ -(2 ^ 62) ≤ j ∧ j < 2 ^ 62) ∧ R (Itr i (j - i).toNat) H1
theorem pi_range1 {a : Expr} {ta : TA} {p pos : Pos} (hg : Gl X "range") (hm : X.mg "range" = none) (ha : PA X [a] ta) (hs : starEach [a] X.env = [(false, eval a X.env)] := by rfl) : PI X tg (.Call (.Name "range" p) [a] [] pos) (iRng1 ta) := by
  intro pins s σ H R I h
  refine Call_ (ld_blt I hg hm boot_range (PyProof.Rows.callWith_type1 (thn (ha pos pins s σ H _ I h) fun us s1 ⟨vs, H1, I1, r1, q1⟩ => ?_) hs rfl))
  obtain ⟨j, e, q1, q2, q⟩ := q1
  subst e
  cases r1 with
  | cons r rr =>
    cases rr
    obtain ⟨t, rfl⟩ := r
    exact call_range_1 (range_it I1 (by omega) (by omega) q1 q2 (by simpa using q))
theorem pi_range2 {a b : Expr} {ta : TA} {p pos : Pos} (hg : Gl X "range") (hm : X.mg "range" = none) (ha : PA X [a, b] ta) (hs : starEach [a, b] X.env = [(false, eval a X.env), (false, eval b X.env)] := by rfl) (hs2 : starEach [b] X.env = [(false, eval b X.env)] := by rfl) :
    PI X tg (.Call (.Name "range" p) [a, b] [] pos) (iRng2 ta) := by
  intro pins s σ H R I h
  refine Call_ (ld_blt I hg hm boot_range (PyProof.Rows.callWith_type1 (thn (ha pos pins s σ H _ I h) fun us s1 ⟨vs, H1, I1, r1, q1⟩ => ?_) (by rw [hs, hs2]) (by rw [hs2]; rfl)))
  obtain ⟨i, j, e, ⟨q1, q2, q3, q4⟩, q⟩ := q1
  subst e
  cases r1 with
  | cons r rr =>
    cases rr with
    | cons r' rr =>
      cases rr
      obtain ⟨t, rfl⟩ := r
      obtain ⟨t', rfl⟩ := r'
      exact call_range_2 (range_it I1 q1 q2 q3 q4 q)

/-! ### for -/
/-- W: the invariant by the turn and a measure; N: what the body is to reach -/
def tFor (wi : TI) (g : TG) (tb : TS) : TS := fun D σ H => wi σ H fun J H1 => ∃ W : Nat → Nat → St → Hp → Prop, (∃ m, W 0 m σ H1) ∧ ∀ i m σ H, W i m σ H →
  (J.stop i H ∧ D.nx σ H) ∨ (J.go i H ∧ ∃ N : St → Hp → Prop, (∀ σ' H', N σ' H' → ∃ m', m' < m ∧ W (i + 1) m' σ' H') ∧ ∀ x H', J.yld i H x H' → g x σ H' fun σ2 H2 => tb { D with nx := N, ct := N, bk := D.nx } σ2 H2)
/-- the records at fp as they stand -/
def pinsAt (fp : List Addr) (h : Heap) : List (Addr × Obj) := fp.filterMap fun b => (h.get? b).map fun o => (b, o)
theorem mem_pinsAt {fp : List Addr} {h : Heap} {b : Addr} {o : Obj} (hb : b ∈ fp) (e : h.get? b = some o) : (b, o) ∈ pinsAt fp h := List.mem_filterMap.mpr ⟨b, hb, by rw [e]; rfl⟩
theorem of_pinsAt {fp : List Addr} {h : Heap} {p : Addr × Obj} (hp : p ∈ pinsAt fp h) : p.1 ∈ fp ∧ h.get? p.1 = some p.2 := by
  obtain ⟨b, hb, e⟩ := List.mem_filterMap.mp hp
  cases q : h.get? b with
  | none => rw [q] at e; cases e
  | some o =>
    rw [q] at e
    have e' : (b, o) = p := Option.some.inj e
    subst e'
    exact ⟨hb, q⟩
theorem Inv.pinned {pins : List (Addr × Obj)} {σ : St} {H : Hp} {s : Shared} {fp : List Addr} (I : Inv X pins σ H s) (hf : ∀ b ∈ fp, FpOk X pins H b) (ho : ∀ b ∈ fp, ∃ o, s.heap.get? b = some o ∧ ∀ v, o.data ≠ .cell v) : Inv X (pins ++ pinsAt fp s.heap) σ H s :=
  I.pins_of fun p hp => (List.mem_append.mp hp).elim (fun z => I.pin p (List.mem_append_right _ z)) fun z => by
    obtain ⟨hb, e⟩ := of_pinsAt z
    obtain ⟨f0, f1, f2, _⟩ := hf p.1 hb
    obtain ⟨o, e', d⟩ := ho p.1 hb
    rw [e] at e'; cases e'
    exact ⟨e, f0, f1, f2, d⟩
theorem Inv.unpinned {pins pl : List (Addr × Obj)} {σ : St} {H : Hp} {s : Shared} (I : Inv X (pins ++ pl) σ H s) : Inv X pins σ H s := I.pins_of fun p hp => I.pin p (List.mem_append_right _ (List.mem_append_left _ hp))
theorem ps_for {iter : Expr} {body : List Stmt} {wi : TI} {g : TG} {tb : TS} {pos : Pos} (hp : PassesOwn (model X.prog X.w) X.A X.env X.xe) (hc : X.calm = true) (hi : PI X tg iter wi) (hg : PG X tg g) (hb : PSs X body tb)
    (hs : ∀ x, foldedSetIterable iter X.env x = pure x := by intro _; rfl) : PS X (.For tg iter body [] pos) (tFor wi g tb) := by
  intro pins s σ H D I h
  refine wpAny_For (thn (hi pins s σ H _ I h) fun v s1 h1 => thn h1 fun itv s2 h2 => ?_) hs
  obtain ⟨it, fp, tn, J, H2, e, I2, T, st2, f2, W, ⟨m0, w0⟩, turn⟩ := h2
  subst e
  -- what stays true of the iterator's objects through the loop
  have stat : ∀ {H' : Hp}, (∀ b ∈ fp, H' b = none) → ∀ b ∈ fp, FpOk X pins H' b := fun hn b hb => ⟨hn b hb, (f2 b hb).2⟩
  refine codeAny_forLoop_any (fun n s' => ∃ i σ' H', Inv X pins σ' H' s' ∧ tn i s'.heap ∧ (∀ b ∈ fp, H' b = none) ∧ W i n σ' H') ?_ m0 ⟨0, σ, H2, I2, st2, fun b hb => (f2 b hb).1, w0⟩
  rintro n s3 ⟨i, σ3, H3, I3, st3, fr3, w3⟩
  rcases turn i n σ3 H3 w3 with ⟨stop, qn⟩ | ⟨go, N, hN, step⟩
  · refine wpAny_passesOwn hp (thn (T.done X rfl rfl rfl hc i pins s3 σ3 H3 X.xe I3 (stat fr3) st3 stop) fun r s4 ⟨hr, I4⟩ => ?_)
    subst hr
    exact wpAny_execs_nil ⟨σ3, H3, I4, qn⟩
  · refine wpAny_passesOwn hp (thn (T.item X rfl rfl rfl hc i pins s3 σ3 H3 X.xe I3 (stat fr3) st3 go) fun r s4 ⟨u, hr, h4⟩ => ?_)
    subst hr
    refine wpAny_passesOwn hp (thn h4 fun _ s5 ⟨x, H5, I5, r5, y5, st5, fr5⟩ => ?_)
    have I5' := I5.pinned (stat fr5) (T.obj _ _ st5)
    refine wpAny_passesOwn hp (thn (hg _ s5 σ3 H5 x u _ I5' r5 (step x H5 y5)) fun _ s6 ⟨σ6, H6, I6, q6⟩ => ?_)
    refine wpAny_passesOwn hp (thn (hb _ s6 σ6 H6 _ I6 q6) fun f s7 q7 => ?_)
    have again : ∀ {σ7 : St} {H7 : Hp}, Inv X (pins ++ pinsAt fp s5.heap) σ7 H7 s7 → N σ7 H7 → ∃ m, m < n ∧ ∃ i σ' H', Inv X pins σ' H' s7 ∧ tn i s7.heap ∧ (∀ b ∈ fp, H' b = none) ∧ W i m σ' H' := fun {σ7 H7} I7 n7 => by
      obtain ⟨m', hm, w7⟩ := hN σ7 H7 n7
      refine ⟨m', hm, i + 1, σ7, H7, I7.unpinned, T.keep _ _ _ st5 fun b hb o e => (I7.pin (b, o) (List.mem_append_right _ (List.mem_append_right _ (mem_pinsAt hb e)))).1, fun b hb => ?_, w7⟩
      obtain ⟨o, e, d⟩ := T.obj _ _ st5 b hb
      exact (I7.pin (b, o) (List.mem_append_right _ (List.mem_append_right _ (mem_pinsAt hb e)))).2.1
    cases f with
    | next => obtain ⟨σ7, H7, I7, n7⟩ := q7; exact again I7 n7
    | cont => obtain ⟨σ7, H7, I7, n7⟩ := q7; exact again I7 n7
    | brk => obtain ⟨σ7, H7, I7, q7⟩ := q7; exact ⟨σ7, H7, I7.unpinned, q7⟩
    | ret v => obtain ⟨x7, σ7, H7, I7, r7, q7⟩ := q7; exact ⟨x7, σ7, H7, I7.unpinned, r7, q7⟩
end

/-! ### the forms one uses -/
/-- over a list that the body leaves as it is -/
theorem for_list {K : PySem.W.Frag} {a : Addr} {xs : List V} {g : TG} {tb : TS} {D : Ends} {σ : St} {H : Hp} (Pv : Nat → St → Hp → Prop) (h0 : Pv 0 σ H) (hl : ∀ i σ H, i ≤ xs.length → Pv i σ H → SqL K H a xs)
    (hs : ∀ i x σ H, xs[i]? = some x → Pv i σ H → g x σ H fun σ2 H2 => tb { D with nx := Pv (i + 1), ct := Pv (i + 1), bk := D.nx } σ2 H2) (hd : ∀ σ H, Pv xs.length σ H → D.nx σ H) :
    ∃ W : Nat → Nat → St → Hp → Prop, (∃ m, W 0 m σ H) ∧ ∀ i m σ H, W i m σ H →
      ((Itl K a).stop i H ∧ D.nx σ H) ∨ ((Itl K a).go i H ∧ ∃ N : St → Hp → Prop, (∀ σ' H', N σ' H' → ∃ m', m' < m ∧ W (i + 1) m' σ' H') ∧ ∀ x H', (Itl K a).yld i H x H' → g x σ H' fun σ2 H2 => tb { D with nx := N, ct := N, bk := D.nx } σ2 H2) := by
  refine ⟨fun i m σ H => m = xs.length - i ∧ i ≤ xs.length ∧ Pv i σ H, ⟨xs.length, by simp, Nat.zero_le _, h0⟩, ?_⟩
  rintro i m σ H ⟨rfl, hi, p⟩
  have q := hl i σ H hi p
  by_cases hlt : i < xs.length
  · refine .inr ⟨⟨xs, xs[i], q, by simp [hlt]⟩, Pv (i + 1), fun σ' H' p' => ⟨xs.length - (i + 1), by omega, rfl, hlt, p'⟩, fun x H' y => ?_⟩
    obtain ⟨e, y⟩ := y
    subst e
    exact hs i x σ _ (y xs q) p
  · have e : i = xs.length := by omega
    subst e
    exact .inl ⟨⟨xs, q, Nat.le_refl _⟩, hd σ H p⟩
theorem for_tup {K : PySem.W.Frag} {a : Addr} {xs : List V} {g : TG} {tb : TS} {D : Ends} {σ : St} {H : Hp} (Pv : Nat → St → Hp → Prop) (h0 : Pv 0 σ H) (hl : ∀ i σ H, i ≤ xs.length → Pv i σ H → SqT K H a xs)
    (hs : ∀ i x σ H, xs[i]? = some x → Pv i σ H → g x σ H fun σ2 H2 => tb { D with nx := Pv (i + 1), ct := Pv (i + 1), bk := D.nx } σ2 H2) (hd : ∀ σ H, Pv xs.length σ H → D.nx σ H) :
    ∃ W : Nat → Nat → St → Hp → Prop, (∃ m, W 0 m σ H) ∧ ∀ i m σ H, W i m σ H →
      ((Itt K a).stop i H ∧ D.nx σ H) ∨ ((Itt K a).go i H ∧ ∃ N : St → Hp → Prop, (∀ σ' H', N σ' H' → ∃ m', m' < m ∧ W (i + 1) m' σ' H') ∧ ∀ x H', (Itt K a).yld i H x H' → g x σ H' fun σ2 H2 => tb { D with nx := N, ct := N, bk := D.nx } σ2 H2) := by
  refine ⟨fun i m σ H => m = xs.length - i ∧ i ≤ xs.length ∧ Pv i σ H, ⟨xs.length, by simp, Nat.zero_le _, h0⟩, ?_⟩
  rintro i m σ H ⟨rfl, hi, p⟩
  have q := hl i σ H hi p
  by_cases hlt : i < xs.length
  · refine .inr ⟨⟨xs, xs[i], q, by simp [hlt]⟩, Pv (i + 1), fun σ' H' p' => ⟨xs.length - (i + 1), by omega, rfl, hlt, p'⟩, fun x H' y => ?_⟩
    obtain ⟨e, y⟩ := y
    subst e
    exact hs i x σ _ (y xs q) p
  · have e : i = xs.length := by omega
    subst e
    exact .inl ⟨⟨xs, q, Nat.le_refl _⟩, hd σ H p⟩
theorem for_range {lo : Int} {n : Nat} {g : TG} {tb : TS} {D : Ends} {σ : St} {H : Hp} (Pv : Nat → St → Hp → Prop) (h0 : Pv 0 σ H)
    (hs : ∀ i σ H, i < n → Pv i σ H → g (.int (lo + i)) σ H fun σ2 H2 => tb { D with nx := Pv (i + 1), ct := Pv (i + 1), bk := D.nx } σ2 H2) (hd : ∀ σ H, Pv n σ H → D.nx σ H) :
    ∃ W : Nat → Nat → St → Hp → Prop, (∃ m, W 0 m σ H) ∧ ∀ i m σ H, W i m σ H →
      ((Itr lo n).stop i H ∧ D.nx σ H) ∨ ((Itr lo n).go i H ∧ ∃ N : St → Hp → Prop, (∀ σ' H', N σ' H' → ∃ m', m' < m ∧ W (i + 1) m' σ' H') ∧ ∀ x H', (Itr lo n).yld i H x H' → g x σ H' fun σ2 H2 => tb { D with nx := N, ct := N, bk := D.nx } σ2 H2) := by
  refine ⟨fun i m σ H => m = n - i ∧ i ≤ n ∧ Pv i σ H, ⟨n, by simp, Nat.zero_le _, h0⟩, ?_⟩
  rintro i m σ H ⟨rfl, hi, p⟩
  by_cases hlt : i < n
  · refine .inr ⟨hlt, Pv (i + 1), fun σ' H' p' => ⟨n - (i + 1), by omega, rfl, hlt, p'⟩, fun x H' y => ?_⟩
    obtain ⟨e, y⟩ := y
    subst e y
    exact hs i σ _ hlt p
  · have e : i = n := by omega
    subst e
    exact .inl ⟨Nat.le_refl _, hd σ H p⟩
/-- while, by a word and a measure of the state -/
theorem while_by {c : TT} {tb : TS} {D : Ends} {σ : St} {H : Hp} (Pv : St → Hp → Prop) (μ : St → Hp → Nat) (h0 : Pv σ H)
    (hs : ∀ σ H, Pv σ H → c σ H fun b H1 => if b = true then tb { D with nx := fun σ' H' => Pv σ' H' ∧ μ σ' H' < μ σ H, ct := fun σ' H' => Pv σ' H' ∧ μ σ' H' < μ σ H, bk := D.nx } σ H1 else D.nx σ H1)
    (mono : ∀ σ H Q Q', (∀ b H1, Q b H1 → Q' b H1) → c σ H Q → c σ H Q') : tWhile c tb D σ H := by
  refine ⟨fun m σ H => m = μ σ H ∧ Pv σ H, ⟨_, rfl, h0⟩, ?_⟩
  rintro m σ H ⟨rfl, p⟩
  refine mono σ H _ _ (fun b H1 q => ?_) (hs σ H p)
  cases b with
  | true => exact ⟨_, fun σ' H' ⟨p', l⟩ => ⟨_, l, rfl, p'⟩, q⟩
  | false => exact q
end L2

namespace L2
open PySem PySem.Spec PyProof.Rows

abbrev R2 := V → V → Hp → VK → Prop
/-- a two-place operation on values: f is binaryOp op, inplaceOp op or compareOp op -/
def OpR (X : Cx) (f : Value → Value → Sem Value) (r : R2) : Prop :=
  ∀ (pins : List (Addr × Obj)) (s : Shared) (σ : St) (H : Hp) (x y : V) (v u : Value) (Q : VK), Inv X pins σ H s → RelV x v → RelV y u → r x y H Q →
    wpAny (model X.prog X.w) X.A (f v u) (EP X pins σ Q) X.xe s
/-- a one-place operation -/
def UnR (X : Cx) (f : Value → Sem Value) (r : V → Hp → VK → Prop) : Prop :=
  ∀ (pins : List (Addr × Obj)) (s : Shared) (σ : St) (H : Hp) (x : V) (v : Value) (Q : VK), Inv X pins σ H s → RelV x v → r x H Q →
    wpAny (model X.prog X.w) X.A (f v) (EP X pins σ Q) X.xe s
/-- a call of a value that is known (a builtin, a type) with values -/
def CallR (X : Cx) (f : Value) (r : List V → Hp → VK → Prop) : Prop :=
  ∀ (pins : List (Addr × Obj)) (s : Shared) (σ : St) (H : Hp) (xs : List V) (us : List Value) (Q : VK), Inv X pins σ H s → Vals xs us → r xs H Q →
    wpAny (model X.prog X.w) X.A (call f us) (EP X pins σ Q) X.xe s
/-- a value's truth -/
def TruR (X : Cx) (r : V → Hp → (Bool → Hp → Prop) → Prop) : Prop :=
  ∀ (pins : List (Addr × Obj)) (s : Shared) (σ : St) (H : Hp) (x : V) (v : Value) (Q : Bool → Hp → Prop), Inv X pins σ H s → RelV x v → r x H Q →
    wpAny (model X.prog X.w) X.A (truthy v) (TP X pins σ Q) X.xe s

def tOp (r : R2) (ta tb : TE) : TE := fun σ H Q => ta σ H fun x H1 => tb σ H1 fun y H2 => r x y H2 Q
def tUn (r : V → Hp → VK → Prop) (ta : TE) : TE := fun σ H Q => ta σ H fun x H1 => r x H1 Q
/-- ints in, under C, and a value out -/
def rI (C : Int → Int → Prop) (g : Int → Int → V) : R2 := fun x y H Q => ∃ i j, x = .int i ∧ y = .int j ∧ C i j ∧ Q (g i j) H
def rI0 (g : Int → Int → V) : R2 := fun x y H Q => ∃ i j, x = .int i ∧ y = .int j ∧ Q (g i j) H
def rU (g : Int → V) : V → Hp → VK → Prop := fun x H Q => ∃ i, x = .int i ∧ Q (g i) H

section
variable {X : Cx} {a b c : Expr} {ta tb tc : TE} {pos : Pos}

theorem binT (ha : PE X a ta) (hb : PE X b tb) {pins : List (Addr × Obj)} {s : Shared} {σ : St} {H : Hp} {R : V → V → Hp → Prop} (I : Inv X pins σ H s)
    (h : ta σ H fun x H1 => tb σ H1 fun y H2 => R x y H2) {Q : Value → Shared → Prop} {f : Value → Value → Sem Value}
    (hf : ∀ v u s2 x y H2, Inv X pins σ H2 s2 → RelV x v → RelV y u → R x y H2 → wpAny (model X.prog X.w) X.A (f v u) Q X.xe s2) :
    wpAny (model X.prog X.w) X.A (eval a X.env) (fun v s₁ => wpAny (model X.prog X.w) X.A (eval b X.env) (fun u s₂ => wpAny (model X.prog X.w) X.A (f v u) Q X.xe s₂) X.xe s₁) X.xe s := by
  refine thn (ha pins s σ H _ I h) fun v s1 ⟨x, H1, I1, r1, q1⟩ => ?_
  refine thn (hb pins s1 σ H1 _ I1 q1) fun u s2 ⟨y, H2, I2, r2, q2⟩ => ?_
  exact hf v u s2 x y H2 I2 r1 r2 q2

theorem pe_op {op : Operator} {r : R2} (ho : OpR X (binaryOp op) r) (ha : PE X a ta) (hb : PE X b tb) : PE X (.BinOp a op b pos) (tOp r ta tb) := by
  intro pins s σ H Q I h
  exact wpAny_BinOp (binT ha hb I h fun v u s2 x y H2 I2 rx ry q => ho pins s2 σ H2 x y v u Q I2 rx ry q)
theorem pe_un {op : UnaryOp} {r : V → Hp → VK → Prop} (ho : UnR X (unaryOp op) r) (ha : PE X a ta) : PE X (.UnaryOp op a pos) (tUn r ta) := by
  intro pins s σ H Q I h
  exact UnaryOp_ (thn (ha pins s σ H _ I h) fun v s1 ⟨x, H1, I1, r1, q1⟩ => ho pins s1 σ H1 x v Q I1 r1 q1)
/-- a op= e at a name: the name's slot i -/
theorem augR {op : Operator} {r : R2} (ho : OpR X (inplaceOp op) r) {pins : List (Addr × Obj)} {s : Shared} {σ : St} {H : Hp} {x y : V} {v u : Value} {Q : VK} (I : Inv X pins σ H s)
    (rx : RelV x v) (ry : RelV y u) (q : r x y H Q) : wpAny (model X.prog X.w) X.A (inplaceOp op v u) (EP X pins σ Q) X.xe s := ho pins s σ H x y v u Q I rx ry q

/-! ### ints -/
theorem opI {f : Value → Value → Sem Value} {C : Int → Int → Prop} {g : Int → Int → Int}
    (rule : ∀ (i j : Int) (t u : Tok) (s : Shared) (Q : Value → Shared → Prop) (E : Value → Shared → Prop), C i j → Q (.int (g i j) s.toks) { s with toks := s.toks + 1 } → wpAny (model X.prog X.w) X.A (f (.int i t) (.int j u)) Q E s) :
    OpR X f (rI C fun i j => .int (g i j)) := by
  intro pins s σ H x y v u Q I rx ry h
  obtain ⟨i, j, rfl, rfl, hc, q⟩ := h
  obtain ⟨t, rfl⟩ := rx
  obtain ⟨t', rfl⟩ := ry
  exact rule i j t t' s _ _ hc ⟨.int (g i j), H, I.tok _, ⟨_, rfl⟩, q⟩
theorem opI0 {f : Value → Value → Sem Value} {g : Int → Int → Int}
    (rule : ∀ (i j : Int) (t u : Tok) (s : Shared) (Q : Value → Shared → Prop) (E : Value → Shared → Prop), Q (.int (g i j) s.toks) { s with toks := s.toks + 1 } → wpAny (model X.prog X.w) X.A (f (.int i t) (.int j u)) Q E s) :
    OpR X f (rI0 fun i j => .int (g i j)) := by
  intro pins s σ H x y v u Q I rx ry h
  obtain ⟨i, j, rfl, rfl, q⟩ := h
  obtain ⟨t, rfl⟩ := rx
  obtain ⟨t', rfl⟩ := ry
  exact rule i j t t' s _ _ ⟨.int (g i j), H, I.tok _, ⟨_, rfl⟩, q⟩
theorem opB0 {f : Value → Value → Sem Value} {g : Int → Int → Bool}
    (rule : ∀ (i j : Int) (t u : Tok) (s : Shared) (Q : Value → Shared → Prop) (E : Value → Shared → Prop), Q (.bool (g i j)) s → wpAny (model X.prog X.w) X.A (f (.int i t) (.int j u)) Q E s) :
    OpR X f (rI0 fun i j => .bl (g i j)) := by
  intro pins s σ H x y v u Q I rx ry h
  obtain ⟨i, j, rfl, rfl, q⟩ := h
  obtain ⟨t, rfl⟩ := rx
  obtain ⟨t', rfl⟩ := ry
  exact rule i j t t' s _ _ ⟨.bl (g i j), H, I, rfl, q⟩

def CDiv (i j : Int) : Prop := 0 < j ∧ j < 1073741824
def CDivN (i j : Int) : Prop := j ≠ 0 ∧ j.natAbs < 1073741824
def CPow (i j : Int) : Prop := 0 ≤ j ∧ j ≤ 1000000 ∧ i.natAbs < 2 ^ 64
def CMul (i j : Int) : Prop := (-(2 ^ 64) < i ∧ i < 2 ^ 64) ∨ (-(2 ^ 64) < j ∧ j < 2 ^ 64)
theorem CMul.ok {i j : Int} (h : CMul i j) : IntMulOk i j := by
  rcases h with ⟨h1, h2⟩ | ⟨h1, h2⟩
  · exact .of_left (intBits_le_64 h1 h2)
  · exact .of_right (intBits_le_64 h1 h2)
theorem two_pow_nn (k : Nat) : (0 : Int) ≤ 2 ^ k := by
  rw [two_pow_cast]
  exact Int.natCast_nonneg _

theorem op_add : OpR X (binaryOp .Add) (rI0 fun i j => .int (i + j)) := opI0 fun _ _ _ _ _ _ _ q => add_int q
theorem op_sub : OpR X (binaryOp .Sub) (rI0 fun i j => .int (i - j)) := opI0 fun _ _ _ _ _ _ _ q => sub_int q
theorem op_mul : OpR X (binaryOp .Mult) (rI CMul fun i j => .int (i * j)) := opI fun _ _ _ _ _ _ _ hc q => mul_int q hc.ok
/-- // by a positive divisor -/
theorem op_fdiv : OpR X (binaryOp .FloorDiv) (rI CDiv fun i j => .int (i / j)) := opI fun i j _ _ _ _ _ hc q => by
  have h1 : (0 : Int) < j := hc.1
  have h2 : j < 1073741824 := hc.2
  exact floordiv_int (by omega) (by rw [Int.fdiv_eq_ediv_of_nonneg i (by omega)]; exact q) (.inl (PyProof.noPylong_small (by omega)))
theorem op_fdivN : OpR X (binaryOp .FloorDiv) (rI CDivN fun i j => .int (i.fdiv j)) := opI fun _ _ _ _ _ _ _ hc q => floordiv_int hc.1 q (.inl (PyProof.noPylong_small hc.2))
/-- % by a positive divisor of any size -/
theorem op_mod : OpR X (binaryOp .Mod) (rI (fun _ j => 0 < j) fun i j => .int (i % j)) := opI fun i j _ _ _ _ _ hc q => by
  have h1 : (0 : Int) < j := hc
  exact mod_int' (by omega) (by rw [Int.fmod_eq_emod_of_nonneg i (by omega)]; exact q)
theorem op_modN : OpR X (binaryOp .Mod) (rI (fun _ j => j ≠ 0) fun i j => .int (i.fmod j)) := opI fun _ _ _ _ _ _ _ hc q => mod_int' hc q
theorem op_pow : OpR X (binaryOp .Pow) (rI CPow fun i j => .int (i ^ j.toNat)) := opI fun _ _ _ _ _ _ _ hc q => pow_int_small hc.1 hc.2.1 hc.2.2 q
theorem op_shl : OpR X (binaryOp .LShift) (rI CPow fun i j => .int (i * 2 ^ j.toNat)) := opI fun _ _ _ _ _ _ _ hc q => lshift_int_small hc.1 hc.2.1 hc.2.2 q
theorem op_shr : OpR X (binaryOp .RShift) (rI (fun _ j => 0 ≤ j) fun i j => .int (i / 2 ^ j.toNat)) := opI fun i j _ _ _ _ _ hc q =>
  rshift_int hc (by rw [Int.fdiv_eq_ediv_of_nonneg i (two_pow_nn _)]; exact q)
theorem op_and : OpR X (binaryOp .BitAnd) (rI0 fun i j => .int (Builtin.bitAnd i j)) := opI0 fun _ _ _ _ _ _ _ q => and_int q
theorem op_or : OpR X (binaryOp .BitOr) (rI0 fun i j => .int (Builtin.bitOr i j)) := opI0 fun _ _ _ _ _ _ _ q => or_int q
theorem op_xor : OpR X (binaryOp .BitXor) (rI0 fun i j => .int (Builtin.bitXor i j)) := opI0 fun _ _ _ _ _ _ _ q => xor_int q

theorem iop_add : OpR X (inplaceOp .Add) (rI0 fun i j => .int (i + j)) := opI0 fun _ _ _ _ _ _ _ q => iadd_int q
theorem iop_sub : OpR X (inplaceOp .Sub) (rI0 fun i j => .int (i - j)) := opI0 fun _ _ _ _ _ _ _ q => isub_int q
theorem iop_mul : OpR X (inplaceOp .Mult) (rI CMul fun i j => .int (i * j)) := opI fun _ _ _ _ _ _ _ hc q => imul_int q hc.ok
theorem iop_fdiv : OpR X (inplaceOp .FloorDiv) (rI CDiv fun i j => .int (i / j)) := opI fun i j _ _ _ _ _ hc q => by
  have h1 : (0 : Int) < j := hc.1
  have h2 : j < 1073741824 := hc.2
  exact ifloordiv_int (by omega) (by rw [Int.fdiv_eq_ediv_of_nonneg i (by omega)]; exact q) (.inl (PyProof.noPylong_small (by omega)))
theorem iop_mod : OpR X (inplaceOp .Mod) (rI (fun _ j => 0 < j) fun i j => .int (i % j)) := opI fun i j _ _ _ _ _ hc q => by
  have h1 : (0 : Int) < j := hc
  exact imod_int (by omega) (by rw [Int.fmod_eq_emod_of_nonneg i (by omega)]; exact q)
theorem iop_shl : OpR X (inplaceOp .LShift) (rI CPow fun i j => .int (i * 2 ^ j.toNat)) := opI fun _ _ _ _ _ _ _ hc q => ilshift_int_small hc.1 hc.2.1 hc.2.2 q
theorem iop_shr : OpR X (inplaceOp .RShift) (rI (fun _ j => 0 ≤ j) fun i j => .int (i / 2 ^ j.toNat)) := opI fun i j _ _ _ _ _ hc q =>
  irshift_int hc (by rw [Int.fdiv_eq_ediv_of_nonneg i (two_pow_nn _)]; exact q)
theorem iop_and : OpR X (inplaceOp .BitAnd) (rI0 fun i j => .int (Builtin.bitAnd i j)) := opI0 fun _ _ _ _ _ _ _ q => iand_int q
theorem iop_or : OpR X (inplaceOp .BitOr) (rI0 fun i j => .int (Builtin.bitOr i j)) := opI0 fun _ _ _ _ _ _ _ q => ior_int q
theorem iop_xor : OpR X (inplaceOp .BitXor) (rI0 fun i j => .int (Builtin.bitXor i j)) := opI0 fun _ _ _ _ _ _ _ q => ixor_int q

theorem unI {f : Value → Sem Value} {g : Int → Int}
    (rule : ∀ (i : Int) (t : Tok) (s : Shared) (Q : Value → Shared → Prop) (E : Value → Shared → Prop), Q (.int (g i) s.toks) { s with toks := s.toks + 1 } → wpAny (model X.prog X.w) X.A (f (.int i t)) Q E s) :
    UnR X f (rU fun i => .int (g i)) := by
  intro pins s σ H x v Q I rx h
  obtain ⟨i, rfl, q⟩ := h
  obtain ⟨t, rfl⟩ := rx
  exact rule i t s _ _ ⟨.int (g i), H, I.tok _, ⟨_, rfl⟩, q⟩
theorem un_neg : UnR X (unaryOp .USub) (rU fun i => .int (-i)) := unI fun _ _ _ _ _ q => neg_int q
theorem un_inv : UnR X (unaryOp .Invert) (rU fun i => .int (Builtin.bitNot i)) := unI fun _ _ _ _ _ q => invert_int q

/-! ### bools among ints: n += (a < b) -/
theorem op_add_ib : OpR X (binaryOp .Add) (fun x y H Q => ∃ i k, x = .int i ∧ y = .bl k ∧ Q (.int (i + b2i k)) H) := by
  intro pins s σ H x y v u Q I rx ry h
  obtain ⟨i, k, rfl, rfl, q⟩ := h
  obtain ⟨t, rfl⟩ := rx
  cases ry
  exact add_int_bool ⟨.int (i + b2i k), H, I.tok _, ⟨_, rfl⟩, q⟩
end

/-! ### comparisons -/
/-- the scalars that == tells apart as data does -/
def scal : V → V → Bool
  | .non, .non => true | .non, .int _ => true | .int _, .non => true | .non, .bl _ => true | .bl _, .non => true | .non, .str _ => true | .str _, .non => true
  | .int _, .int _ => true | .bl _, .bl _ => true | .str _, .str _ => true | .byt _, .byt _ => true
  | .int _, .str _ => true | .str _, .int _ => true | .bl _, .str _ => true | .str _, .bl _ => true
  | _, _ => false
def rEq : R2 := fun x y H Q => scal x y = true ∧ Q (.bl (decide (x = y))) H
def rNe : R2 := fun x y H Q => scal x y = true ∧ Q (.bl (!decide (x = y))) H

theorem dec_int {i j : Int} : decide (V.int i = V.int j) = (i == j) := by
  rw [Bool.eq_iff_iff]
  simp
theorem dec_bl {i j : Bool} : decide (V.bl i = V.bl j) = (i == j) := by
  rw [Bool.eq_iff_iff]
  simp
theorem dec_str {i j : Str} : decide (V.str i = V.str j) = (i == j) := by
  rw [Bool.eq_iff_iff]
  simp
theorem dec_byt {i j : Array UInt8} : decide (V.byt i = V.byt j) = (i.toList == j.toList) := by
  rw [Bool.eq_iff_iff]
  cases i
  cases j
  simp

section
variable {X : Cx} {a b c : Expr} {ta tb tc : TE} {pos : Pos}
theorem fin_bl {pins : List (Addr × Obj)} {σ : St} {H : Hp} {s : Shared} {Q : VK} {k k' : Bool} (I : Inv X pins σ H s) (q : Q (.bl k) H) (e : k = k') : EP X pins σ Q (.bool k') s := by
  subst e
  exact ⟨.bl k, H, I, rfl, q⟩
theorem op_eq : OpR X (compareOp .Eq) rEq := by
  intro pins s σ H x y v u Q I rx ry h
  obtain ⟨hs, q⟩ := h
  cases x with
  | non =>
    cases rx
    cases y with
    | non => cases ry; exact PySem.EqNone.eq_none_none (fin_bl I q (by simp))
    | bl j => cases ry; exact PySem.EqNone.eq_none_bool (fin_bl I q (by simp))
    | int j => obtain ⟨t', rfl⟩ := ry; exact PySem.EqNone.eq_none_int (fin_bl I q (by simp))
    | str j => obtain ⟨t', rfl⟩ := ry; exact PySem.EqNone.eq_none_str (fin_bl I q (by simp))
    | _ => exact absurd (show false = true from hs) Bool.false_ne_true
  | bl i =>
    cases rx
    cases y with
    | non => cases ry; exact PySem.EqNone.eq_bool_none (fin_bl I q (by simp))
    | bl j => cases ry; exact eq_bool (fin_bl I q dec_bl)
    | str j => obtain ⟨t', rfl⟩ := ry; exact PySem.EqMixed.eq_bool_str (fin_bl I q (by simp))
    | _ => exact absurd (show false = true from hs) Bool.false_ne_true
  | int i =>
    obtain ⟨t, rfl⟩ := rx
    cases y with
    | non => cases ry; exact PySem.EqNone.eq_int_none (fin_bl I q (by simp))
    | int j => obtain ⟨t', rfl⟩ := ry; exact eq_int (fin_bl I q dec_int)
    | str j => obtain ⟨t', rfl⟩ := ry; exact PySem.EqMixed.eq_int_str (fin_bl I q (by simp))
    | _ => exact absurd (show false = true from hs) Bool.false_ne_true
  | str i =>
    obtain ⟨t, rfl⟩ := rx
    cases y with
    | non => cases ry; exact PySem.EqNone.eq_str_none (fin_bl I q (by simp))
    | bl j => cases ry; exact PySem.EqMixed.eq_str_bool (fin_bl I q (by simp))
    | int j => obtain ⟨t', rfl⟩ := ry; exact PySem.EqMixed.eq_str_int (fin_bl I q (by simp))
    | str j => obtain ⟨t', rfl⟩ := ry; exact eq_str (fin_bl I q dec_str)
    | _ => exact absurd (show false = true from hs) Bool.false_ne_true
  | byt i =>
    obtain ⟨t, rfl⟩ := rx
    cases y with
    | byt j => obtain ⟨t', rfl⟩ := ry; exact PySem.W.eq_bytes (fin_bl I q dec_byt)
    | _ => exact absurd (show false = true from hs) Bool.false_ne_true
  | _ => cases y <;> exact absurd (show false = true from hs) Bool.false_ne_true
theorem op_ne : OpR X (compareOp .NotEq) rNe := by
  intro pins s σ H x y v u Q I rx ry h
  obtain ⟨hs, q⟩ := h
  cases x with
  | non =>
    cases rx
    cases y with
    | non => cases ry; exact PySem.EqNone.ne_none_none (fin_bl I q (by simp))
    | bl j => cases ry; exact PySem.EqNone.ne_none_bool (fin_bl I q (by simp))
    | int j => obtain ⟨t', rfl⟩ := ry; exact PySem.EqNone.ne_none_int (fin_bl I q (by simp))
    | str j => obtain ⟨t', rfl⟩ := ry; exact PySem.EqNone.ne_none_str (fin_bl I q (by simp))
    | _ => exact absurd (show false = true from hs) Bool.false_ne_true
  | bl i =>
    cases rx
    cases y with
    | non => cases ry; exact PySem.EqNone.ne_bool_none (fin_bl I q (by simp))
    | bl j => cases ry; exact ne_bool (fin_bl I q (congrArg not dec_bl))
    | str j => obtain ⟨t', rfl⟩ := ry; exact PySem.EqMixed.ne_bool_str (fin_bl I q (by simp))
    | _ => exact absurd (show false = true from hs) Bool.false_ne_true
  | int i =>
    obtain ⟨t, rfl⟩ := rx
    cases y with
    | non => cases ry; exact PySem.EqNone.ne_int_none (fin_bl I q (by simp))
    | int j => obtain ⟨t', rfl⟩ := ry; exact ne_int (fin_bl I q (congrArg not dec_int))
    | str j => obtain ⟨t', rfl⟩ := ry; exact PySem.EqMixed.ne_int_str (fin_bl I q (by simp))
    | _ => exact absurd (show false = true from hs) Bool.false_ne_true
  | str i =>
    obtain ⟨t, rfl⟩ := rx
    cases y with
    | non => cases ry; exact PySem.EqNone.ne_str_none (fin_bl I q (by simp))
    | bl j => cases ry; exact PySem.EqMixed.ne_str_bool (fin_bl I q (by simp))
    | int j => obtain ⟨t', rfl⟩ := ry; exact PySem.EqMixed.ne_str_int (fin_bl I q (by simp))
    | str j => obtain ⟨t', rfl⟩ := ry; exact ne_str (fin_bl I q (congrArg not dec_str))
    | _ => exact absurd (show false = true from hs) Bool.false_ne_true
  | byt i =>
    obtain ⟨t, rfl⟩ := rx
    cases y with
    | byt j => obtain ⟨t', rfl⟩ := ry; exact PySem.W.ne_bytes (fin_bl I q (congrArg not dec_byt))
    | _ => exact absurd (show false = true from hs) Bool.false_ne_true
  | _ => cases y <;> exact absurd (show false = true from hs) Bool.false_ne_true

theorem op_lt : OpR X (compareOp .Lt) (rI0 fun i j => .bl (decide (i < j))) := opB0 fun _ _ _ _ _ _ _ q => lt_int q
theorem op_le : OpR X (compareOp .LtE) (rI0 fun i j => .bl (decide (i ≤ j))) := opB0 fun _ _ _ _ _ _ _ q => le_int q
theorem op_gt : OpR X (compareOp .Gt) (rI0 fun i j => .bl (decide (j < i))) := opB0 fun _ _ _ _ _ _ _ q => gt_int q
theorem op_ge : OpR X (compareOp .GtE) (rI0 fun i j => .bl (decide (j ≤ i))) := opB0 fun _ _ _ _ _ _ _ q => ge_int q
theorem op_lt_str : OpR X (compareOp .Lt) (fun x y H Q => ∃ i j, x = .str i ∧ y = .str j ∧ Q (.bl (decide (i.cps.toList < j.cps.toList))) H) := by
  intro pins s σ H x y v u Q I rx ry h
  obtain ⟨i, j, rfl, rfl, q⟩ := h
  obtain ⟨t, rfl⟩ := rx
  obtain ⟨t', rfl⟩ := ry
  exact lt_str (fin_bl I q rfl)
/-- the one string within the other -/
theorem op_in_str : OpR X (compareOp .In) (fun x y H Q => ∃ i j, x = .str i ∧ y = .str j ∧ Q (.bl (!(Builtin.Str.occurrences j i 0 j.length 1).isEmpty)) H) := by
  intro pins s σ H x y v u Q I rx ry h
  obtain ⟨i, j, rfl, rfl, q⟩ := h
  obtain ⟨t, rfl⟩ := rx
  obtain ⟨t', rfl⟩ := ry
  exact in_str (fin_bl I q rfl)

/-- is None, is not None: the right side a value none -/
theorem op_isN : OpR X (compareOp .Is) (fun x y H Q => y = .non ∧ Q (.bl (decide (x = .non))) H) := by
  intro pins s σ H x y v u Q I rx ry h
  obtain ⟨rfl, q⟩ := h
  cases ry
  refine is_none_gen (fin_bl I q ?_)
  cases x <;> first
    | (cases rx; rfl)
    | (obtain ⟨t, rfl⟩ := rx; rfl)
theorem op_notN : OpR X (compareOp .IsNot) (fun x y H Q => y = .non ∧ Q (.bl (!decide (x = .non))) H) := by
  intro pins s σ H x y v u Q I rx ry h
  obtain ⟨rfl, q⟩ := h
  cases ry
  refine isnot_none_gen (fin_bl I q ?_)
  cases x <;> first
    | (cases rx; rfl)
    | (obtain ⟨t, rfl⟩ := rx; rfl)

theorem op_notin_str : OpR X (compareOp .NotIn) (fun x y H Q => ∃ i j, x = .str i ∧ y = .str j ∧ Q (.bl (!(!(Builtin.Str.occurrences j i 0 j.length 1).isEmpty))) H) := by
  intro pins s σ H x y v u Q I rx ry h
  obtain ⟨i, j, rfl, rfl, q⟩ := h
  obtain ⟨t, rfl⟩ := rx
  obtain ⟨t', rfl⟩ := ry
  exact notIn_str (fin_bl I q rfl)
/-- is, is not of two objects that are tracked lists or instances -/
def isObj : HO → Bool
  | .lst _ => true
  | .ins _ _ _ => true
  | _ => false
theorem obj_there {pins : List (Addr × Obj)} {s : Shared} {σ : St} {H : Hp} {a : Addr} {o : HO} (I : Inv X pins σ H s) (h : H a = some o) (p : isObj o = true) : ∃ ob, s.heap.get? a = some ob ∧ ob.cls ≠ .type "tuple" := by
  cases o with
  | lst xs =>
    obtain ⟨_, its, n, _, e⟩ : xs.length ≤ sizeLine ∧ ∃ (its : List Value) (n : Nat), Vals xs its ∧ s.heap.get? a = some { cls := .type "list", data := .seq its.toArray n } := I.hok a _ h
    exact ⟨_, e, (by show Value.type "list" ≠ .type "tuple"; decide +kernel)⟩
  | ins C dx fs =>
    have x := I.hok a _ h
    obtain ⟨_, _, _, e, _⟩ := x
    exact ⟨_, e, (by show Value.ref C ≠ .type "tuple"; exact fun z => by cases z)⟩
  | _ => exact absurd (show false = true from p) Bool.false_ne_true
theorem op_is_ref : OpR X (compareOp .Is) (fun x y H Q => ∃ a b oa ob, x = .ref a ∧ y = .ref b ∧ H a = some oa ∧ isObj oa = true ∧ H b = some ob ∧ isObj ob = true ∧ Q (.bl (decide (a = b))) H) := by
  intro pins s σ H x y v u Q I rx ry h
  obtain ⟨a, b, oa, ob, rfl, rfl, ha, pa, hb, pb, q⟩ := h
  cases rx
  cases ry
  obtain ⟨o1, e1, n1⟩ := obj_there I ha pa
  obtain ⟨o2, e2, _⟩ := obj_there I hb pb
  by_cases z : a = b
  · subst z
    exact wpAny_is_ref_self (fin_bl I q (by simp))
  · exact wpAny_is_ref_other z e1 e2 n1 (fin_bl I q (by simp [z]))
theorem op_isnot_ref : OpR X (compareOp .IsNot) (fun x y H Q => ∃ a b oa ob, x = .ref a ∧ y = .ref b ∧ H a = some oa ∧ isObj oa = true ∧ H b = some ob ∧ isObj ob = true ∧ Q (.bl (!decide (a = b))) H) := by
  intro pins s σ H x y v u Q I rx ry h
  obtain ⟨a, b, oa, ob, rfl, rfl, ha, pa, hb, pb, q⟩ := h
  cases rx
  cases ry
  obtain ⟨o1, e1, n1⟩ := obj_there I ha pa
  obtain ⟨o2, e2, _⟩ := obj_there I hb pb
  by_cases z : a = b
  · subst z
    exact wpAny_isNot_ref_self (fin_bl I q (by simp))
  · exact wpAny_isNot_ref_other z e1 e2 n1 (fin_bl I q (by simp [z]))

/-- two rules for one operation: by cases -/
theorem OpR.or {f : Value → Value → Sem Value} {r r' : R2} (h : OpR X f r) (h' : OpR X f r') : OpR X f (fun x y H Q => r x y H Q ∨ r' x y H Q) := by
  intro pins s σ H x y v u Q I rx ry q
  rcases q with q | q
  · exact h pins s σ H x y v u Q I rx ry q
  · exact h' pins s σ H x y v u Q I rx ry q

theorem nomark (b : Expr) {op : CmpOp} (h : op ≠ .In := by decide) (h2 : op ≠ .NotIn := by decide) : behindInMarks op b = false := by
  have e1 : (op == CmpOp.In) = false := by cases op <;> first | rfl | exact absurd rfl h
  have e2 : (op == CmpOp.NotIn) = false := by cases op <;> first | rfl | exact absurd rfl h2
  cases b <;> simp [behindInMarks, e1, e2]
/-- a comparison as a value; hm: nomark b, or (for in, not in) by with_unfolding_all rfl -/
theorem pe_cmpR {op : CmpOp} {r : R2} (ho : OpR X (compareOp op) r) (ha : PE X a ta) (hb : PE X b tb) (hm : behindInMarks op b = false) : PE X (.Compare a [op] [b] pos) (tOp r ta tb) := by
  intro pins s σ H Q I h
  exact wpAny_Compare1 (binT ha hb I h fun v u s2 x y H2 I2 rx ry q => ho pins s2 σ H2 x y v u Q I2 rx ry q) hm
/-- a reading of a value as a test -/
def tTest (t : TE) : TT := fun σ H Q => t σ H fun x H' => ∃ k, x = .bl k ∧ Q k H'
theorem pt_cmpR {op : CmpOp} {r : R2} (ho : OpR X (compareOp op) r) (ha : PE X a ta) (hb : PE X b tb) (hm : behindInMarks op b = false) : PT X (.Compare a [op] [b] pos) (tTest (tOp r ta tb)) := by
  intro pins s σ H Q I h
  refine wpAny_isTrue_Compare1 (thn (ha pins s σ H _ I h) fun v s1 ⟨x, H1, I1, r1, q1⟩ => thn (hb pins s1 σ H1 _ I1 q1) fun u s2 ⟨y, H2, I2, r2, q2⟩ =>
    thn (ho pins s2 σ H2 x y v u _ I2 r1 r2 q2) fun c s3 ⟨z, H3, I3, r3, k, e, q3⟩ => ?_) hm
  subst e
  cases r3
  exact wpAny_truthy_bool ⟨H3, I3, q3⟩
/-- a op1 b op2 c -/
def tChain (r r' : R2) (ta tb tc : TE) : TE := fun σ H Q => ta σ H fun x H1 => tb σ H1 fun y H2 => r x y H2 fun z H3 => ∃ k, z = .bl k ∧
  (if k = true then tc σ H3 fun w' H4 => r' y w' H4 Q else Q (.bl false) H3)
theorem pe_chain {op op' : CmpOp} {r r' : R2} (ho : OpR X (compareOp op) r) (ho' : OpR X (compareOp op') r') (ha : PE X a ta) (hb : PE X b tb) (hc : PE X c tc)
    (hm : lastMarks [op, op'] [b, c] = false := by with_unfolding_all rfl) : PE X (.Compare a [op, op'] [b, c] pos) (tChain r r' ta tb tc) := by
  intro pins s σ H Q I h
  refine Compare_chain (thn (ha pins s σ H _ I h) fun v s1 ⟨x, H1, I1, r1, q1⟩ => chain_link (thn (hb pins s1 σ H1 _ I1 q1) fun u s2 ⟨y, H2, I2, r2, q2⟩ =>
    thn (ho pins s2 σ H2 x y v u _ I2 r1 r2 q2) fun d s3 ⟨z, H3, I3, r3, k, e, q3⟩ => ?_)) hm
  subst e
  cases r3
  refine wpAny_truthy_bool ?_
  cases k with
  | false => exact ite_ff ⟨.bl false, H3, I3, rfl, q3⟩
  | true => exact ite_tt (chain_last (thn (hc pins s3 σ H3 _ I3 q3) fun w' s4 ⟨z', H4, I4, r4, q4⟩ => ho' pins s4 σ H4 y z' u w' Q I4 r2 r4 q4))
theorem pt_chain {op op' : CmpOp} {r r' : R2} (ho : OpR X (compareOp op) r) (ho' : OpR X (compareOp op') r') (ha : PE X a ta) (hb : PE X b tb) (hc : PE X c tc)
    (hm : lastMarks [op, op'] [b, c] = false := by with_unfolding_all rfl) : PT X (.Compare a [op, op'] [b, c] pos) (tTest (tChain r r' ta tb tc)) := by
  intro pins s σ H Q I h
  refine isTrue_chain (thn (ha pins s σ H _ I h) fun v s1 ⟨x, H1, I1, r1, q1⟩ => test_link (thn (hb pins s1 σ H1 _ I1 q1) fun u s2 ⟨y, H2, I2, r2, q2⟩ =>
    thn (ho pins s2 σ H2 x y v u _ I2 r1 r2 q2) fun d s3 ⟨z, H3, I3, r3, k, e, q3⟩ => ?_)) hm
  subst e
  cases r3
  refine wpAny_truthy_bool ?_
  cases k with
  | false =>
    obtain ⟨k', e', q'⟩ := q3
    cases e'
    exact ite_ff ⟨H3, I3, q'⟩
  | true =>
    refine ite_tt (test_last (thn (hc pins s3 σ H3 _ I3 q3) fun w' s4 ⟨z', H4, I4, r4, q4⟩ => thn (ho' pins s4 σ H4 y z' u w' _ I4 r2 r4 q4) fun d' s5 ⟨z2, H5, I5, r5, k2, e2, q5⟩ => ?_))
    subst e2
    cases r5
    exact wpAny_truthy_bool ⟨H5, I5, q5⟩

/-! ### truth -/
/-- a value's truth by the abstract heap -/
def TruV (K : PySem.W.Frag) (x : V) (H : Hp) (k : Bool) : Prop :=
  match x with
  | .non => k = false
  | .bl b => k = b
  | .int i => k = (i != 0)
  | .str y => y.length ≤ sizeLine ∧ k = ((y.length : Int) != 0)
  | .byt y => y.size ≤ sizeLine ∧ k = ((y.size : Int) != 0)
  | .ref p => (∃ xs, SqL K H p xs ∧ k = !xs.isEmpty) ∨ (∃ xs, SqT K H p xs ∧ k = !xs.isEmpty) ∨ ∃ kvs, H p = some (.dK kvs) ∧ k = !kvs.isEmpty
  | _ => False
theorem isEmpty_kv {κ : Type} {kvs : List (κ × V)} {vs : List (κ × Value)} (r : KV kvs vs) : (!vs.isEmpty) = !kvs.isEmpty := by
  cases r <;> rfl
theorem isEmpty_of {xs : List V} {its : List Value} (r : Vals xs its) : (!its.toArray.isEmpty) = !xs.isEmpty := by
  cases r <;> simp
theorem line63 : (sizeLine : Nat) < 2 ^ 63 := by rw [sizeLine_eq]; decide
theorem tru_ok : TruR X (fun x H Q => ∃ k, TruV X.K x H k ∧ Q k H) := by
  intro pins s σ H x v Q I rx h
  obtain ⟨k, e, q⟩ := h
  have hl := line63
  have hs : sizeLine = 16777216 := sizeLine_eq
  cases x with
  | non =>
    cases rx
    have e' : k = false := e
    subst e'
    exact truthy_none ⟨H, I, q⟩
  | bl b =>
    cases rx
    have e' : k = b := e
    subst e'
    exact wpAny_truthy_bool ⟨H, I, q⟩
  | int i =>
    obtain ⟨t, rfl⟩ := rx
    have e' : k = (i != 0) := e
    subst e'
    exact PySem.P.truthy_int ⟨H, I, q⟩
  | str y =>
    obtain ⟨t, rfl⟩ := rx
    obtain ⟨hy, e'⟩ : y.length ≤ sizeLine ∧ k = ((y.length : Int) != 0) := e
    subst e'
    exact PySem.P.truthy_str (by omega) ⟨H, I.tok _, q⟩
  | byt y =>
    obtain ⟨t, rfl⟩ := rx
    obtain ⟨hy, e'⟩ : y.size ≤ sizeLine ∧ k = ((y.size : Int) != 0) := e
    subst e'
    exact PySem.W.truthy_bytes (by omega) ⟨H, I.tok _, q⟩
  | ref p =>
    cases rx
    have e' : (∃ xs, SqL X.K H p xs ∧ k = !xs.isEmpty) ∨ (∃ xs, SqT X.K H p xs ∧ k = !xs.isEmpty) ∨ ∃ kvs, H p = some (.dK kvs) ∧ k = !kvs.isEmpty := e
    rcases e' with ⟨xs, hx, e'⟩ | ⟨xs, hx, e'⟩ | ⟨kvs, hx, e'⟩
    · subst e'
      obtain ⟨its, r, pl, hz⟩ := I.list hx
      have hlen := r.length
      exact wpAny_truthy_list pl.isList (by simp only [List.size_toArray]; omega) ⟨H, I.tok _, by rw [isEmpty_of r]; exact q⟩
    · subst e'
      obtain ⟨its, r, pl, hz⟩ := I.tuple hx
      have hlen := r.length
      exact truthy_tuple pl (by simp only [List.size_toArray]; omega) ⟨H, I.tok _, by rw [isEmpty_of r]; exact q⟩
    · subst e'
      obtain ⟨hz, hS, vs, r, m⟩ : kvs.length ≤ sizeLine ∧ (p == sysModules) = false ∧ ∃ vs, KV kvs vs ∧ s.heap.DictOf (mixKind X.prog X.w) p vs := I.hok p _ hx
      have hlen : kvs.length = vs.length := Paired.length r
      exact wpAny_truthy_dict hS m (by omega) ⟨H, I.tok _, by rw [isEmpty_kv r]; exact q⟩
  | _ => exact (show False from e).elim
/-- any expression whose test is its value's truth (a name, a call, a subscript, a field ..: he by fun _ => rfl) -/
theorem pt_truth (ha : PE X a ta) (he : ∀ whole, isTrue a X.env whole = (do let v ← whole; standAt a.pos; holding [v] (truthy v))) :
    PT X a (fun σ H Q => ta σ H fun x H' => ∃ k, TruV X.K x H' k ∧ Q k H') := by
  intro pins s σ H Q I h
  exact isTrue_plain (thn (ha pins s σ H _ I h) fun v s1 ⟨x, H1, I1, r1, q1⟩ => tru_ok pins s1 σ H1 x v Q I1 r1 q1) (he _)

/-! ### strs and bytes -/
theorem pe_byt {x : List UInt8} {k : Nat} : PE X (.Constant (.bytes x) k pos) (fun _ H Q => Q (.byt x.toArray) H) := fun _ _ _ H _ I h => PySem.W.Constant_bytes ⟨.byt x.toArray, H, I.tok _, ⟨_, rfl⟩, h⟩
theorem op_add_str : OpR X (binaryOp .Add) (fun x y H Q => ∃ i j, x = .str i ∧ y = .str j ∧ i.length + j.length ≤ sizeLine ∧ Q (.str (i ++ j)) H) := by
  intro pins s σ H x y v u Q I rx ry h
  obtain ⟨i, j, rfl, rfl, hz, q⟩ := h
  obtain ⟨t, rfl⟩ := rx
  obtain ⟨t', rfl⟩ := ry
  exact add_str (fun t' tk => ⟨.str (i ++ j), H, I.tok _, ⟨_, rfl⟩, q⟩) hz
theorem iop_add_str : OpR X (inplaceOp .Add) (fun x y H Q => ∃ i j, x = .str i ∧ y = .str j ∧ i.length + j.length ≤ sizeLine ∧ Q (.str (i ++ j)) H) := by
  intro pins s σ H x y v u Q I rx ry h
  obtain ⟨i, j, rfl, rfl, hz, q⟩ := h
  obtain ⟨t, rfl⟩ := rx
  obtain ⟨t', rfl⟩ := ry
  exact iadd_str (fun t' tk => ⟨.str (i ++ j), H, I.tok _, ⟨_, rfl⟩, q⟩) hz
theorem op_add_byt : OpR X (binaryOp .Add) (fun x y H Q => ∃ i j, x = .byt i ∧ y = .byt j ∧ i.size + j.size ≤ 16777216 ∧ Q (.byt (i ++ j)) H) := by
  intro pins s σ H x y v u Q I rx ry h
  obtain ⟨i, j, rfl, rfl, hz, q⟩ := h
  obtain ⟨t, rfl⟩ := rx
  obtain ⟨t', rfl⟩ := ry
  exact PySem.W.KBy.add_bytes hz (fun t' tk => ⟨.byt (i ++ j), H, I.tok _, ⟨_, rfl⟩, q⟩)

def PlainIxT (b : Expr) : Prop := ∀ o i, subscripted b false o i = operate [o, i] (getItem o i)
/-- s[i], 0 ≤ i < len -/
theorem pe_item_str (ha : PE X a ta) (hb : PE X b tb) (hs : PlainIxT b) :
    PE X (.Subscript a b pos) (tOp (fun x y H Q => ∃ z i c, x = .str z ∧ y = .int i ∧ 0 ≤ i ∧ i < 2 ^ 63 ∧ i < z.length ∧ z.cps[i.toNat]? = some c ∧ Q (.str ⟨#[c]⟩) H) ta tb) := by
  intro pins s σ H Q I h
  refine Subscript_ (binT ha hb I h fun v u s2 x y H2 I2 rx ry q => ?_)
  obtain ⟨z, i, c, rfl, rfl, h0, h63, h1, hc, q⟩ := q
  obtain ⟨t, rfl⟩ := rx
  obtain ⟨t', rfl⟩ := ry
  have e : seqIndex? i z.length = some i.toNat := PySem.StrLaws.seqIndex_nonneg h0 h1
  exact tail_any (typeIs_str s2 z t) slot_str_getitem.lookup (getItem_str (c := c) (by
    have e1 : decide (i < -(2 ^ 63 : Int)) = false := decide_eq_false (by omega)
    have e2 : decide (i ≥ 2 ^ 63) = false := decide_eq_false (by omega)
    rw [e1, e2] <;> rfl) (by rw [e]; exact hc) ⟨.str ⟨#[c]⟩, H2, I2.tok _, ⟨_, rfl⟩, q⟩) (hs _ _)
/-- b[i], 0 ≤ i < len -/
theorem pe_item_byt (ha : PE X a ta) (hb : PE X b tb) (hs : PlainIxT b) :
    PE X (.Subscript a b pos) (tOp (fun x y H Q => ∃ (z : List UInt8) (i : Int), x = .byt z.toArray ∧ y = .int i ∧ z.length ≤ sizeLine ∧ 0 ≤ i ∧ i < z.length ∧ Q (.int ((z.getD i.toNat 0).toNat : Nat)) H) ta tb) := by
  intro pins s σ H Q I h
  refine Subscript_ (binT ha hb I h fun v u s2 x y H2 I2 rx ry q => ?_)
  obtain ⟨z, i, rfl, rfl, hz, h0, h1, q⟩ := q
  obtain ⟨t, rfl⟩ := rx
  obtain ⟨t', rfl⟩ := ry
  have hl : sizeLine = 16777216 := sizeLine_eq
  exact tail_any (PySem.W.typeIs_bytes s2 z.toArray t) PySem.W.FB.slot_bytes_getitem.lookup (PySem.W.getItem_bytes (by omega) h0 h1 ⟨.int ((z.getD i.toNat 0).toNat : Nat), H2, I2.tok _, ⟨_, rfl⟩, q⟩) (hs _ _)

/-! ### scalar builtins, by CallR -/
theorem vals1 {x : V} {us : List Value} (r : Vals [x] us) : ∃ u, us = [u] ∧ RelV x u := by
  cases r with
  | cons r1 r2 => cases r2; exact ⟨_, rfl, r1⟩
theorem vals2 {x y : V} {us : List Value} (r : Vals [x, y] us) : ∃ u w', us = [u, w'] ∧ RelV x u ∧ RelV y w' := by
  cases r with
  | cons r1 r2 =>
    cases r2 with
    | cons r3 r4 => cases r4; exact ⟨_, _, rfl, r1, r3⟩
theorem call_abs : CallR X (.builtin "abs") (fun xs H Q => ∃ i, xs = [.int i] ∧ Q (.int (if i < 0 then -i else i)) H) := by
  intro pins s σ H xs us Q I r h
  obtain ⟨i, rfl, q⟩ := h
  obtain ⟨u, rfl, t, rfl⟩ := vals1 r
  exact call_abs_int fun u tk => ⟨.int (if i < 0 then -i else i), H, I.tok _, ⟨_, rfl⟩, q⟩
theorem call_max2 (hc : X.calm = true) : CallR X (.builtin "max") (fun xs H Q => ∃ i j, xs = [.int i, .int j] ∧ Q (.int (if j > i then j else i)) H) := by
  intro pins s σ H xs us Q I r h
  obtain ⟨i, j, rfl, q⟩ := h
  obtain ⟨u, w', rfl, ⟨t, rfl⟩, ⟨t', rfl⟩⟩ := vals2 r
  refine max_two_ints (I.ok.hd hc) fun h' tk k => ⟨_, H, I.kept k, ?_, q⟩
  by_cases hj : j > i
  · rw [if_pos hj, if_pos hj]; exact ⟨_, rfl⟩
  · rw [if_neg hj, if_neg hj]; exact ⟨_, rfl⟩
theorem call_min2 (hc : X.calm = true) : CallR X (.builtin "min") (fun xs H Q => ∃ i j, xs = [.int i, .int j] ∧ Q (.int (if j < i then j else i)) H) := by
  intro pins s σ H xs us Q I r h
  obtain ⟨i, j, rfl, q⟩ := h
  obtain ⟨u, w', rfl, ⟨t, rfl⟩, ⟨t', rfl⟩⟩ := vals2 r
  refine min_two_ints (I.ok.hd hc) fun h' tk k => ⟨_, H, I.kept k, ?_, q⟩
  by_cases hj : j < i
  · rw [if_pos hj, if_pos hj]; exact ⟨_, rfl⟩
  · rw [if_neg hj, if_neg hj]; exact ⟨_, rfl⟩
theorem call_int1 : CallR X (.type "int") (fun xs H Q => (∃ i, xs = [.int i] ∧ Q (.int i) H) ∨ ∃ k, xs = [.bl k] ∧ Q (.int (if k then 1 else 0)) H) := by
  intro pins s σ H xs us Q I r h
  rcases h with ⟨i, rfl, q⟩ | ⟨k, rfl, q⟩
  · obtain ⟨u, rfl, t, rfl⟩ := vals1 r
    exact call_int_int ⟨.int i, H, I, ⟨_, rfl⟩, q⟩
  · obtain ⟨u, rfl, r1⟩ := vals1 r
    cases r1
    exact call_int_bool ⟨.int (if k then 1 else 0), H, I.tok _, ⟨_, rfl⟩, q⟩
theorem call_bool1 : CallR X (.type "bool") (fun xs H Q => (∃ i, xs = [.int i] ∧ Q (.bl (i != 0)) H) ∨ ∃ k, xs = [.bl k] ∧ Q (.bl k) H) := by
  intro pins s σ H xs us Q I r h
  rcases h with ⟨i, rfl, q⟩ | ⟨k, rfl, q⟩
  · obtain ⟨u, rfl, t, rfl⟩ := vals1 r
    exact call_bool_int ⟨.bl (i != 0), H, I, rfl, q⟩
  · obtain ⟨u, rfl, r1⟩ := vals1 r
    cases r1
    exact call_bool_bool ⟨.bl k, H, I, rfl, q⟩
theorem call_str_int : CallR X (.type "str") (fun xs H Q => ∃ i, xs = [.int i] ∧ i.natAbs.log2 < 1920 ∧ Q (.str (toString i)) H) := by
  intro pins s σ H xs us Q I r h
  obtain ⟨i, rfl, hz, q⟩ := h
  obtain ⟨u, rfl, t, rfl⟩ := vals1 r
  exact PySem.P.str_of_int hz ⟨.str _, H, I.tok _, ⟨_, rfl⟩, q⟩
theorem call_ord : CallR X (.builtin "ord") (fun xs H Q => ∃ x, xs = [.str x] ∧ x.length = 1 ∧ Q (.int (x.cps.getD 0 0 : Nat)) H) := by
  intro pins s σ H xs us Q I r h
  obtain ⟨x, rfl, hz, q⟩ := h
  obtain ⟨u, rfl, t, rfl⟩ := vals1 r
  exact ord_of_one hz ⟨.int _, H, I.tok _, ⟨_, rfl⟩, q⟩
theorem call_chr : CallR X (.builtin "chr") (fun xs H Q => ∃ i, xs = [.int i] ∧ 0 ≤ i ∧ i ≤ 1114111 ∧ Q (.str ⟨#[i.toNat]⟩) H) := by
  intro pins s σ H xs us Q I r h
  obtain ⟨i, rfl, h0, h1, q⟩ := h
  obtain ⟨u, rfl, t, rfl⟩ := vals1 r
  exact chr_of_range h0 h1 ⟨.str _, H, I.tok _, ⟨_, rfl⟩, q⟩
/-- len of a str, a bytes, a list, a tuple -/
def LenV (K : PySem.W.Frag) (x : V) (H : Hp) (n : Nat) : Prop :=
  match x with
  | .str y => y.length ≤ sizeLine ∧ n = y.length
  | .byt y => y.size ≤ sizeLine ∧ n = y.size
  | .ref p => (∃ xs, SqL K H p xs ∧ n = xs.length) ∨ ∃ xs, SqT K H p xs ∧ n = xs.length
  | _ => False
theorem call_len : CallR X (.builtin "len") (fun xs H Q => ∃ x n, xs = [x] ∧ LenV X.K x H n ∧ Q (.int n) H) := by
  intro pins s σ H xs us Q I r h
  obtain ⟨x, n, rfl, e, q⟩ := h
  obtain ⟨u, rfl, rx⟩ := vals1 r
  have hl := line63
  have hs : sizeLine = 16777216 := sizeLine_eq
  cases x with
  | str y =>
    obtain ⟨t, rfl⟩ := rx
    obtain ⟨hy, e'⟩ : y.length ≤ sizeLine ∧ n = y.length := e
    subst e'
    exact len_str (by omega) ⟨.int _, H, I.tok _, ⟨_, rfl⟩, q⟩
  | byt y =>
    obtain ⟨t, rfl⟩ := rx
    obtain ⟨hy, e'⟩ : y.size ≤ sizeLine ∧ n = y.size := e
    subst e'
    exact PySem.W.len_bytes (by omega) ⟨.int _, H, I.tok _, ⟨_, rfl⟩, q⟩
  | ref p =>
    cases rx
    have e' : (∃ xs, SqL X.K H p xs ∧ n = xs.length) ∨ ∃ xs, SqT X.K H p xs ∧ n = xs.length := e
    rcases e' with ⟨xs, hx, e'⟩ | ⟨xs, hx, e'⟩
    · subst e'
      obtain ⟨its, r', pl, hz⟩ := I.list hx
      have hlen := r'.length
      exact Calls.call_len_list pl.isList (by simp only [List.size_toArray]; omega) ⟨.int xs.length, H, I.tok _, ⟨_, by simp only [List.size_toArray]; rw [hlen]⟩, q⟩
    · subst e'
      obtain ⟨its, r', pl, hz⟩ := I.tuple hx
      have hlen := r'.length
      exact len_tuple pl (by simp only [List.size_toArray]; omega) ⟨.int xs.length, H, I.tok _, ⟨_, by simp only [List.size_toArray]; rw [hlen]⟩, q⟩
  | _ => exact (show False from e).elim
/-- divmod: a new tuple -/
theorem call_divmod : CallR X (.builtin "divmod") (fun xs H Q => ∃ i j, xs = [.int i, .int j] ∧ CDiv i j ∧ ∀ p, H p = none → Q (.ref p) (upd H p (.tup [.int (i / j), .int (i % j)]))) := by
  intro pins s σ H xs us Q I r h
  obtain ⟨i, j, rfl, ⟨h1, h2⟩, q⟩ := h
  obtain ⟨u, w', rfl, ⟨t, rfl⟩, ⟨t', rfl⟩⟩ := vals2 r
  refine divmod_int (by omega) ?_ (.inl (PyProof.noPylong_small (by omega)))
  rw [Int.fdiv_eq_ediv_of_nonneg i (by omega), Int.fmod_eq_emod_of_nonneg i (by omega)]
  have hn : H s.heap.objs.size = none := I.hok.fresh (Nat.le_refl _)
  refine ⟨.ref s.heap.objs.size, _, ?_, rfl, q _ hn⟩
  refine I.laid (fun b o e => Heap.get?_push_of_some _ e) (Nat.le_refl _) ⟨by simp only [List.length_cons, List.length_nil]; rw [sizeLine_eq]; decide, [.int (i / j) s.toks, .int (i % j) (s.toks + 1)], .cons ⟨_, rfl⟩ (.cons ⟨_, rfl⟩ .nil), ?_⟩
  exact ⟨_, Heap.get?_push_size s.heap rfl, rfl, 0, rfl⟩
end
end L2

namespace L2
open PySem PySem.Spec PyProof.Rows

/-! ### an instance, its attributes a map -/
structure ObjM (h : Heap) (x dx C : Addr) (mA : Str → Option Value) : Prop where
  obj : h.get? x = some (PySem.W.instObj C dx)
  ns : h.Ns1 dx mA
  ne : dx ≠ x

theorem lookIn_ns {h : Heap} {dx : Addr} {mA : Str → Option Value} (n : h.Ns1 dx mA) : ∃ od, h.get? dx = some od ∧ ∀ name, PySem.W.lookIn name od = some (mA name) := by
  obtain ⟨o, es, ep, ho, hd, hk, _, hm⟩ := n
  refine ⟨o, ho, fun name => ?_⟩
  have e := hm name
  unfold nsFind findBy at e
  rw [← Array.find?_toList] at e
  unfold PySem.W.lookIn
  rw [hd]
  dsimp only
  split
  · rename_i y q
    rw [q] at e
    exact congrArg some e
  · rename_i q
    rw [q] at e
    have a : es.toList.any (·.refKey) = false := by
      rw [List.any_eq_false]
      intro y hy
      obtain ⟨z, t, hkey⟩ := hk y (Array.mem_toList_iff.mp hy)
      simp [DictEntry.refKey, hkey]
    have a' : ¬ es.toList.any (·.refKey) = true := by rw [a]; exact Bool.false_ne_true
    rw [if_neg a']
    exact congrArg some e

theorem ObjM.look {h : Heap} {x dx C : Addr} {mA : Str → Option Value} (I : ObjM h x dx C mA) : ∃ od, PySem.W.InstAt h x (PySem.W.instObj C dx) C (some od) ∧ ∀ name, PySem.W.lookIn name od = some (mA name) :=
  let ⟨od, ho, hl⟩ := lookIn_ns I.ns
  ⟨od, ⟨I.obj, rfl, rfl, ho⟩, hl⟩

section
variable {prog : Program} {w : World} {A : Around} {E : Value → Shared → Prop} {s : Shared} {K : PySem.W.Frag} {x dx C f : Addr} {mA : Str → Option Value} {name : Str} {v : Value}

theorem get_map {expr : Bool} {Q : Value → Shared → Prop} (X : K.In s.heap) (I : ObjM s.heap x dx C mA) (hg : PySem.W.plainGet K C name = true) (hh : PySem.W.hasDictIn K C = true)
    (ha : PySem.W.findIn K (.ref C) name = some none) (hv : mA name = some v) (hv' : PySem.W.handedIn v = true) (h : Q v { s with toks := s.toks + 1 }) :
    wpAny (model prog w) A (getAttr (.ref x) name expr) Q E s := by
  obtain ⟨od, J, hl⟩ := I.look
  exact PySem.W.get_value X J (PySem.W.plainGet_of hg).1 (PySem.W.findObj_own hh ha rfl (by rw [hl, hv])) hv' h

theorem get_const {expr : Bool} {a : Value} {Q : Value → Shared → Prop} (X : K.In s.heap) (I : ObjM s.heap x dx C mA) (hg : PySem.W.plainGet K C name = true) (hh : PySem.W.hasDictIn K C = true)
    (ha : PySem.W.findIn K (.ref C) name = some (some a)) (hn : PySem.W.specialIn K a "__get__" = some none) (hc : PySem.W.copiedNames.contains name = false) (hv : mA name = none) (hv' : PySem.W.handedIn a = true)
    (h : Q a { s with toks := s.toks + 1 }) : wpAny (model prog w) A (getAttr (.ref x) name expr) Q E s := by
  obtain ⟨od, J, hl⟩ := I.look
  exact PySem.W.get_value X J (PySem.W.plainGet_of hg).1 (PySem.W.findObj_cls hh ha hn hv' hc (by rw [hl, hv])) hv' h

theorem get_meth {pl : Sem Bool} {Q : Value × List Value → Shared → Prop} (X : K.In s.heap) (I : ObjM s.heap x dx C mA) (hg : PySem.W.plainGet K C name = true)
    (hf : PySem.W.findIn K (.ref C) name = some (some (.ref f))) (ht : PySem.W.isFn K (.ref f) = true) (hv : mA name = none) (h : Q (.ref f, [.ref x]) s) :
    wpAny (model prog w) A (getMethod (.ref x) name pl) Q E s := by
  obtain ⟨od, J, hl⟩ := I.look
  exact PySem.W.method_fn X J (PySem.W.plainGet_of hg).1 (PySem.W.plainGet_of hg).2 hf (beq_iff_eq.mp ht) (by show (PySem.W.lookIn name od).map (·.isSome) = some false; rw [hl, hv]; rfl) h

theorem set_map {ns : List Str} {Q : Unit → Shared → Prop} (X : K.In s.heap) (I : ObjM s.heap x dx C mA)
    (hs : PySem.W.findIn K (.ref C) "__setattr__" = some (some (.builtin "object.__setattr__"))) (hp : PySem.W.plainOver K C = true) (ht : PySem.W.takerIn K C name = some none) (hh : PySem.W.hasDictIn K C = true)
    (hw : PySem.Within mA ns) (hsz : ns.length ≤ sizeLine)
    (h : ∀ h', ObjM h' x dx C (fun y => if y = name then some v else mA y) → Heap.SameBut dx s.heap h' → Q () { s with heap := h', toks := s.toks + 2 }) :
    wpAny (model prog w) A (setAttr (.ref x) name v) Q E s := by
  obtain ⟨od, J, hl⟩ := I.look
  refine PySem.W.set_plain X J hs (PySem.W.osa_open (s := { s with toks := s.toks + 1 }) (r := none) X J hp ht fun b => ?_)
  obtain ⟨cd, hc, hd'⟩ := PySem.W.any_some hh
  have hx : s.heap.get? x = some ⟨.ref C, some dx, .plain, #[]⟩ := I.obj
  refine wpAny_bind (wpAny_pure (wpAny_bind (wpAny_bind (wpAny_loadPart hx (wpAny_bind (PySem.W.Looks.here (s := { s with toks := s.toks + 1 }) (PySem.W.looks_clsIn X hc) ?_))))))
  rw [hd']
  refine wpAny_pure (a := some dx) (wpAny_bind (wpAny_pure (wpAny_bind ?_)))
  refine wpAny_nsSet1 (s := { s with toks := s.toks + 1 }) I.ns fun h' hn2 hs2 => ?_
  obtain ⟨oD, esD, epD, hoD, hdD, hcD⟩ := hn2.count (PySem.Within.cons name v hw)
  refine wpAny_bind (wpAny_lookBehind hoD (by rw [hdD]; exact pastItsLine_dict (Nat.le_trans hcD (by rw [List.length_cons]; omega))) ?_)
  exact wpAny_pure (h _ ⟨(hs2.2 _ (Ne.symm I.ne)).trans I.obj, hn2, I.ne⟩ hs2)

/-- C(..): the dict at the heap's end, the instance behind it; then its __init__ -/
theorem make_map {R : Result → Shared → Prop} {vs : List Value} {kw : List (Str × Value)} (X : K.In s.heap) (hm : PySem.W.makesIn K C = true)
    (hi : PySem.W.findIn K (.ref C) "__init__" = some (some (.ref f))) (hf : PySem.W.typeIn K (.ref f) = some (.type "function"))
    (h : codeAny (model prog w) (A.under (.builtin "type.__call__" ⟨.ref C :: vs, kw⟩)) (.call (.ref f) ⟨.ref (s.heap.objs.size + 1) :: vs, kw⟩) (PySem.W.InitBack (s.heap.objs.size + 1) R)
      { s with heap := (s.heap.push PySem.W.emptyDict).push (PySem.W.instObj C s.heap.objs.size) }) :
    codeAny (model prog w) A (.call (.ref C) ⟨vs, kw⟩) R s := by
  obtain ⟨hh, g, d, t, os⟩ := s
  exact PySem.W.make_core (PySem.W.makes_of X hm) (PySem.W.looks_findIn X hi) (fun self => PySem.W.bind_fn X self hf) (.inl rfl) h
/-- C() where there is no __init__ but object's -/
theorem make_map0 {R : Result → Shared → Prop} (X : K.In s.heap) (hm : PySem.W.makesIn K C = true)
    (hi : PySem.W.findIn K (.ref C) "__init__" = some (some (.builtin "object.__init__")))
    (hb : ∀ self, PySem.W.Looks (model prog w) s.heap (bindSpecial (.builtin "object.__init__") self) (.builtin "object.__init__", [self]))
    (h : codeAny (model prog w) (A.under (.builtin "type.__call__" ⟨[.ref C], []⟩)) (.call (.builtin "object.__init__") ⟨[.ref (s.heap.objs.size + 1)], []⟩) (PySem.W.InitBack (s.heap.objs.size + 1) R)
      { s with heap := (s.heap.push PySem.W.emptyDict).push (PySem.W.instObj C s.heap.objs.size) }) :
    codeAny (model prog w) A (.call (.ref C) ⟨[], []⟩) R s := by
  obtain ⟨hh, g, d, t, os⟩ := s
  exact PySem.W.make_core (PySem.W.makes_of X hm) (PySem.W.looks_findIn X hi) hb (.inr ⟨rfl, rfl⟩) h
end

/-! ### the attributes as a list of pairs -/
def putF (f : Str) (v : V) : List (Str × V) → List (Str × V)
  | [] => [(f, v)]
  | (g, x) :: r => if g = f then (g, v) :: r else (g, x) :: putF f v r
theorem lookup_putF (f g : Str) (v : V) : ∀ fs : List (Str × V), (putF f v fs).lookup g = if g = f then some v else fs.lookup g
  | [] => by
    show List.lookup g [(f, v)] = _
    by_cases h : g = f
    · have hb : (g == f) = true := beq_iff_eq.mpr h
      simp only [List.lookup, hb, if_pos h]
    · have hb : (g == f) = false := beq_eq_false_iff_ne.mpr h
      simp only [List.lookup, hb, if_neg h]
  | (k, x) :: r => by
    have ih := lookup_putF f g v r
    rw [show putF f v ((k, x) :: r) = (if k = f then (k, v) :: r else (k, x) :: putF f v r) from rfl]
    by_cases hk : k = f
    · rw [if_pos hk]
      by_cases h : g = k
      · have hb : (g == k) = true := beq_iff_eq.mpr h
        simp only [List.lookup, hb, if_pos (h.trans hk)]
      · have hb : (g == k) = false := beq_eq_false_iff_ne.mpr h
        simp only [List.lookup, hb, if_neg (fun e : g = f => h (e.trans hk.symm))]
    · rw [if_neg hk]
      by_cases h : g = k
      · have hb : (g == k) = true := beq_iff_eq.mpr h
        simp only [List.lookup, hb, if_neg (fun e : g = f => hk (h.symm.trans e))]
      · have hb : (g == k) = false := beq_eq_false_iff_ne.mpr h
        simp only [List.lookup, hb]
        exact ih
theorem keys_putF (f : Str) (v : V) : ∀ fs : List (Str × V), f ∈ (putF f v fs).map (·.1) ∧ ∀ g, g ∈ fs.map (·.1) → g ∈ (putF f v fs).map (·.1)
  | [] => ⟨by simp [putF], fun g h => by simp at h⟩
  | (k, x) :: r => by
    obtain ⟨i1, i2⟩ := keys_putF f v r
    rw [show putF f v ((k, x) :: r) = (if k = f then (k, v) :: r else (k, x) :: putF f v r) from rfl]
    by_cases hk : k = f
    · rw [if_pos hk]
      subst hk
      exact ⟨by simp, fun g h => by simpa using h⟩
    · rw [if_neg hk]
      refine ⟨?_, fun g h => ?_⟩
      · rw [List.map_cons]
        exact List.mem_cons_of_mem _ i1
      · rw [List.map_cons] at h ⊢
        rcases List.mem_cons.mp h with e | e
        · exact List.mem_cons.mpr (.inl e)
        · exact List.mem_cons_of_mem _ (i2 g e)
theorem length_putF (f : Str) (v : V) : ∀ fs : List (Str × V), (putF f v fs).length ≤ fs.length + 1
  | [] => by simp [putF]
  | (k, x) :: r => by
    have ih := length_putF f v r
    rw [show putF f v ((k, x) :: r) = (if k = f then (k, v) :: r else (k, x) :: putF f v r) from rfl]
    by_cases hk : k = f
    · rw [if_pos hk, List.length_cons, List.length_cons]; omega
    · rw [if_neg hk, List.length_cons, List.length_cons]; omega

theorem RelO.some_of {v : V} {o : Option Value} (r : RelO (some v) o) : ∃ u, o = some u ∧ RelV v u := by
  cases o with
  | none => exact (show False from r).elim
  | some u => exact ⟨u, rfl, r⟩
theorem RelO.none_of {o : Option Value} (r : RelO none o) : o = none := by
  cases o with
  | none => rfl
  | some u => exact (show False from r).elim
theorem handed_of {v : V} {u : Value} (r : RelV v u) : PySem.W.handedIn u = true := by
  cases v with
  | non => cases (show u = Value.none from r); rfl
  | bl b => cases (show u = Value.bool b from r); rfl
  | int i => obtain ⟨t, e⟩ := (show ∃ t, u = Value.int i t from r); cases e; rfl
  | str x => obtain ⟨t, e⟩ := (show ∃ t, u = Value.str x t from r); cases e; rfl
  | byt b => obtain ⟨t, e⟩ := (show ∃ t, u = Value.bytes b t from r); cases e; rfl
  | flt b => obtain ⟨t, e⟩ := (show ∃ t, u = Value.float b t from r); cases e; rfl
  | ref a => cases (show u = Value.ref a from r); rfl
  | ty n => cases (show u = Value.type n from r); rfl

section
variable {P : Program} {w : World} {H H' : Hp} {h h' : Heap} {a C dx : Addr} {fs fs' : List (Str × V)}
theorem ins_get (hok : HOk P w H h) (e : H a = some (.ins C dx fs)) : ∃ mA, ObjM h a dx C mA ∧ (∀ f, RelO (fs.lookup f) (mA f)) ∧ PySem.Within mA (fs.map (·.1)) ∧ fs.length ≤ 1000 ∧ H dx = some (.own a) := by
  obtain ⟨d, z, ne, ob, mA, n, r, q⟩ := (show ObjOk P w H h a (.ins C dx fs) from hok a _ e)
  exact ⟨mA, ⟨ob, n, ne⟩, r, q, z, d⟩
end

/-! ### what of the text a class must have -/
structure Cls (K : PySem.W.Frag) (C : Addr) : Prop where
  pg : PySem.W.plainGet K C Str.empty = true
  hd : PySem.W.hasDictIn K C = true
  po : PySem.W.plainOver K C = true
  sa : PySem.W.findIn K (.ref C) "__setattr__" = some (some (.builtin "object.__setattr__"))
theorem Cls.get {K : PySem.W.Frag} {C : Addr} (c : Cls K C) (f : Str) : PySem.W.plainGet K C f = true := c.pg
/-- no class of it has the name -/
def NoAttr (K : PySem.W.Frag) (C : Addr) (f : Str) : Prop := PySem.W.findIn K (.ref C) f = some none
theorem NoAttr.taker {K : PySem.W.Frag} {C : Addr} {f : Str} (n : NoAttr K C f) : PySem.W.takerIn K C f = some none := by
  unfold PySem.W.takerIn
  rw [show PySem.W.findIn K (.ref C) f = some none from n]
  rfl
/-- a constant of the class -/
structure Con (K : PySem.W.Frag) (C : Addr) (f : Str) (v : V) (u : Value) : Prop where
  at_ : PySem.W.findIn K (.ref C) f = some (some u)
  rel : RelV v u
  get : PySem.W.specialIn K u "__get__" = some none
  cp : PySem.W.copiedNames.contains f = false
/-- a method: a plain def of the class or of one above it -/
structure Meth (K : PySem.W.Frag) (C : Addr) (m : Str) (f : Addr) : Prop where
  at_ : PySem.W.findIn K (.ref C) m = some (some (.ref f))
  fn : PySem.W.isFn K (.ref f) = true
  kp : PySem.W.keepIn K (.ref f) = true

section
variable {X : Cx} {pins : List (Addr × Obj)} {σ : St} {H : Hp} {s : Shared} {a C dx : Addr} {fs : List (Str × V)} {f : Str} {v : V} {A : Around} {E : Value → Shared → Prop}

theorem getattr_ok {b : Bool} {Q : Value → Shared → Prop} (I : Inv X pins σ H s) (e : H a = some (.ins C dx fs)) (c : Cls X.K C) (n : NoAttr X.K C f) (l : fs.lookup f = some v)
    (h : ∀ u s', Inv X pins σ H s' → RelV v u → Q u s') : wpAny (model X.prog X.w) A (getAttr (.ref a) f b) Q E s := by
  obtain ⟨mA, O, r, _, _, _⟩ := ins_get I.hok e
  obtain ⟨u, hu, ru⟩ := RelO.some_of (v := v) (o := mA f) (by rw [← l]; exact r f)
  exact get_map I.kIn O (c.get f) c.hd n hu (handed_of ru) (h u _ (I.tok _) ru)

theorem getcon_ok {b : Bool} {u : Value} {Q : Value → Shared → Prop} (I : Inv X pins σ H s) (e : H a = some (.ins C dx fs)) (c : Cls X.K C) (k : Con X.K C f v u) (l : fs.lookup f = none)
    (h : ∀ s', Inv X pins σ H s' → Q u s') : wpAny (model X.prog X.w) A (getAttr (.ref a) f b) Q E s := by
  obtain ⟨mA, O, r, _, _, _⟩ := ins_get I.hok e
  have hn : mA f = none := RelO.none_of (by rw [← l]; exact r f)
  exact get_const I.kIn O (c.get f) c.hd k.at_ k.get k.cp hn (handed_of k.rel) (h _ (I.tok _))

theorem getmeth_ok {m : Str} {g : Addr} {pl : Sem Bool} {Q : Value × List Value → Shared → Prop} (I : Inv X pins σ H s) (e : H a = some (.ins C dx fs)) (c : Cls X.K C) (k : Meth X.K C m g) (l : fs.lookup m = none)
    (h : Q (.ref g, [.ref a]) s) : wpAny (model X.prog X.w) A (getMethod (.ref a) m pl) Q E s := by
  obtain ⟨mA, O, r, _, _, _⟩ := ins_get I.hok e
  have hn : mA m = none := RelO.none_of (by rw [← l]; exact r m)
  exact get_meth I.kIn O (c.get m) k.at_ k.fn hn h

theorem setattr_ok {y : V} {u : Value} {Q : Unit → Shared → Prop} (I : Inv X pins σ H s) (e : H a = some (.ins C dx fs)) (c : Cls X.K C) (n : NoAttr X.K C f) (hl : fs.length < 1000) (ry : RelV y u)
    (h : ∀ s', Inv X pins σ (upd H a (.ins C dx (putF f y fs))) s' → Q () s') : wpAny (model X.prog X.w) A (setAttr (.ref a) f u) Q E s := by
  obtain ⟨mA, O, r, wi, _, ho⟩ := ins_get I.hok e
  have hz : (fs.map (·.1)).length ≤ sizeLine := by rw [List.length_map, sizeLine_eq]; omega
  refine set_map I.kIn O c.sa c.po n.taker c.hd wi hz fun h' O' sb => h _ ?_
  have hd : ∃ o, h'.get? dx = some o := let ⟨o, _, _, e', _⟩ := O'.ns; ⟨o, e'⟩
  refine I.write (x := a) (e := dx) (by rw [e]; exact True.intro) (.inr ho) (fun b q hb z => (sb.2 b hb).trans z) hd ?_
  refine ⟨by rw [upd_ne O.ne]; exact ho, ?_, O.ne, O'.obj, _, O'.ns, fun g => ?_, fun g hg => ?_⟩
  · have := length_putF f y fs; omega
  · show RelO ((putF f y fs).lookup g) (if g = f then some u else mA g)
    rw [lookup_putF]
    by_cases q : g = f
    · rw [if_pos q, if_pos q]; exact ry
    · rw [if_neg q, if_neg q]; exact r g
  · by_cases q : g = f
    · rw [q]; exact (keys_putF f y fs).1
    · refine (keys_putF f y fs).2 g (wi g fun z => hg ?_)
      show (if g = f then some u else mA g) = none
      rw [if_neg q]; exact z

/-- a new instance, tracked, without attributes -/
theorem Inv.made (I : Inv X pins σ H s) : Inv X pins σ (upd (upd H s.heap.objs.size (.own (s.heap.objs.size + 1))) (s.heap.objs.size + 1) (.ins C s.heap.objs.size []))
    { s with heap := (s.heap.push PySem.W.emptyDict).push (PySem.W.instObj C s.heap.objs.size) } := by
  have e1 : (s.heap.push PySem.W.emptyDict).get? s.heap.objs.size = some PySem.W.emptyDict := Heap.get?_push_size s.heap rfl
  have e2 : ((s.heap.push PySem.W.emptyDict).push (PySem.W.instObj C s.heap.objs.size)).get? (s.heap.objs.size + 1) = some (PySem.W.instObj C s.heap.objs.size) := by
    have := Heap.get?_push_size (s.heap.push PySem.W.emptyDict) (o := PySem.W.instObj C s.heap.objs.size) rfl
    rwa [Heap.size_push] at this
  have e3 : (s.heap.push PySem.W.emptyDict).Ns s.heap.objs.size (fun _ => none) := ⟨PySem.W.emptyDict, #[], _, e1, rfl, (fun e he => absurd he (by simp)), fun _ => rfl⟩
  have I1 := I.laid (a := s.heap.objs.size) (o := .own (s.heap.objs.size + 1)) (h' := s.heap.push PySem.W.emptyDict) (t' := s.toks) (fun b u q => Heap.get?_push_of_some _ q) (Nat.le_refl _) ⟨_, e1⟩
  refine I1.laid (a := s.heap.objs.size + 1) (o := .ins C s.heap.objs.size []) (t' := s.toks) (fun b u q => Heap.get?_push_of_some _ q) (Nat.le_of_eq (Heap.size_push _ _)) ?_
  have ne : s.heap.objs.size ≠ s.heap.objs.size + 1 := Nat.ne_of_lt (Nat.lt_succ_self _)
  refine ⟨by rw [upd_ne ne, upd_same], Nat.zero_le _, ne, e2, fun _ => none, (Heap.Ns1.of_empty e3).at fun o q => Heap.get?_push_of_some _ q, fun _ => True.intro, fun y hy => absurd rfl hy⟩

/-- e.f where nothing but the object is asked: through attributeBase (super) and the last hold -/
theorem attr_of {prog : Program} {w : World} {env : Env} {e : Expr} {f : Str} {pos : Pos} {s : Shared} {Q : Value → Shared → Prop} (hb : attributeBase e f env (eval e env) = eval e env)
    (h : wpAny (model prog w) A (eval e env) (fun o s₁ => wpAny (model prog w) A (getAttr o f true) Q E s₁) E s) : wpAny (model prog w) A (eval (.Attribute e f pos) env) Q E s :=
  Attribute_any_ h (by rw [arm_eval_Attribute, hb])
end

/-! ### readings and rules -/
/-- e.f, an attribute of the instance -/
def tFld (K : PySem.W.Frag) (ta : TE) (f : Str) : TE := fun σ H Q => ta σ H fun x H1 => ∃ a C dx fs v, x = .ref a ∧ H1 a = some (.ins C dx fs) ∧ Cls K C ∧ NoAttr K C f ∧ fs.lookup f = some v ∧ Q v H1
/-- e.f, a constant of the class -/
def tCon (K : PySem.W.Frag) (ta : TE) (f : Str) : TE := fun σ H Q => ta σ H fun x H1 => ∃ a C dx fs v u, x = .ref a ∧ H1 a = some (.ins C dx fs) ∧ Cls K C ∧ Con K C f v u ∧ fs.lookup f = none ∧ Q v H1
/-- e.f = value -/
def sFld (K : PySem.W.Frag) (ta tv : TE) (f : Str) : TS := fun D σ H => tv σ H fun y H1 => ta σ H1 fun x H2 => ∃ a C dx fs, x = .ref a ∧ H2 a = some (.ins C dx fs) ∧ Cls K C ∧ NoAttr K C f ∧ fs.length < 1000 ∧
  D.nx σ (upd H2 a (.ins C dx (putF f y fs)))
/-- an augmented operator on two values -/
def InOp (X : Cx) (op : Operator) (rd : V → V → Hp → VK → Prop) : Prop :=
  ∀ (pins : List (Addr × Obj)) (s : Shared) (σ : St) (H : Hp) (x y : V) (u v : Value) (Q : VK), Inv X pins σ H s → RelV x u → RelV y v → rd x y H Q → wpAny (model X.prog X.w) X.A (inplaceOp op u v) (EP X pins σ Q) X.xe s
/-- e.f op= value -/
def sFldAug (K : PySem.W.Frag) (ta tv : TE) (rd : V → V → Hp → VK → Prop) (f : Str) : TS := fun D σ H => ta σ H fun x H1 => ∃ a C dx fs v, x = .ref a ∧ H1 a = some (.ins C dx fs) ∧ Cls K C ∧ NoAttr K C f ∧ fs.lookup f = some v ∧
  tv σ H1 fun y H2 => rd v y H2 fun z H3 => ∃ dx' fs', H3 a = some (.ins C dx' fs') ∧ fs'.length < 1000 ∧ D.nx σ (upd H3 a (.ins C dx' (putF f z fs')))

section
variable {X : Cx} {o e value : Expr} {f : Str} {pos pos' tpos : Pos} {ta tv : TE}
theorem pe_fld (he : PE X e ta) (hb : attributeBase e f X.env (eval e X.env) = eval e X.env) : PE X (.Attribute e f pos) (tFld X.K ta f) := by
  intro pins s σ H Q I h
  refine attr_of hb (thn (he pins s σ H _ I h) fun u s1 ⟨x, H1, I1, rx, a, C, dx, fs, v, ex, ea, c, n, l, q⟩ => ?_)
  subst ex
  obtain rfl : u = Value.ref a := rx
  exact getattr_ok I1 ea c n l fun u' s2 I2 ru => ⟨v, H1, I2, ru, q⟩
theorem pe_con (he : PE X e ta) (hb : attributeBase e f X.env (eval e X.env) = eval e X.env) : PE X (.Attribute e f pos) (tCon X.K ta f) := by
  intro pins s σ H Q I h
  refine attr_of hb (thn (he pins s σ H _ I h) fun u s1 ⟨x, H1, I1, rx, a, C, dx, fs, v, u0, ex, ea, c, k, l, q⟩ => ?_)
  subst ex
  obtain rfl : u = Value.ref a := rx
  exact getcon_ok I1 ea c k l fun s2 I2 => ⟨v, H1, I2, k.rel, q⟩
theorem ps_fld (ha : PE X o ta) (hv : PE X value tv) (hs : swapsWith value (some (.Attribute o f pos')) pos.line X.env = pure false) : PS X (.Assign [.Attribute o f pos'] value pos) (sFld X.K ta tv f) := by
  intro pins s σ H D I h
  refine plainObj_wpAny_Assign_Attribute (thn (hv pins s σ H _ I h) fun u s1 ⟨y, H1, I1, ry, q⟩ => thn (ha pins s1 σ H1 _ I1 q) fun ov s2 ⟨x, H2, I2, rx, a, C, dx, fs, ex, ea, c, n, l, q2⟩ => ?_) hs
  subst ex
  obtain rfl : ov = Value.ref a := rx
  exact setattr_ok I2 ea c n l ry fun s3 I3 => ⟨σ, _, I3, q2⟩
theorem ps_fldaug {op : Operator} {rd : V → V → Hp → VK → Prop} (ha : PE X o ta) (hv : PE X value tv) (hop : InOp X op rd) : PS X (.AugAssign (.Attribute o f tpos) op value pos) (sFldAug X.K ta tv rd f) := by
  intro pins s σ H D I h
  refine wpAny_AugAssign_AttributeAny (thn (ha pins s σ H _ I h) fun ov s1 ⟨x, H1, I1, rx, a, C, dx, fs, v, ex, ea, c, n, l, q⟩ => ?_)
  subst ex
  obtain rfl : ov = Value.ref a := rx
  refine getattr_ok I1 ea c n l fun u s2 I2 ru => thn (hv pins s2 σ H1 _ I2 q) fun w3 s3 ⟨y, H2, I3, ry, q3⟩ => thn (hop pins s3 σ H2 v y u w3 _ I3 ru ry q3) fun w4 s4 ⟨z, H3, I4, rz, dx', fs', ea', l', q4⟩ => ?_
  exact setattr_ok I4 ea' c n l' rz fun s5 I5 => ⟨σ, _, I5, q4⟩
def rAdd : V → V → Hp → VK → Prop := fun x y H Q => ∃ i j, x = .int i ∧ y = .int j ∧ Q (.int (i + j)) H
def rSub : V → V → Hp → VK → Prop := fun x y H Q => ∃ i j, x = .int i ∧ y = .int j ∧ Q (.int (i - j)) H
theorem in_add : InOp X .Add rAdd := by
  rintro pins s σ H x y u v Q I rx ry ⟨i, j, rfl, rfl, q⟩
  obtain ⟨t, rfl⟩ := (show ∃ t, u = Value.int i t from rx)
  obtain ⟨t', rfl⟩ := (show ∃ t', v = Value.int j t' from ry)
  exact PyProof.Rows.iadd_int ⟨.int (i + j), H, I.tok _, ⟨_, rfl⟩, q⟩
theorem in_sub : InOp X .Sub rSub := by
  rintro pins s σ H x y u v Q I rx ry ⟨i, j, rfl, rfl, q⟩
  obtain ⟨t, rfl⟩ := (show ∃ t, u = Value.int i t from rx)
  obtain ⟨t', rfl⟩ := (show ∃ t', v = Value.int j t' from ry)
  exact PyProof.Rows.isub_int ⟨.int (i - j), H, I.tok _, ⟨_, rfl⟩, q⟩

/-- what is between an instance and its method: the tree of a method call -/
theorem methcall_of {pl : Sem Bool} {m : Str} {apos : Pos} {args : List Expr} {pins : List (Addr × Obj)} {s : Shared} {σ : St} {H : Hp} {Q : Value → Shared → Prop} {te : TE} (he : PE X e te) (I : Inv X pins σ H s)
    (h : te σ H fun x H1 => ∃ a C dx fs g, x = .ref a ∧ H1 a = some (.ins C dx fs) ∧ Cls X.K C ∧ Meth X.K C m g ∧ fs.lookup m = none ∧
      ∀ s1, Inv X pins σ H1 s1 → wpAny (model X.prog X.w) X.A (callWith pos (.ref g) [.ref a] (backTo pos (starEach args X.env)) (backToKw pos (keywordEach [] X.env))) Q X.xe s1)
    (ht : eval (.Call (.Attribute e m apos) args [] pos) X.env = (do
      let ov ← eval e X.env
      standAt apos.atName
      let (f, first) ← holding [ov] (getMethod ov m pl)
      callWith pos f first (backTo pos (starEach args X.env)) (backToKw pos (keywordEach [] X.env)))) :
    wpAny (model X.prog X.w) X.A (eval (.Call (.Attribute e m apos) args [] pos) X.env) Q X.xe s := by
  refine PySem.W.methodCall_KW (pl := pl) (thn (he pins s σ H _ I h) fun u s1 ⟨x, H1, I1, rx, a, C, dx, fs, g, ex, ea, c, k, l, q⟩ => ?_) ht
  subst ex
  obtain rfl : u = Value.ref a := rx
  exact getmeth_ok I1 ea c k l (q s1 I1)
end

/-! ### isinstance -/
section
variable {X : Cx} {pins : List (Addr × Obj)} {σ : St} {H : Hp} {s : Shared} {A : Around} {E : Value → Shared → Prop} {Q : Value → Shared → Prop} {c : Value} {b : Bool}
/-- the type of a value, as the fragment's deciders take it; for an instance its class -/
inductive TyOf (K : PySem.W.Frag) (H : Hp) : V → Value → Prop where
  | non : TyOf K H .non (.type "NoneType")
  | bl (x : Bool) : TyOf K H (.bl x) (.type "bool")
  | int (i : Int) : TyOf K H (.int i) (.type "int")
  | str (x : Str) : TyOf K H (.str x) (.type "str")
  | flt (x : UInt64) : TyOf K H (.flt x) (.type "float")
  | lst {a : Addr} {xs : List V} (e : H a = some (.lst xs)) : TyOf K H (.ref a) (.type "list")
  | frz {a : Addr} {o : Obj} {xs : List V} (e : H a = some (.frz o (.lst xs))) : TyOf K H (.ref a) (.type "list")
  | tup {a : Addr} {xs : List V} (e : H a = some (.tup xs)) : TyOf K H (.ref a) (.type "tuple")
  | dK {a : Addr} {kvs : List (Key × V)} (e : H a = some (.dK kvs)) : TyOf K H (.ref a) (.type "dict")
  | dT {a : Addr} {kvs : List (List Key × V)} (e : H a = some (.dT kvs)) : TyOf K H (.ref a) (.type "dict")
  | ins {a C dx : Addr} {fs : List (Str × V)} (e : H a = some (.ins C dx fs)) (cl : Cls K C) (ha : PySem.W.findIn K (.ref C) "__class__" = some (some (.builtin "object.__class__")))
      (hn : PySem.W.specialIn K (.builtin "object.__class__") "__get__" = some (some (.builtin "getset_descriptor.__get__"))) (htk : PySem.W.takesIn K (.builtin "object.__class__") = some true)
      (hm : PySem.W.mroIn K C (.type "object") = some true) : TyOf K H (.ref a) (.ref C)
/-- isinstance(x, c) for one class c, a built-in or an own one: kitOne's answer -/
theorem isinst_ok {x : V} {u t : Value} (I : Inv X pins σ H s) (rx : RelV x u) (ty : TyOf X.K H x t) (e : PySem.W.kitOne X.K t c = some b) (h : ∀ tk, Q (.bool b) { s with toks := tk }) :
    wpAny (model X.prog X.w) A (call (.builtin "isinstance") [u, c]) Q E s := by
  cases ty with
  | non => cases (show u = Value.none from rx); exact PySem.W.kia_one PySem.W.kitx_none I.kIn True.intro e (fun z => nomatch z) h
  | bl y => cases (show u = Value.bool y from rx); exact PySem.W.kia_one PySem.W.kitx_bool I.kIn True.intro e (fun z => nomatch z) h
  | int i => obtain ⟨t, q⟩ := (show ∃ t, u = Value.int i t from rx); cases q; exact PySem.W.kia_one PySem.W.kitx_int I.kIn True.intro e (fun z => nomatch z) h
  | str y => obtain ⟨t, q⟩ := (show ∃ t, u = Value.str y t from rx); cases q; exact PySem.W.kia_one PySem.W.kitx_str I.kIn True.intro e (fun z => nomatch z) h
  | flt y => obtain ⟨t, q⟩ := (show ∃ t, u = Value.float y t from rx); cases q; exact PySem.W.kia_one PySem.W.kitx_float I.kIn True.intro e (fun z => nomatch z) h
  | @lst a xs ea =>
    cases (show u = Value.ref a from rx)
    obtain ⟨_, _, n, _, h1⟩ := (show ObjOk X.prog X.w H s.heap a (.lst xs) from I.hok a _ ea)
    exact PySem.W.kia_one PySem.W.kitx_list I.kIn ⟨_, h1, rfl⟩ e (fun z => nomatch z) h
  | @frz a ob xs ea =>
    cases (show u = Value.ref a from rx)
    obtain ⟨_, _, _, n, _, h1⟩ := (show ObjOk X.prog X.w H s.heap a (.frz ob (.lst xs)) from I.hok a _ ea)
    exact PySem.W.kia_one PySem.W.kitx_list I.kIn ⟨_, h1, rfl⟩ e (fun z => nomatch z) h
  | @tup a xs ea =>
    cases (show u = Value.ref a from rx)
    obtain ⟨_, _, _, p⟩ := (show ObjOk X.prog X.w H s.heap a (.tup xs) from I.hok a _ ea)
    obtain ⟨o, h1, h2, _⟩ := p
    exact PySem.W.kia_one PySem.W.kitx_tuple I.kIn ⟨o, h1, h2⟩ e (fun z => nomatch z) h
  | @dK a kvs ea =>
    cases (show u = Value.ref a from rx)
    obtain ⟨_, _, vs, _, p⟩ := (show ObjOk X.prog X.w H s.heap a (.dK kvs) from I.hok a _ ea)
    obtain ⟨o, es, ep, h1, h2, _⟩ := p
    exact PySem.W.kia_one PySem.W.kitx_dict I.kIn ⟨o, h1, h2.1⟩ e (fun z => nomatch z) h
  | @dT a kvs ea =>
    cases (show u = Value.ref a from rx)
    obtain ⟨_, _, xs, _, o, es, ep, h1, h2, _⟩ := (show ObjOk X.prog X.w H s.heap a (.dT kvs) from I.hok a _ ea)
    exact PySem.W.kia_one PySem.W.kitx_dict I.kIn ⟨o, h1, h2.1⟩ e (fun z => nomatch z) h
  | @ins a C dx fs ea cl ha hn htk hm =>
    cases (show u = Value.ref a from rx)
    obtain ⟨mA, O, _⟩ := ins_get I.hok ea
    obtain ⟨od, J, _⟩ := O.look
    exact PySem.W.kia_one (PySem.W.kitx_own (cl.get _) cl.hd ha hn htk hm) I.kIn J e (fun z => nomatch z) h
end
end L2

namespace L2
open PySem PySem.Spec PyProof.Rows

/-! ### room -/
structure Room (k : Nat) (A : Around) : Prop where
  hd : A.handled = none
  dp : A.depth + 3 * k + 5 < recursionLimit
  un : A.units + 16 * k + 200 < cLine
theorem Room.mono {j k : Nat} {A : Around} (r : Room k A) (h : j ≤ k) : Room j A := ⟨r.hd, by have := r.dp; omega, by have := r.un; omega⟩
theorem Room.deeper {k : Nat} {A : Around} (r : Room (k + 1) A) (env : Env) : Room k (A.deeper env) :=
  ⟨r.hd, by have := r.dp; show A.depth + 1 + 3 * k + 5 < _; omega, by have := r.un; show A.units + 3 + 16 * k + 200 < _; omega⟩
theorem Room.in1 {k : Nat} {A : Around} (r : Room (k + 1) A) : Room k A.in1 :=
  ⟨r.hd, by have := r.dp; show A.depth + 3 * k + 5 < _; omega, by have := r.un; show A.units + 1 + 16 * k + 200 < _; omega⟩
theorem make_depth {A : Around} {C : Addr} {us : List Value} {kw : List (Str × Value)} : (A.under (.builtin "type.__call__" ⟨.ref C :: us, kw⟩)).depth = A.depth + 1 := by
  first | rfl | simp [Around.under, Code.weight, Code.isCreation, Code.isGuard, Code.isCaller, Code.frames, Code.isFrame, guardIds]
theorem make_units {A : Around} {C : Addr} {us : List Value} {kw : List (Str × Value)} : (A.under (.builtin "type.__call__" ⟨.ref C :: us, kw⟩)).units = A.units + 1 := by
  first | rfl | simp [Around.under, Code.cUnits, Code.frames, Code.isFrame]
theorem Room.make {k : Nat} {A : Around} (r : Room (k + 1) A) (C : Addr) (us : List Value) (kw : List (Str × Value)) : Room k (A.under (.builtin "type.__call__" ⟨.ref C :: us, kw⟩)) :=
  ⟨r.hd, by have := r.dp; rw [make_depth]; omega, by have := r.un; rw [make_units]; omega⟩
theorem Room.depth {k : Nat} {A : Around} (r : Room k A) : A.depth < recursionLimit := by have := r.dp; omega
theorem Room.units {k : Nat} {A : Around} (r : Room k A) : A.units + 64 < cLine := by have := r.un; omega
theorem Room.units0 {k : Nat} {A : Around} (r : Room k A) : A.units < cLine := by have := r.un; omega

/-! ### argument lists and displays -/
def tNil : TA := fun _ H Q => Q [] H
def tCons (ta : TE) (tr : TA) : TA := fun σ H Q => ta σ H fun x H1 => tr σ H1 fun xs H2 => Q (x :: xs) H2
section
variable {X : Cx} {e : Expr} {es : List Expr} {te : TE} {t : TA} {pos : Pos}
theorem pa_nil : PA X [] tNil := fun _ _ _ _ H Q I h => Calls.spliced_nil ⟨[], H, I, .nil, h⟩
theorem pa_cons (ha : PE X e te) (hr : PA X es t) (hs : starEach (e :: es) X.env = (false, eval e X.env) :: starEach es X.env := by rfl) : PA X (e :: es) (tCons te t) := by
  intro pos pins s σ H Q I h
  rw [hs]
  show wpAny _ _ (spliced ((false, eval e X.env) :: backTo pos (starEach es X.env))) _ _ s
  refine Calls.spliced_cons (thn (ha pins s σ H _ I h) fun u s1 ⟨x, H1, I1, r1, q1⟩ => ?_)
  exact thn (hr pos pins s1 σ H1 _ I1 q1) fun us s2 ⟨xs, H2, I2, r2, q2⟩ => ⟨x :: xs, H2, I2, .cons r1 r2, q2⟩

/-- a tuple, a list of written items -/
def tTup (t : TA) : TE := fun σ H Q => t σ H fun xs H1 => xs.length ≤ sizeLine ∧ ∀ p, H1 p = none → Q (.ref p) (upd H1 p (.tup xs))
def tLst (t : TA) : TE := fun σ H Q => t σ H fun xs H1 => xs.length ≤ sizeLine ∧ ∀ p, H1 p = none → Q (.ref p) (upd H1 p (.lst xs))
theorem pe_tup {x1} (h : PA X es t) : PE X (.Tuple es x1 pos) (tTup t) := by
  intro pins s σ H Q I hq
  refine wpAny_Tuple_spliced (thn (h pos pins s σ H _ I hq) fun us s1 ⟨xs, H1, I1, r, z, q⟩ => ⟨by rw [← r.length]; exact z, ?_⟩)
  have hf : H1 s1.heap.objs.size = none := I1.hok.fresh (Nat.le_refl _)
  refine ⟨.ref s1.heap.objs.size, upd H1 s1.heap.objs.size (.tup xs), I1.laid (t' := s1.toks) (fun b u e => Heap.get?_push_of_some _ e) (Nat.le_refl _) ?_, rfl, q _ hf⟩
  exact ⟨z, us, r, ⟨_, Heap.get?_push_size _ rfl, rfl, _, rfl⟩⟩
theorem pe_lst (h : PA X es t) : PE X (.List es pos) (tLst t) := by
  intro pins s σ H Q I hq
  refine wpAny_List_spliced (thn (h pos pins s σ H _ I hq) fun us s1 ⟨xs, H1, I1, r, z, q⟩ => ⟨by rw [← r.length]; exact z, ?_⟩)
  have hf : H1 s1.heap.objs.size = none := I1.hok.fresh (Nat.le_refl _)
  refine ⟨.ref s1.heap.objs.size, upd H1 s1.heap.objs.size (.lst xs), I1.laid (t' := s1.toks) (fun b u e => Heap.get?_push_of_some _ e) (Nat.le_refl _) ?_, rfl, q _ hf⟩
  exact ⟨z, us, 0, r, Heap.get?_push_size _ rfl⟩
end

/-! ### what a def promises -/
/-- a def's promise: the bound arguments in the parameters' order, the heap, the wanted end, the wanted exception -/
abbrev Sp := List V → Hp → VK → XK → Prop
/-- how an exception lies behind a call (file 08 gives it): the callers' frames, abstract heap and state ahead of the call, the wish, the exception, the state -/
abbrev CXT := List Env → Hp → Shared → XK → Value → Shared → Prop

/-- the state at a call -/
structure Env0 (P : Program) (w : World) (K : PySem.W.Frag) (mg : Str → Option Value) (base : Heap) (A : Around) (outer : List Env) (s : Shared) (H : Hp) : Prop where
  frames : A.frames = some outer
  mod : Mod K mg base
  bs : ∀ b o, base.get? b = some o → s.heap.get? b = some o ∧ H b = none
  bsz : base.objs.size ≤ s.heap.objs.size
  funs : s.heap.FunFrames base outer
  frf : ∀ b ∈ frs outer, H b = none
  hok : HOk P w H s.heap
  bare : AllBare s.gens
/-- a call's end -/
def CE (outer : List Env) (P : Program) (w : World) (H : Hp) (s : Shared) (Q : VK) (u : Value) (s' : Shared) : Prop :=
  ∃ v H', s'.os = s.os ∧ AllBare s'.gens ∧ Un (frs outer) [] H H' s.heap s'.heap ∧ HOk P w H' s'.heap ∧ RelV v u ∧ Q v H'
def CR (CX : CXT) (outer : List Env) (P : Program) (w : World) (H : Hp) (s : Shared) (Q : VK) (E : XK) (r : Result) (s' : Shared) : Prop :=
  match r with
  | .ok (.ret u) => CE outer P w H s Q u s'
  | .ok _ => False
  | .error e => CX outer H s E e s'
structure FnOk (P : Program) (w : World) (K : PySem.W.Frag) (mg : Str → Option Value) (base : Heap) (CX : CXT) (k : Nat) (f : Addr) (fd : FuncData) (ps : List Str) (sp : Sp) : Prop where
  len : ∀ vs H Q E, sp vs H Q E → vs.length = ps.length
  run : ∀ (A : Around) (outer : List Env) (s : Shared) (H : Hp) (args : Args) (us : List Value) (vs : List V) (Q : VK) (E : XK), Room k A → Env0 P w K mg base A outer s H → BindsTo s fd args (ps.zip us) → Vals vs us → sp vs H Q E →
    codeAny (model P w) A (.call (.ref f) args) (CR CX outer P w H s Q E) s
theorem FnOk.mono {P : Program} {w : World} {K : PySem.W.Frag} {mg : Str → Option Value} {base : Heap} {CX : CXT} {j k : Nat} {f : Addr} {fd : FuncData} {ps : List Str} {sp : Sp} (F : FnOk P w K mg base CX j f fd ps sp) (h : j ≤ k) :
    FnOk P w K mg base CX k f fd ps sp := ⟨F.len, fun A outer s H args us vs Q E hr => F.run A outer s H args us vs Q E (hr.mono h)⟩
/-- a weaker promise -/
theorem FnOk.imp {P : Program} {w : World} {K : PySem.W.Frag} {mg : Str → Option Value} {base : Heap} {CX : CXT} {k : Nat} {f : Addr} {fd : FuncData} {ps : List Str} {sp sp' : Sp} (F : FnOk P w K mg base CX k f fd ps sp)
    (h : ∀ vs H Q E, sp' vs H Q E → sp vs H Q E) : FnOk P w K mg base CX k f fd ps sp' :=
  ⟨fun vs H Q E q => F.len vs H Q E (h _ _ _ _ q), fun A outer s H args us vs Q E hr he hb hv hs => F.run A outer s H args us vs Q E hr he hb hv (h _ _ _ _ hs)⟩

theorem Env0.make {P : Program} {w : World} {K : PySem.W.Frag} {mg : Str → Option Value} {base : Heap} {A : Around} {outer : List Env} {s : Shared} {H : Hp} (e : Env0 P w K mg base A outer s H) (C : Addr) (us : List Value) (kw : List (Str × Value)) :
    Env0 P w K mg base (A.under (.builtin "type.__call__" ⟨.ref C :: us, kw⟩)) outer s H := ⟨by first | exact e.frames | (simpa [Around.under, Code.envs, Code.isFrame, pushEnvs] using e.frames), e.mod, e.bs, e.bsz, e.funs, e.frf, e.hok, e.bare⟩
theorem Env0.in1 {P : Program} {w : World} {K : PySem.W.Frag} {mg : Str → Option Value} {base : Heap} {A : Around} {outer : List Env} {s : Shared} {H : Hp} (e : Env0 P w K mg base A outer s H) :
    Env0 P w K mg base A.in1 outer s H := ⟨e.frames, e.mod, e.bs, e.bsz, e.funs, e.frf, e.hok, e.bare⟩

section
variable {X : Cx} {pins : List (Addr × Obj)} {σ : St} {H : Hp} {s s' : Shared}
/-- from a body: what a callee wants -/
theorem Inv.env0 (I : Inv X pins σ H s) : Env0 X.prog X.w X.K X.mg X.base X.A X.stack s H :=
  ⟨I.ok.frames, I.ok.mod, I.bs, Nat.le_trans I.ok.bsz I.sz, I.stack, I.stkFree, I.hok, I.bare⟩
/-- behind a call -/
theorem Inv.after {Q : VK} {u : Value} (I : Inv X pins σ H s) (h : CE X.stack X.prog X.w H s Q u s') : EP X pins σ Q u s' := by
  obtain ⟨v, H', os, bare, un, hok, r, q⟩ := h
  obtain ⟨hh, g, d, t, os'⟩ := s'
  obtain rfl : os' = s.os := os
  exact ⟨v, H', I.call (h' := hh) (g' := g) (d' := d) (t' := t) (ch := []) un hok bare (fun b z => absurd z (by simp)), r, q⟩
end

/-! ### calls -/
/-- f(..): the written arguments, then the defaults dvs; E: what is wanted of an exception -/
def tCall (sp : Sp) (dvs : List V) (E : XK) (t : TA) : TE := fun σ H Q => t σ H fun vs H1 => sp (vs ++ dvs) H1 Q E
/-- o.m(..) of an instance of the class at C -/
def tMeth (C : Addr) (m : Str) (sp : Sp) (dvs : List V) (E : XK) (ta : TE) (t : TA) : TE := fun σ H Q => ta σ H fun x H1 => ∃ a dx fs, x = .ref a ∧ H1 a = some (.ins C dx fs) ∧ fs.lookup m = none ∧
  t σ H1 fun vs H2 => sp (x :: (vs ++ dvs)) H2 Q E
/-- C(..): a new instance and its dict, then __init__ -/
def tMake (C : Addr) (sp : Sp) (dvs : List V) (E : XK) (t : TA) : TE := fun σ H Q => t σ H fun vs H1 => ∀ x dx, H1 x = none → H1 dx = none → dx ≠ x →
  sp (.ref x :: (vs ++ dvs)) (upd (upd H1 dx (.own x)) x (.ins C dx [])) (fun v H2 => v = .non ∧ Q (.ref x) H2) E

/-- how the parameters are bound: us the positional arguments, kw the keywords' values by name, ds the defaults that fill up -/
def Binds (K : PySem.W.Frag) (fd : FuncData) (ps : List Str) (ds : List Value) : Prop :=
  ∀ (s : Shared) (us : List Value), K.In s.heap → (us ++ ds).length = ps.length → BindsTo s fd ⟨us, []⟩ (ps.zip (us ++ ds))
/-- every parameter is given -/
theorem Binds.all {K : PySem.W.Frag} {fd : FuncData} {ps : List Str} (h : ∀ us : List Value, us.length = ps.length → bindArgs fd ⟨us, []⟩ = pure (ps.zip us)) : Binds K fd ps [] := fun s us _ hl => by
  rw [List.append_nil] at hl ⊢
  exact .of_eq (h us hl)

/-- an exception of a callee reaches what this body wants of exceptions -/
def Passes (CX : CXT) (X : Cx) (E : XK) : Prop := ∀ (pins : List (Addr × Obj)) (σ : St) (H : Hp) (s : Shared) (e : Value) (s' : Shared), Inv X pins σ H s → CX X.stack H s E e s' → X.xe e s'

section
variable {X : Cx} {CX : CXT} {k : Nat} {f C : Addr} {fd : FuncData} {ps : List Str} {sp : Sp} {dvs : List V} {ds : List Value} {E : XK} {x m : Str} {p pos apos : Pos} {e o : Expr} {es : List Expr} {ta : TE} {t : TA}

/-- the callee runs -/
theorem run_fn {pins : List (Addr × Obj)} {σ : St} {H : Hp} {s : Shared} {Q : VK} {us : List Value} {vs : List V} (F : FnOk X.prog X.w X.K X.mg X.base CX k f fd ps sp) (hr : Room k X.A) (hb : Binds X.K fd ps ds) (hd : Vals dvs ds) (hx : Passes CX X E)
    (I : Inv X pins σ H s) (r : Vals vs us) (h : sp (vs ++ dvs) H Q E) : wpAny (model X.prog X.w) X.A (call (.ref f) us) (EP X pins σ Q) X.xe s := by
  have r2 : Vals (vs ++ dvs) (us ++ ds) := r.append hd
  have hl : (us ++ ds).length = ps.length := by rw [← r2.length]; exact F.len _ _ _ _ h
  refine wpAny_call (codeAny_mono (F.run X.A X.stack s H ⟨us, []⟩ (us ++ ds) (vs ++ dvs) Q E hr I.env0 (hb s us I.kIn hl) r2 h) fun r s' hq => ?_)
  cases r with
  | error e => exact hx pins σ H s e s' I hq
  | ok fl =>
    cases fl with
    | ret u => exact I.after hq
    | next => exact False.elim hq
    | brk => exact False.elim hq
    | cont => exact False.elim hq

theorem pe_call (F : FnOk X.prog X.w X.K X.mg X.base CX k f fd ps sp) (hr : Room k X.A) (hg : Gl X x) (hm : X.mg x = some (.ref f)) (hk : PySem.W.keepIn X.K (.ref f) = true) (hb : Binds X.K fd ps ds) (hd : Vals dvs ds) (hx : Passes CX X E)
    (ha : PA X (e :: es) t) (hdb : (x == ("__debug__" : Str)) = false := by decide) (he : starEach (e :: es) X.env = (false, eval e X.env) :: starEach es X.env := by rfl) (hpl : (backTo pos (starEach es X.env)).any (·.1) = false := by rfl) :
    PE X (.Call (.Name x p) (e :: es) [] pos) (tCall sp dvs E t) := by
  intro pins s σ H Q I h
  refine wpAny_Call_Name_kw (ld_glob I hg hm ?_ hdb)
  refine PySem.W.callWith_K (h₀ := X.base) I.ok.mod.kin hk (thn (ha pos pins s σ H _ I h) fun us s1 ⟨vs, H1, I1, r, q⟩ => ⟨I1.kIn, ?_⟩) he hpl
  exact run_fn F hr hb hd hx I1 r q
theorem pe_call0 (F : FnOk X.prog X.w X.K X.mg X.base CX k f fd ps sp) (hr : Room k X.A) (hg : Gl X x) (hm : X.mg x = some (.ref f)) (hk : PySem.W.keepIn X.K (.ref f) = true) (hb : Binds X.K fd ps ds) (hd : Vals dvs ds) (hx : Passes CX X E)
    (hdb : (x == ("__debug__" : Str)) = false := by decide) : PE X (.Call (.Name x p) [] [] pos) (tCall sp dvs E tNil) := by
  intro pins s σ H Q I h
  refine wpAny_Call_Name_kw (ld_glob I hg hm ?_ hdb)
  exact PySem.W.callWith_K0 I.kIn hk (run_fn (us := []) F hr hb hd hx I .nil h)

/-- o.m(e, ..) -/
theorem pe_meth {pl : Sem Bool} (he : PE X o ta) (c : Cls X.K C) (hm : Meth X.K C m f) (F : FnOk X.prog X.w X.K X.mg X.base CX k f fd ps sp) (hr : Room k X.A) (hb : Binds X.K fd ps ds) (hd : Vals dvs ds) (hx : Passes CX X E) (ha : PA X (e :: es) t)
    (hst : starEach (e :: es) X.env = (false, eval e X.env) :: starEach es X.env := by rfl) (hpl : (backTo pos (starEach es X.env)).any (·.1) = false := by rfl)
    (ht : eval (.Call (.Attribute o m apos) (e :: es) [] pos) X.env = (do
      let ov ← eval o X.env
      standAt apos.atName
      let (f, first) ← holding [ov] (getMethod ov m pl)
      callWith pos f first (backTo pos (starEach (e :: es) X.env)) (backToKw pos (keywordEach [] X.env))) := by rfl) :
    PE X (.Call (.Attribute o m apos) (e :: es) [] pos) (tMeth C m sp dvs E ta t) := by
  intro pins s σ H Q I h
  refine PySem.W.methodCall_KW (pl := pl) (thn (he pins s σ H _ I h) fun u s1 ⟨x, H1, I1, rx, a, dx, fs, ex, ea, l, q⟩ => ?_) ht
  subst ex
  obtain rfl : u = Value.ref a := rx
  refine getmeth_ok I1 ea c hm l ?_
  refine PySem.W.callWith_K (first := [.ref a]) (h₀ := X.base) I.ok.mod.kin hm.kp (thn (ha pos pins s1 σ H1 _ I1 q) fun us s2 ⟨vs, H2, I2, r, q2⟩ => ⟨I2.kIn, ?_⟩) hst hpl
  exact run_fn (us := .ref a :: us) (vs := .ref a :: vs) F hr hb hd hx I2 (.cons rfl r) q2
/-- o.m() -/
theorem pe_meth0 {pl : Sem Bool} (he : PE X o ta) (c : Cls X.K C) (hm : Meth X.K C m f) (F : FnOk X.prog X.w X.K X.mg X.base CX k f fd ps sp) (hr : Room k X.A) (hb : Binds X.K fd ps ds) (hd : Vals dvs ds) (hx : Passes CX X E)
    (ht : eval (.Call (.Attribute o m apos) [] [] pos) X.env = (do
      let ov ← eval o X.env
      standAt apos.atName
      let (f, first) ← holding [ov] (getMethod ov m pl)
      callWith pos f first (backTo pos (starEach [] X.env)) (backToKw pos (keywordEach [] X.env))) := by rfl) :
    PE X (.Call (.Attribute o m apos) [] [] pos) (tMeth C m sp dvs E ta tNil) := by
  intro pins s σ H Q I h
  refine PySem.W.methodCall_KW (pl := pl) (thn (he pins s σ H _ I h) fun u s1 ⟨x, H1, I1, rx, a, dx, fs, ex, ea, l, q⟩ => ?_) ht
  subst ex
  obtain rfl : u = Value.ref a := rx
  refine getmeth_ok I1 ea c hm l ?_
  exact PySem.W.callWith_K0 (first := [.ref a]) I1.kIn hm.kp (run_fn (us := [.ref a]) (vs := [.ref a]) F hr hb hd hx I1 (.cons rfl .nil) q)

/-- what a class must have to be made -/
structure Mk (K : PySem.W.Frag) (C f : Addr) : Prop where
  makes : PySem.W.makesIn K C = true
  init : PySem.W.findIn K (.ref C) "__init__" = some (some (.ref f))
  fn : PySem.W.isFn K (.ref f) = true
  kp : PySem.W.keepIn K (.ref C) = true

theorem run_make {pins : List (Addr × Obj)} {σ : St} {H : Hp} {s : Shared} {Q : VK} {us : List Value} {vs : List V} (M : Mk X.K C f) (F : FnOk X.prog X.w X.K X.mg X.base CX k f fd ps sp) (hr : Room (k + 1) X.A) (hb : Binds X.K fd ps ds) (hd : Vals dvs ds)
    (hx : Passes CX X E) (I : Inv X pins σ H s) (r : Vals vs us)
    (h : ∀ x dx, H x = none → H dx = none → dx ≠ x → sp (.ref x :: (vs ++ dvs)) (upd (upd H dx (.own x)) x (.ins C dx [])) (fun v H2 => v = .non ∧ Q (.ref x) H2) E) :
    wpAny (model X.prog X.w) X.A (call (.ref C) us) (EP X pins σ Q) X.xe s := by
  have hq := h (s.heap.objs.size + 1) s.heap.objs.size (I.hok.fresh (Nat.le_succ _)) (I.hok.fresh (Nat.le_refl _)) (Nat.ne_of_lt (Nat.lt_succ_self _))
  have I2 := Inv.made (C := C) I
  have r2 : Vals (V.ref (s.heap.objs.size + 1) :: (vs ++ dvs)) (Value.ref (s.heap.objs.size + 1) :: (us ++ ds)) := .cons rfl (r.append hd)
  have hl : (Value.ref (s.heap.objs.size + 1) :: us ++ ds).length = ps.length := by
    have e := r2.length
    rw [F.len _ _ _ _ hq] at e
    exact e.symm
  refine wpAny_call (make_map (f := f) I.kIn M.makes M.init (beq_iff_eq.mp M.fn) (codeAny_mono (F.run _ X.stack _ _ ⟨Value.ref (s.heap.objs.size + 1) :: us, []⟩ (Value.ref (s.heap.objs.size + 1) :: (us ++ ds)) _ _ E (hr.make C us [])
    (I2.env0.make C us []) (hb _ (Value.ref (s.heap.objs.size + 1) :: us) I2.kIn hl) r2 hq) fun r s' hq' => ?_))
  cases r with
  | error e => exact hx pins σ _ _ e s' I2 hq'
  | ok fl =>
    cases fl with
    | ret u =>
      obtain ⟨v, H', I3, rv, ev, q3⟩ := I2.after hq'
      subst ev
      exact ⟨rv, ⟨V.ref (s.heap.objs.size + 1), H', I3, rfl, q3⟩⟩
    | next => exact False.elim hq'
    | brk => exact False.elim hq'
    | cont => exact False.elim hq'
theorem pe_make (M : Mk X.K C f) (F : FnOk X.prog X.w X.K X.mg X.base CX k f fd ps sp) (hr : Room (k + 1) X.A) (hg : Gl X x) (hm : X.mg x = some (.ref C)) (hb : Binds X.K fd ps ds) (hd : Vals dvs ds) (hx : Passes CX X E)
    (ha : PA X (e :: es) t) (hdb : (x == ("__debug__" : Str)) = false := by decide) (he : starEach (e :: es) X.env = (false, eval e X.env) :: starEach es X.env := by rfl) (hpl : (backTo pos (starEach es X.env)).any (·.1) = false := by rfl) :
    PE X (.Call (.Name x p) (e :: es) [] pos) (tMake C sp dvs E t) := by
  intro pins s σ H Q I h
  refine wpAny_Call_Name_kw (ld_glob I hg hm ?_ hdb)
  refine PySem.W.callWith_K (h₀ := X.base) I.ok.mod.kin M.kp (thn (ha pos pins s σ H _ I h) fun us s1 ⟨vs, H1, I1, r, q⟩ => ⟨I1.kIn, ?_⟩) he hpl
  exact run_make M F hr hb hd hx I1 r q
theorem pe_make0 (M : Mk X.K C f) (F : FnOk X.prog X.w X.K X.mg X.base CX k f fd ps sp) (hr : Room (k + 1) X.A) (hg : Gl X x) (hm : X.mg x = some (.ref C)) (hb : Binds X.K fd ps ds) (hd : Vals dvs ds) (hx : Passes CX X E)
    (hdb : (x == ("__debug__" : Str)) = false := by decide) : PE X (.Call (.Name x p) [] [] pos) (tMake C sp dvs E tNil) := by
  intro pins s σ H Q I h
  refine wpAny_Call_Name_kw (ld_glob I hg hm ?_ hdb)
  exact PySem.W.callWith_K0 I.kIn M.kp (run_make (us := []) M F hr hb hd hx I .nil h)
end

/-! ### keywords -/
/-- the values of the keywords, from the left -/
def PK (X : Cx) (kws : List Keyword) (t : TA) : Prop :=
  ∀ (pos : Pos) (pins : List (Addr × Obj)) (s : Shared) (σ : St) (H : Hp) (Q : List V → Hp → Prop), Inv X pins σ H s → t σ H Q → wpAny (model X.prog X.w) X.A (evalAll ((backToKw pos (keywordEach kws X.env)).map (·.2))) (AP X pins σ Q) X.xe s
section
variable {X : Cx} {CX : CXT} {k : Nat} {f C : Addr} {fd : FuncData} {ps ks : List Str} {sp : Sp} {E : XK} {x m : Str} {p pos apos kpos : Pos} {e o : Expr} {es : List Expr} {kws : List Keyword} {te ta : TE} {t tk : TA} {nm : Option Str}
theorem pk_nil : PK X [] tNil := fun _ _ _ _ H Q I h => wpAny_evalAll_nil ⟨[], H, I, .nil, h⟩
theorem pk_cons (ha : PE X e te) (hr : PK X kws t) : PK X (⟨nm, e, kpos⟩ :: kws) (tCons te t) := by
  intro pos pins s σ H Q I h
  show wpAny _ _ (evalAll ((do let v ← eval e X.env; standAt pos; pure v) :: (backToKw pos (keywordEach kws X.env)).map (·.2))) _ _ s
  refine wpAny_evalAll_cons (wpAny_bind (thn (ha pins s σ H _ I h) fun u s1 ⟨x, H1, I1, r1, q1⟩ => wpAny_bind (wpAny_standAt (wpAny_pure ?_))))
  exact thn (hr pos pins s1 σ H1 _ I1 q1) fun us s2 ⟨xs, H2, I2, r2, q2⟩ => ⟨x :: xs, H2, I2, .cons r1 r2, q2⟩

/-- how a call with keywords binds: g puts the positional values us and the keywords' values ws (names ks) in the parameters' order, defaults among them -/
structure KBinds (K : PySem.W.Frag) (fd : FuncData) (ps ks : List Str) (g : List Value → List Value → List Value) (gV : List V → List V → List V) : Prop where
  to : ∀ (s : Shared) (us ws : List Value), K.In s.heap → (g us ws).length = ps.length → BindsTo s fd ⟨us, ks.zip ws⟩ (ps.zip (g us ws))
  rel : ∀ {vs : List V} {us : List Value} {zs : List V} {ws : List Value}, Vals vs us → Vals zs ws → Vals (gV vs zs) (g us ws)
def tCallK (sp : Sp) (gV : List V → List V → List V) (E : XK) (t tk : TA) : TE := fun σ H Q => t σ H fun vs H1 => tk σ H1 fun zs H2 => sp (gV vs zs) H2 Q E
variable {g : List Value → List Value → List Value} {gV : List V → List V → List V}
theorem run_fnk {pins : List (Addr × Obj)} {σ : St} {H : Hp} {s : Shared} {Q : VK} {us ws : List Value} {vs zs : List V} (F : FnOk X.prog X.w X.K X.mg X.base CX k f fd ps sp) (hr : Room k X.A) (hb : KBinds X.K fd ps ks g gV) (hx : Passes CX X E)
    (I : Inv X pins σ H s) (r : Vals vs us) (rz : Vals zs ws) (h : sp (gV vs zs) H Q E) : wpAny (model X.prog X.w) X.A (call (.ref f) us (ks.zip ws)) (EP X pins σ Q) X.xe s := by
  have r2 := hb.rel r rz
  have hl : (g us ws).length = ps.length := by rw [← r2.length]; exact F.len _ _ _ _ h
  refine wpAny_call (codeAny_mono (F.run X.A X.stack s H ⟨us, ks.zip ws⟩ (g us ws) (gV vs zs) Q E hr I.env0 (hb.to s us ws I.kIn hl) r2 h) fun r s' hq => ?_)
  cases r with
  | error e => exact hx pins σ H s e s' I hq
  | ok fl =>
    cases fl with
    | ret u => exact I.after hq
    | next => exact False.elim hq
    | brk => exact False.elim hq
    | cont => exact False.elim hq
/-- f(e, .., k = v, ..) -/
theorem pe_callK (F : FnOk X.prog X.w X.K X.mg X.base CX k f fd ps sp) (hr : Room k X.A) (hg : Gl X x) (hm : X.mg x = some (.ref f)) (hk : PySem.W.keepIn X.K (.ref f) = true) (hb : KBinds X.K fd ps ks g gV) (hx : Passes CX X E)
    (ha : PA X (e :: es) t) (hkw : PK X kws tk) (hall : (backToKw pos (keywordEach kws X.env)).all (·.1.isSome) = true := by rfl) (hks : (backToKw pos (keywordEach kws X.env)).filterMap (·.1) = ks := by rfl)
    (hdb : (x == ("__debug__" : Str)) = false := by decide) (he : starEach (e :: es) X.env = (false, eval e X.env) :: starEach es X.env := by rfl)
    (hpl : ((backTo pos (starEach (e :: es) X.env)).any (·.1) || (backToKw pos (keywordEach kws X.env)).any (·.1.isNone)) = false := by rfl) :
    PE X (.Call (.Name x p) (e :: es) kws pos) (tCallK sp gV E t tk) := by
  intro pins s σ H Q I h
  refine wpAny_Call_Name_kw (ld_glob I hg hm ?_ hdb)
  refine PySem.W.callWith_KW (h₀ := X.base) I.ok.mod.kin hk hall (thn (ha pos pins s σ H _ I h) fun us s1 ⟨vs, H1, I1, r, q⟩ => ?_) hpl he
  refine thn (hkw pos pins s1 σ H1 _ I1 q) fun ws s2 ⟨zs, H2, I2, rz, q2⟩ => ⟨I2.kIn, ?_⟩
  rw [hks]
  exact run_fnk F hr hb hx I2 r rz q2
end

/-! ### a def's body keeps its promise -/
/-- names: the parameters first -/
structure FnScope (N P : List Str) (sc : Scope) : Prop where
  kind : sc.kind = .function
  co : sc.isCoroutine = false
  gen : sc.isGenerator = false
  nd : N.Nodup
  pre : N.take P.length = P
  par : ∀ x ∈ P, sc.names.lookup x = some .local ∨ sc.names.lookup x = some .cell
  nofree : ∀ y ∈ sc.names, y.2 ≠ .free

theorem bindL_out {kindOf : Str → Option NameKind} {x : Str} : ∀ {binds : List (Str × Value)} {m : Str → Option Value}, (∀ v, (x, v) ∉ binds) → bindL kindOf binds m x = m x
  | [], _, _ => rfl
  | (n, v) :: r, m, h => by
    unfold bindL
    rw [bindL_out fun w hw => h w (List.mem_cons_of_mem _ hw)]
    split
    · have : x ≠ n := by rintro rfl; exact h v List.mem_cons_self
      simp [this]
    · rfl
theorem bindC_out {kindOf : Str → Option NameKind} {x : Str} : ∀ {binds : List (Str × Value)} {m : Str → Option Value}, (∀ v, (x, v) ∉ binds) → bindC kindOf binds m x = m x
  | [], _, _ => rfl
  | (n, v) :: r, m, h => by
    unfold bindC
    rw [bindC_out fun w hw => h w (List.mem_cons_of_mem _ hw)]
    split
    · rfl
    · have : x ≠ n := by rintro rfl; exact h v List.mem_cons_self
      simp [this]
theorem bindL_get {kindOf : Str → Option NameKind} {x : Str} {v : Value} : ∀ {P : List Str} {vs : List Value} {i : Nat} {m : Str → Option Value}, P.Nodup → P[i]? = some x → vs[i]? = some v → kindOf x = some .local →
    bindL kindOf (P.zip vs) m x = some v
  | [], _, _, _, _, h, _, _ => by simp at h
  | _ :: _, [], _, _, _, _, h, _ => by simp at h
  | p :: P, w :: vs, 0, m, nd, h1, h2, hk => by
    simp at h1 h2; subst h1; subst h2
    show bindL kindOf ((p, w) :: P.zip vs) m p = _
    unfold bindL
    rw [bindL_out fun v hv => (List.nodup_cons.mp nd).1 (List.of_mem_zip hv).1, if_pos hk]
    simp
  | p :: P, w :: vs, i + 1, m, nd, h1, h2, hk => by
    show bindL kindOf ((p, w) :: P.zip vs) m x = _
    unfold bindL
    exact bindL_get (i := i) (List.nodup_cons.mp nd).2 (by simpa using h1) (by simpa using h2) hk
theorem bindC_get {kindOf : Str → Option NameKind} {x : Str} {v : Value} : ∀ {P : List Str} {vs : List Value} {i : Nat} {m : Str → Option Value}, P.Nodup → P[i]? = some x → vs[i]? = some v → kindOf x ≠ some .local →
    bindC kindOf (P.zip vs) m x = some v
  | [], _, _, _, _, h, _, _ => by simp at h
  | _ :: _, [], _, _, _, _, h, _ => by simp at h
  | p :: P, w :: vs, 0, m, nd, h1, h2, hk => by
    simp at h1 h2; subst h1; subst h2
    show bindC kindOf ((p, w) :: P.zip vs) m p = _
    unfold bindC
    rw [bindC_out fun v hv => (List.nodup_cons.mp nd).1 (List.of_mem_zip hv).1, if_neg hk]
    simp
  | p :: P, w :: vs, i + 1, m, nd, h1, h2, hk => by
    show bindC kindOf ((p, w) :: P.zip vs) m x = _
    unfold bindC
    exact bindC_get (i := i) (List.nodup_cons.mp nd).2 (by simpa using h1) (by simpa using h2) hk

/-- the names' values at the entry -/
def start (N : List Str) (vs : List V) : St := vs.map some ++ List.replicate (N.length - vs.length) none

/-- the context of a def's body, at its entry; an exception leaves the frame, then lies as CX says -/
def cxOf (CX : CXT) (P : Program) (w : World) (K : PySem.W.Frag) (mg : Str → Option Value) (base : Heap) (N : List Str) (qual : Str) (scope : Scope) (f : Addr) (cd : Value) (A : Around) (outer : List Env) (s : Shared) (H : Hp) (E : XK) : Cx where
  prog := P
  w := w
  K := K
  mg := mg
  base := base
  A := A.deeper (envOfC qual scope s.heap.objs.size f cd)
  N := N
  s₀ := s
  H₀ := H
  env := envOfC qual scope s.heap.objs.size f cd
  outer := outer
  stack := envOfC qual scope s.heap.objs.size f cd :: outer
  ex := []
  calm := true
  fn := fun _ => true
  pn := []
  xe := fun e s' => wpAny (model P w) (A.deeper (envOfC qual scope s.heap.objs.size f cd)) (leaving (envOfC qual scope s.heap.objs.size f cd) e) (fun _ s'' => CX outer H s E e s'') (fun e' s'' => CX outer H s E e' s'') s'

theorem cell_has {sc : Scope} {n : Nat} {x : Str} (h : sc.names.lookup x = some .cell) : ∃ c, (cellsFrom n sc.names []).lookup x = some c := by
  have q := PySem.W.cellsFrom_some sc.names n [] (.inl h)
  exact Option.isSome_iff_exists.mp q

theorem inv_start {CX : CXT} {P : Program} {w : World} {K : PySem.W.Frag} {mg : Str → Option Value} {base : Heap} {N ps : List Str} {qual : Str} {scope : Scope} {f : Addr} {cd : Value} {A : Around} {outer : List Env} {s s1 : Shared} {H : Hp} {E : XK} {us : List Value} {vs : List V}
    (S : FnScope N ps scope) (hd : A.handled = none) (e0 : Env0 P w K mg base A outer s H) (hl : vs.length = ps.length) (r : Vals vs us)
    (x : InCallC s s.heap.objs.size (bindL (envOfC qual scope s.heap.objs.size f cd).kindOf (ps.zip us) fun _ => none) (cellsFrom (s.heap.objs.size + 1) scope.names []) (bindC (envOfC qual scope s.heap.objs.size f cd).kindOf (ps.zip us) fun _ => none) s1) :
    Inv (cxOf CX P w K mg base N qual scope f cd A outer s H E) [] (start N vs) H s1 := by
  have hpl : ps.length ≤ N.length := by have := congrArg List.length S.pre; rw [List.length_take] at this; omega
  obtain ⟨h1, tk, rfl, hk⟩ := x.done
  have noA : ∀ b : Addr, b ∉ (cxOf CX P w K mg base N qual scope f cd A outer s H E).ex := fun b z => absurd (show b ∈ ([] : List Addr) from z) (by simp)
  refine ⟨⟨e0.mod, S.kind, rfl, rfl, Nat.le_refl _, fun y z c h1 h2 => ?_, fun y hy => ?_, fun y c _ h => ?_, fun _ => hd, Around.frames_deeper e0.frames, .inr ⟨rfl, rfl⟩, fun b z => absurd z (noA b), e0.bs, e0.bsz, fun b _ _ => noA b, fun b z => absurd z (noA b), e0.funs, e0.frf⟩,
    rfl, e0.bare, Un.kept hk, ⟨_, x.toInCall.ns, fun i y v h1 h2 h3 => ?_⟩, fun y c h => ⟨_, x.cell y c h⟩, e0.hok.fresh (Nat.le_refl _), fun y c h => ?_, fun p hp => absurd (show p ∈ ([] : List (Addr × Obj)) from hp) (by simp), e0.hok.kept hk, ?_⟩
  · exact name_of_addr x.apart (PySem.mem_of_lookup h1) (PySem.mem_of_lookup h2)
  · have hy : scope.names.lookup y = some .cell ∨ scope.names.lookup y = some .free := hy
    rcases hy with hy | hy
    · exact cell_has hy
    · exact absurd rfl (S.nofree _ (PySem.mem_of_lookup hy))
  · exact Nat.le_of_lt (x.above y c (PySem.mem_of_lookup h))
  · have hi : i < vs.length := by
      unfold start at h2
      by_cases hi : i < vs.length
      · exact hi
      · rw [List.getElem?_append_right (by simpa using hi)] at h2
        rw [List.getElem?_replicate] at h2
        split at h2 <;> cases h2
    have ha : vs[i]? = some v := by
      unfold start at h2
      rw [List.getElem?_append_left (by simpa using hi), List.getElem?_map] at h2
      cases e : vs[i]? with
      | none => rw [e] at h2; cases h2
      | some a => rw [e] at h2; cases h2; rfl
    obtain ⟨u, hu, rv⟩ := r.get ha
    have hp : ps[i]? = some y := by
      rw [← S.pre, List.getElem?_take_of_lt (by omega)]; exact h1
    have ndP : ps.Nodup := by rw [← S.pre]; exact S.nd.sublist (List.take_sublist _ _)
    refine ⟨u, rv, ?_⟩
    rcases S.par y (List.mem_of_getElem? hp) with k | k
    · exact .inl ⟨k, bindL_get ndP hp hu k⟩
    · obtain ⟨c, e⟩ := cell_has (n := s.heap.objs.size + 1) k
      refine .inr ⟨.inl k, c, e, ?_⟩
      have q := x.cell y c e
      rw [bindC_get ndP hp hu (by show scope.names.lookup y ≠ _; rw [k]; decide)] at q
      exact q
  · exact e0.hok.fresh (Nat.le_of_lt (x.above y c (PySem.mem_of_lookup h)))
  · unfold start
    show _ = N.length
    rw [List.length_append, List.length_map, List.length_replicate]
    omega

/-- THE RULE: a def (or a method) of the text, by its body. The body's reading t is chosen for each entry; it is run at the parameters' values -/
theorem fn_of {CX : CXT} {P : Program} {w : World} {K : PySem.W.Frag} {mg : Str → Option Value} {base : Heap} {k : Nat} {f : Addr} {name qual : Str} {params : Arguments} {body : List Stmt} {scope : Scope} {dV kV doc pm cdv ct oc : Value} {an od : Option Addr}
    {osl : Array (Option Value)} {N ps : List Str} {sp : Sp} (lk : K.lookup f = some ⟨oc, od, .func (PySem.W.fnOf name qual params body scope dV kV doc pm an cdv ct), osl⟩) (hcd : PySem.W.codeIn K cdv qual = true) (S : FnScope N ps scope)
    (len : ∀ vs H Q E, sp vs H Q E → vs.length = ps.length)
    (hbody : ∀ (A : Around) (outer : List Env) (s : Shared) (H : Hp) (vs : List V) (Q : VK) (E : XK), Room k (A.deeper (envOfC qual scope s.heap.objs.size f cdv)) → sp vs H Q E →
      ∃ t, PSs (cxOf CX P w K mg base N qual scope f cdv A outer s H E) body t ∧ t { nx := fun _ H' => Q .non H', rt := Q } (start N vs) H) :
    FnOk P w K mg base CX (k + 1) f (PySem.W.fnOf name qual params body scope dV kV doc pm an cdv ct) ps sp := by
  refine ⟨len, fun A outer s H args us vs Q E hr e0 hb r hsp => ?_⟩
  have hl := len _ _ _ _ hsp
  have KX : K.In s.heap := e0.mod.kin.keeps fun b o e => (e0.bs b o e).1
  have lim : s.heap.NoLimit := e0.mod.nolimit.keeps fun b o e => (e0.bs b o e).1
  have hkind : ∀ y ∈ ps.zip us, scope.names.lookup y.1 = some .local ∨ (scope.names.lookup y.1 = some .cell ∧ ((cellsFrom (s.heap.objs.size + 1) scope.names []).lookup y.1).isSome = true) := fun ⟨n, v⟩ hy => by
    rcases S.par n (List.of_mem_zip hy).1 with q | q
    · exact .inl q
    · exact .inr ⟨q, PySem.W.cellsFrom_some _ _ _ (.inl q)⟩
  refine codeAny_call_function hr.depth (KX _ _ lk) rfl S.co S.gen rfl (PySem.W.codeRec_of KX hcd) (hb _ _ _ _ ?_)
  refine wpAny_newFunctionEnv_cells S.kind hkind fun env he s1 x => ?_
  subst he
  refine ⟨lim.keeps x.toInCall.keep, codeAny_func ?_⟩
  obtain ⟨t, ht, hq⟩ := hbody A outer s H vs Q E (hr.deeper _) hsp
  have I : Inv (cxOf CX P w K mg base N qual scope f cdv A outer s H E) [] (start N vs) H s1 := inv_start S hr.hd e0 hl r x
  refine wpAny_mono (ht [] s1 (start N vs) H _ I hq) (fun fl s' hs => ?_) fun e s' hs => hs
  have fin : ∀ {σ' : St} {H' : Hp} {v : V} {u : Value}, Inv (cxOf CX P w K mg base N qual scope f cdv A outer s H E) [] σ' H' s' → RelV v u → Q v H' → CE outer P w H s Q u s' :=
    fun {σ' H' v u} J rv q => ⟨v, H', J.os, J.bare, J.base, J.hok, rv, q⟩
  cases fl with
  | ret u =>
    obtain ⟨v, σ', H', J, rv, q⟩ := hs
    exact fin J rv q
  | next =>
    obtain ⟨σ', H', J, q⟩ := hs
    exact fin (v := V.non) (u := Value.none) J rfl q
  | brk =>
    obtain ⟨_, _, _, q⟩ := hs
    exact False.elim q
  | cont =>
    obtain ⟨_, _, _, q⟩ := hs
    exact False.elim q
end L2

namespace L2
open PySem PySem.Spec PyProof.Rows
section
variable {X : Cx} {x : Str} {p pos : Pos} {e : Expr} {es : List Expr} {t : TA} {id T : String} {r : List V → Hp → VK → Prop}

def tCB (r : List V → Hp → VK → Prop) (t : TA) : TE := fun σ H Q => t σ H fun vs H1 => r vs H1 Q
/-- f(e, ..), f a built-in function -/
theorem pe_callB (hc : CallR X (.builtin id) r) (hg : Gl X x) (hm : X.mg x = none) (hv : bootBuiltins x = some (.builtin id)) (ha : PA X (e :: es) t) (hn : x ≠ "__name__" := by decide) (hdb : (x == ("__debug__" : Str)) = false := by decide)
    (he : starEach (e :: es) X.env = (false, eval e X.env) :: starEach es X.env := by rfl) (hpl : (backTo pos (starEach es X.env)).any (·.1) = false := by rfl) : PE X (.Call (.Name x p) (e :: es) [] pos) (tCB r t) := by
  intro pins s σ H Q I h
  refine wpAny_Call_Name_kw (ld_blt I hg hm hv ?_ hn hdb)
  exact PyProof.Rows.callWith_builtin1 (thn (ha pos pins s σ H _ I h) fun us s1 ⟨vs, H1, I1, r1, q1⟩ => hc pins s1 σ H1 vs us Q I1 r1 q1) he hpl
/-- T(e, ..), T a built-in type -/
theorem pe_callTy (hc : CallR X (.type T) r) (hg : Gl X x) (hm : X.mg x = none) (hv : bootBuiltins x = some (.type T)) (ha : PA X (e :: es) t) (hn : x ≠ "__name__" := by decide) (hdb : (x == ("__debug__" : Str)) = false := by decide)
    (he : starEach (e :: es) X.env = (false, eval e X.env) :: starEach es X.env := by rfl) (hpl : (backTo pos (starEach es X.env)).any (·.1) = false := by rfl) : PE X (.Call (.Name x p) (e :: es) [] pos) (tCB r t) := by
  intro pins s σ H Q I h
  refine wpAny_Call_Name_kw (ld_blt I hg hm hv ?_ hn hdb)
  exact PyProof.Rows.callWith_type1 (thn (ha pos pins s σ H _ I h) fun us s1 ⟨vs, H1, I1, r1, q1⟩ => hc pins s1 σ H1 vs us Q I1 r1 q1) he hpl
/-- T() -/
theorem pe_callTy0 (hc : CallR X (.type T) r) (hg : Gl X x) (hm : X.mg x = none) (hv : bootBuiltins x = some (.type T)) (hn : x ≠ "__name__" := by decide) (hdb : (x == ("__debug__" : Str)) = false := by decide) :
    PE X (.Call (.Name x p) [] [] pos) (tCB r tNil) := by
  intro pins s σ H Q I h
  refine wpAny_Call_Name_kw (ld_blt I hg hm hv ?_ hn hdb)
  exact PyProof.Rows.callWith_type0 (hc pins s σ H [] [] Q I .nil h)
end
end L2

namespace HT
open PySem PyProof.Rows

/-- t < u of tuples of ints -/
def lexLt : List Int → List Int → Bool
  | [], [] => false
  | [], _ :: _ => true
  | _ :: _, [] => false
  | x :: xs, y :: ys => if x = y then lexLt xs ys else decide (x < y)
theorem lexLt_cons (x y : Int) (xs ys : List Int) : lexLt (x :: xs) (y :: ys) = if x = y then lexLt xs ys else decide (x < y) := rfl
theorem lexLt_nil_nil : lexLt [] [] = false := rfl
theorem lexLt_nil_cons (y : Int) (ys : List Int) : lexLt [] (y :: ys) = true := rfl
theorem lexLt_cons_nil (x : Int) (xs : List Int) : lexLt (x :: xs) [] = false := rfl

theorem eqAt_int (A : Around) (s : Shared) (a : Int) (t : Tok) (c : Int) (u : Tok) : ∃ e, SeqAt.EqAt A s (.int a t) (.int c u) e ∧ (e = true ↔ a = c) :=
  ⟨(a == c), SeqAt.EqAt.int_int a t c u, by simp⟩
theorem rcLt_int (A : Around) (s : Shared) (a : Int) (t : Tok) (c : Int) (u : Tok) (prog : Program) (w : World) (E : Value → Shared → Prop) (Q : Value → Shared → Prop) (h : Q (.bool (decide (a < c))) s) :
    wpAny (model prog w) A (richCompare .Lt (.int a t) (.int c u)) Q E s :=
  (PyProof.Rows.lt_int h : wpAny (model prog w) A (compareOp .Lt (.int a t) (.int c u)) Q E s)

section
open PySem.SeqAt
open PySem.AutoSeq1 (wpAny_loadPart')
open PySem.MeetsSeq PySem.MeetsSeq2 PySem.MeetsSeq3

theorem tuple_lt_ints (l b : Addr) (items items2 : Array Value) (n n2 : Nat) (dd dd2 : Option Addr) (sl sl2 : Array (Option Value)) (ns ms : List Int) (hi : IntsAre items.toList ns) (hj : IntsAre items2.toList ms) :
    Meets (Builtin.«tuple.__lt__» ⟨[.ref l, .ref b], []⟩)
      (fun _ R s => s.heap.get? l = some { cls := .type "tuple", dict := dd, data := .seq items n, slots := sl } ∧ s.heap.get? b = some { cls := .type "tuple", dict := dd2, data := .seq items2 n2, slots := sl2 } ∧
        R (.ok (.ret (.bool (lexLt ns ms)))) s) :=
  .of_wp fun prog w A R s h => by
    obtain ⟨hp, g, d, tk, os⟩ := s; obtain ⟨hl, hb, h⟩ := h
    have f2 := AutoSeq1.sub_tuple_tuple
    have z1 : items.size = ns.length := by rw [← hi.length]; simp
    have z2 : items2.size = ms.length := by rw [← hj.length]; simp
    wp_walk using wpAny_loadPart' hl, wpAny_loadPart' hb, wpAny_forIn_list _ (fun rest b s' => b.1 = none ∧ s' = ⟨hp, g, d, tk, os⟩ ∧ ∃ (vs ws : List Value) (ns' ms' : List Int), rest = vs.zip ws ∧
      IntsAre vs ns' ∧ IntsAre ws ms' ∧ ns'.length + items2.size = ms'.length + items.size ∧ R (.ok (.ret (.bool (lexLt ns' ms')))) ⟨hp, g, d, tk, os⟩) _
    case turn =>
      rintro ⟨y, x⟩ rest b s' ⟨hb', rfl, vs, ws, ns', ms', hz, hvi, hwi, hlen, hR⟩
      cases hvi with
      | nil => rw [List.zip_nil_left] at hz; cases hz
      | cons a t hvi' =>
        cases hwi with
        | nil => rw [List.zip_nil_right] at hz; cases hz
        | cons c u hwi' =>
          rw [List.zip_cons_cons] at hz
          injection hz with hyx hrest
          injection hyx with hy hx
          subst hy hx
          rw [lexLt_cons] at hR
          simp only [List.length_cons] at hlen
          obtain ⟨e, he, hiff⟩ := eqAt_int A.in1 ⟨hp, g, d, tk, os⟩ a t c u
          refine wpAny_bind (he prog w _ _ ?_)
          cases e with
          | true =>
            rw [if_pos (hiff.mp rfl)] at hR
            wp_walk
            exact ⟨rfl, rfl, _, _, _, _, hrest, hvi', hwi', by omega, hR⟩
          | false =>
            rw [if_neg (fun q => absurd (hiff.mpr q) Bool.false_ne_true)] at hR
            have hri := rcLt_int A.in1 ⟨hp, g, d, tk, os⟩ a t c u prog w
            wp_walk using hri
            exact ⟨_, rfl, by simpa using hR⟩
    case fin =>
      rintro ⟨b1, b2⟩ s' ⟨hb', rfl, vs, ws, ns', ms', hz, hvi, hwi, hlen, hR⟩
      simp only at hb'
      subst hb'
      have hv : lexLt ns' ms' = decide (items.size < items2.size) := by
        cases hvi with
        | nil =>
          cases hwi with
          | nil =>
            simp only [List.length_nil] at hlen
            rw [lexLt_nil_nil]
            exact (decide_eq_false (by omega)).symm
          | cons c u hw =>
            simp only [List.length_nil, List.length_cons] at hlen
            rw [lexLt_nil_cons]
            exact (decide_eq_true (by omega)).symm
        | cons a t hv =>
          cases hwi with
          | nil =>
            simp only [List.length_nil, List.length_cons] at hlen
            rw [lexLt_cons_nil]
            exact (decide_eq_false (by omega)).symm
          | cons c u hw =>
            rw [List.zip_cons_cons] at hz
            cases hz
      rw [hv] at hR
      wp_walk
      exact ⟨_, rfl, by simpa [Builtin.Tuple.tupleCompareSizes] using hR⟩
    case h =>
      exact ⟨rfl, rfl, items.toList, items2.toList, ns, ms, rfl, hi, hj, by omega, h⟩
end

section
variable {prog : Program} {w : World} {A : Around} {E : Value → Shared → Prop} {s : Shared}

theorem lt_tupInts {l b : Addr} {items items2 : Array Value} {ns ms : List Int} {Q : Value → Shared → Prop} (hl : IsTup s.heap l items) (hb : IsTup s.heap b items2) (hi : IntsAre items.toList ns) (hj : IntsAre items2.toList ms)
    (hu : A.units < cLine) (h : Q (.bool (lexLt ns ms)) s) : wpAny (model prog w) A (compareOp .Lt (.ref l) (.ref b)) Q E s := by
  obtain ⟨⟨cls, dd, data, sl⟩, ho, hc, n, hd⟩ := id hl
  obtain ⟨⟨cls2, dd2, data2, sl2⟩, ho2, hc2, n2, hd2⟩ := id hb
  simp only at hc hd hc2 hd2
  subst hc hd hc2 hd2
  exact richCompare_meets_room (op := .Lt) ⟨_, ho, rfl⟩ ⟨_, ho2, rfl⟩ PySem.F.slot_tuple_lt PySem.F.entry_tuple_lt (PySem.F.args_tuple_lt_2 _ _) (tuple_lt_ints l b items items2 n n2 dd dd2 sl sl2 ns ms hi hj)
    ⟨ho, ho2, show Value.bool (lexLt ns ms) ≠ Value.notImplemented ∧ Q (.bool (lexLt ns ms)) s from ⟨(fun x => nomatch x), h⟩⟩ hu

/-- t + u, t not empty -/
theorem cat_tup {t b : Addr} {vs ws : List Value} {Q : Value → Shared → Prop} (ht : IsTup s.heap t vs.toArray) (hb : IsTup s.heap b ws.toArray) (hv : vs ≠ [])
    (h1 : ws = [] → Q (.ref t) s) (h2 : ws ≠ [] → Q (.ref s.heap.objs.size) { s with heap := s.heap.push { cls := .type "tuple", data := .seq (vs ++ ws).toArray } })
    (hsz : vs.length + ws.length ≤ sizeLine) : wpAny (model prog w) A (binaryOp .Add (.ref t) (.ref b)) Q E s := by
  obtain ⟨⟨cls, dd, data, sl⟩, ho, hc, n, hd⟩ := id ht
  obtain ⟨⟨cls2, dd2, data2, sl2⟩, ho2, hc2, n2, hd2⟩ := id hb
  simp only at hc hd hc2 hd2
  subst hc hd hc2 hd2
  have e : vs.toArray ++ ws.toArray = (vs ++ ws).toArray := by simp
  by_cases hw : ws = []
  · exact concat_meets ⟨_, ho, rfl⟩ ⟨_, ho2, rfl⟩ noFill_tuple_add seq_tuple_add PySem.F.slot_tuple_add PySem.F.entry_tuple_add (PySem.F.args_tuple_add_2 _ _)
      (tuple_addW1 t b vs.toArray ws.toArray n n2 dd dd2 sl sl2 (by simpa using hv) (by simp [hw])) ⟨ho, ho2, h1 hw⟩
  · refine concat_meets ⟨_, ho, rfl⟩ ⟨_, ho2, rfl⟩ noFill_tuple_add seq_tuple_add PySem.F.slot_tuple_add PySem.F.entry_tuple_add (PySem.F.args_tuple_add_2 _ _)
      (tuple_addW2 t b vs.toArray ws.toArray n n2 dd dd2 sl sl2 (by simpa using hv) (by simpa using hw) (by rw [List.size_toArray, List.size_toArray]; exact hsz)) ⟨ho, ho2, ?_⟩
    rw [e]
    exact h2 hw

/-! ### t[a:b], not the whole -/
/-- a slice's bound as a place among n (d where it is left out) -/
def sIx (n d : Nat) : Option Int → Nat
  | none => d
  | some v => if v < 0 then (v + (n : Int)).toNat else min v.toNat n
theorem sIx_none (n d : Nat) : sIx n d none = d := rfl
theorem sIx_nat (n d k : Nat) : sIx n d (some (k : Int)) = min k n := by
  show (if (k : Int) < 0 then ((k : Int) + (n : Int)).toNat else min (k : Int).toNat n) = min k n
  rw [if_neg (by omega), Int.toNat_natCast]
theorem sIx_le (n d : Nat) (hd : d ≤ n) (o : Option Int) : sIx n d o ≤ n := by
  cases o with
  | none => exact hd
  | some v =>
    show (if v < 0 then (v + (n : Int)).toNat else min v.toNat n) ≤ n
    by_cases hv : v < 0
    · rw [if_pos hv]; omega
    · rw [if_neg hv]; exact Nat.min_le_right _ _
theorem clip_eq (v : Int) (n d : Nat) : (if v < 0 then max (v + (n : Int)) 0 else min v (n : Int)) = ((sIx n d (some v) : Nat) : Int) := by
  show (if v < 0 then max (v + (n : Int)) 0 else min v (n : Int)) = (((if v < 0 then (v + (n : Int)).toNat else min v.toNat n) : Nat) : Int)
  by_cases hv : v < 0
  · simp only [if_pos hv]; omega
  · simp only [if_neg hv]; omega
theorem adjust_gen (lo hi : Option Int) (n : Nat) : Builtin.Slice.sliceAdjust lo hi 1 (n : Int) = (((sIx n 0 lo : Nat) : Int), ((sIx n n hi : Nat) : Int)) := by
  have h1 : ¬ ((1 : Int) < 0) := by omega
  unfold Builtin.Slice.sliceAdjust
  simp only [h1, if_false]
  refine Prod.ext ?_ ?_
  · cases lo with
    | none => rfl
    | some v => exact clip_eq v n 0
  · cases hi with
    | none => rfl
    | some v => exact clip_eq v n n
theorem places_gen (i j : Nat) : Builtin.Slice.slicePlaces (i : Int) (j : Int) 1 = j - i := by
  unfold Builtin.Slice.slicePlaces
  have h1 : (1 : Int) > 0 := by omega
  simp only [h1, if_true, Int.ediv_one]
  split <;> omega
theorem slicePart_ {v : Value} {o : Option Int} {Q : Option Int → Shared → Prop} (p : IsPart v o) (h : Q o s) : wpAny (model prog w) A (Builtin.Slice.slicePartIndex v) Q E s := by
  cases p with
  | none => exact slicePart_none h
  | int i t => exact slicePart_int h
theorem sliceApplied_gen {sl : Addr} {vl vu : Value} {lo hi : Option Int} {n : Nat} {Q : Int × Int × Nat → Shared → Prop} (hs : s.heap.IsSliceOf sl vl vu .none) (pl : IsPart vl lo) (pu : IsPart vu hi)
    (h : Q (((sIx n 0 lo : Nat) : Int), 1, sIx n n hi - sIx n 0 lo) s) : wpAny (model prog w) A (Builtin.Slice.sliceApplied (.ref sl) (pure (n : Int))) Q E s := by
  obtain ⟨os, hos, hcs, hds⟩ := id hs
  unfold Builtin.Slice.sliceApplied Builtin.Slice.sliceFields
  refine wpAny_bind (wpAny_bind (wpAny_field hos hds (x := vl) rfl (wpAny_bind (wpAny_field hos hds (x := vu) rfl (wpAny_bind (wpAny_field hos hds (x := .none) rfl (wpAny_pure ?_)))))))
  refine wpAny_bind (slicePart_none ?_)
  show wpAny _ _ (if ((1 : Int) == 0) = true then _ else _) _ _ s
  rw [if_neg (by decide)]
  refine wpAny_bind (slicePart_ pl (wpAny_bind (slicePart_ pu (wpAny_bind (wpAny_pure ?_)))))
  show wpAny _ _ (match Builtin.Slice.sliceAdjust lo hi 1 (n : Int) with | (lo, hi) => pure (lo, (1 : Int), Builtin.Slice.slicePlaces lo hi 1)) _ _ s
  rw [adjust_gen lo hi n]
  show wpAny _ _ (pure (((sIx n 0 lo : Nat) : Int), (1 : Int), Builtin.Slice.slicePlaces ((sIx n 0 lo : Nat) : Int) ((sIx n n hi : Nat) : Int) 1)) _ _ s
  rw [places_gen]
  exact wpAny_pure h
theorem pick_gen (xs : Array Value) (i k : Nat) : ((List.range k).filterMap fun (m : Nat) => xs[((i : Int) + (m : Int) * 1).toNat]?).toArray = ((xs.toList.drop i).take k).toArray := by
  have e : (fun (m : Nat) => xs[((i : Int) + (m : Int) * 1).toNat]?) = fun m => xs[i + m]? := by
    funext m
    have : ((i : Int) + (m : Int) * 1).toNat = i + m := by omega
    rw [this]
  rw [e]
  have := pick_run xs i k
  rw [List.filterMap_map] at this
  have e2 : ((fun x => xs[x]?) ∘ fun x => i + x) = fun m => xs[i + m]? := rfl
  rw [e2] at this
  rw [this]

theorem getItem_tuple_cut {t sl : Addr} {items : Array Value} {vl vu : Value} {lo hi : Option Int} {Q : Value → Shared → Prop} (ht : IsTup s.heap t items) (hs : s.heap.IsSliceOf sl vl vu .none) (pl : IsPart vl lo) (pu : IsPart vu hi)
    (hw : ¬ (sIx items.size 0 lo = 0 ∧ sIx items.size items.size hi = items.size))
    (h : Q (.ref s.heap.objs.size) { s with heap := s.heap.push { cls := .type "tuple", data := .seq ((items.toList.drop (sIx items.size 0 lo)).take (sIx items.size items.size hi - sIx items.size 0 lo)).toArray } })
    (hsz : items.size ≤ sizeLine) : wpAny (model prog w) A (getItem (.ref t) (.ref sl)) Q E s := by
  have htake : sizeOk (.seq ((items.toList.drop (sIx items.size 0 lo)).take (sIx items.size items.size hi - sIx items.size 0 lo)).toArray) := by
    show ((items.toList.drop (sIx items.size 0 lo)).take (sIx items.size items.size hi - sIx items.size 0 lo)).toArray.size ≤ sizeLine
    rw [List.size_toArray, List.length_take, List.length_drop, Array.length_toList]
    omega
  have hj : sIx items.size items.size hi ≤ items.size := sIx_le _ _ (Nat.le_refl _) hi
  obtain ⟨os, hos, hcs, hds⟩ := id hs
  have hTs : s.TypeIs (.ref sl) "slice" := ⟨os, hos, hcs⟩
  unfold getItem
  try with_reducible refine wpAny_holding ?_
  first | refine wpAny_bind (wpAny_pure ?_) | skip
  refine wpAny_bind (wpAny_sequenceKey ht.typeIs (by decide) ?_)
  refine wpAny_bind (wpAny_callSpecial?_slot (name := Str.ofString "__getitem__") ht.typeIs PyProof.Rows.slot_tuple_getitem
    (wpAny_call_entry PyProof.Rows.slot_tuple_getitem ht.typeIs entry_tuple_getitem ?_ (args_tuple_getitem _ _)))
  show wpAny _ _ (Builtin.Tuple.tupleItemsOf (.ref t) >>= _) _ _ s
  refine wpAny_bind (tupleItemsOf_ ht ?_)
  refine wpAny_bind (wpAny_typeOf hTs ?_)
  rw [if_pos (by decide)]
  refine wpAny_bind (sliceApplied_gen hs pl pu ?_)
  have hno : ¬ ((((sIx items.size 0 lo : Nat) : Int) == 0 && (1 : Int) == 1 && (sIx items.size items.size hi - sIx items.size 0 lo) == items.size) = true) := by
    intro q
    rw [Bool.and_eq_true, Bool.and_eq_true] at q
    have q1 : ((sIx items.size 0 lo : Nat) : Int) = 0 := eq_of_beq q.1.1
    have q2 : sIx items.size items.size hi - sIx items.size 0 lo = items.size := eq_of_beq q.2
    exact hw ⟨by omega, by omega⟩
  show wpAny _ _ (if (((sIx items.size 0 lo : Nat) : Int) == 0 && (1 : Int) == 1 && (sIx items.size items.size hi - sIx items.size 0 lo) == items.size) = true then _ else _) _ _ s
  rw [if_neg hno, pick_gen]
  first
    | exact wpAny_bind (m := Builtin.Tuple.tupleExact _) (wpAny_newObj_type (wpAny_pure ⟨_, rfl, wpAny_pure h⟩) htake)
    | exact wpAny_bind (m := Builtin.Tuple.tupleExact _) (wpAny_newObj_type (wpAny_bind (wpAny_pure (wpAny_pure ⟨_, rfl, wpAny_pure h⟩))) htake)
    | exact wpAny_bind (wpAny_bind (m := Builtin.Tuple.tupleExact _) (wpAny_newObj_type (wpAny_pure (wpAny_pure ⟨_, rfl, wpAny_pure h⟩)) htake))
    | exact wpAny_bind (wpAny_bind (m := Builtin.Tuple.tupleExact _) (wpAny_newObj_type (wpAny_pure ⟨_, rfl, wpAny_pure h⟩) htake))
end
end HT

namespace L2
open PySem PySem.Spec PyProof.Rows

/-! ### the parts of a slice -/
abbrev TO := St → Hp → (Option Int → Hp → Prop) → Prop
/-- a slice's part (left out, or an int) -/
def PO (X : Cx) (e : Option Expr) (t : TO) : Prop :=
  ∀ (pins : List (Addr × Obj)) (s : Shared) (σ : St) (H : Hp) (Q : Option Int → Hp → Prop), Inv X pins σ H s → t σ H Q →
    wpAny (model X.prog X.w) X.A (evalPart e X.env) (fun u s' => ∃ o H', Inv X pins σ H' s' ∧ IsPart u o ∧ Q o H') X.xe s
def tNoPart : TO := fun _ H Q => Q none H
def tPart (t : TE) : TO := fun σ H Q => t σ H fun x H1 => ∃ i, x = .int i ∧ Q (some i) H1

theorem intsAre_of {ns : List Int} : ∀ {us : List Value}, Vals (ns.map V.int) us → IntsAre us ns := by
  induction ns with
  | nil => intro us r; rw [List.map_nil] at r; cases r; exact .nil
  | cons n ns ih =>
    intro us r
    rw [List.map_cons] at r
    cases r with
    | cons r1 r2 =>
      obtain ⟨t, e⟩ := r1
      subst e
      exact .cons n t (ih r2)

section
variable {X : Cx} {e : Expr} {te : TE} {lo hi : Option Expr} {tl th : TO} {pos p2 : Pos}

theorem po_none : PO X none tNoPart := by
  intro pins s σ H Q I h
  rw [evalPart_none]
  exact wpAny_pure ⟨none, H, I, .none, h⟩
theorem po_some (h : PE X e te) : PO X (some e) (tPart te) := by
  intro pins s σ H Q I hw
  rw [evalPart_some]
  refine thn (h pins s σ H _ I hw) fun u s1 ⟨x, H1, I1, r1, q1⟩ => ?_
  obtain ⟨i, rfl, q⟩ := q1
  obtain ⟨t, rfl⟩ := r1
  exact ⟨some i, H1, I1, .int i t, q⟩

/-- what a slice of a value is, by values: the slice object stands at sl -/
def SlR (X : Cx) (r : V → Option Int → Option Int → Hp → VK → Prop) : Prop :=
  ∀ (pins : List (Addr × Obj)) (s : Shared) (σ : St) (H : Hp) (x : V) (v vl vu : Value) (lo hi : Option Int) (sl : Addr) (Q : VK), Inv X pins σ H s → RelV x v → s.heap.IsSliceOf sl vl vu .none → IsPart vl lo → IsPart vu hi → r x lo hi H Q →
    ∃ T id, typeLookup (.type T) "__getitem__" = pure (some (.builtin id)) ∧ s.TypeIs v T ∧ wpAny (model X.prog X.w) X.A (getItem v (.ref sl)) (EP X pins σ Q) X.xe s
theorem SlR.or {r r' : V → Option Int → Option Int → Hp → VK → Prop} (h : SlR X r) (h' : SlR X r') : SlR X (fun x lo hi H Q => r x lo hi H Q ∨ r' x lo hi H Q) := by
  intro pins s σ H x v vl vu lo hi sl Q I rx hs pl pu q
  rcases q with q | q
  · exact h pins s σ H x v vl vu lo hi sl Q I rx hs pl pu q
  · exact h' pins s σ H x v vl vu lo hi sl Q I rx hs pl pu q
def tSl (r : V → Option Int → Option Int → Hp → VK → Prop) (te : TE) (tl th : TO) : TE := fun σ H Q => te σ H fun x H1 => tl σ H1 fun l H2 => th σ H2 fun u H3 => r x l u H3 Q
/-- a[lo:hi], any a -/
theorem pe_slice {r : V → Option Int → Option Int → Hp → VK → Prop} (hr : SlR X r) (he : PE X e te) (hl : PO X lo tl) (hu : PO X hi th) : PE X (.Subscript e (.Slice lo hi none p2) pos) (tSl r te tl th) := by
  intro pins s σ H Q I h
  refine Subscript_ (thn (he pins s σ H _ I h) fun v s1 ⟨x, H1, I1, r1, q1⟩ => ?_)
  refine wpAny_Slice (thn (hl pins s1 σ H1 _ I1 q1) fun vl s2 ⟨l, H2, I2, pl, q2⟩ => thn (hu pins s2 σ H2 _ I2 q2) fun vu s3 ⟨u, H3, I3, pu, q3⟩ => ?_)
  rw [evalPart_none]
  refine wpAny_pure ?_
  have I4 : Inv X pins σ H3 { s3 with heap := s3.heap.push { cls := .type "slice", data := .fields #[vl, vu, .none] } } := I3.kept (t' := s3.toks) fun b ob q => Heap.get?_push_of_some _ q
  obtain ⟨T, id, hT, ht, hg⟩ := hr pins { s3 with heap := s3.heap.push { cls := .type "slice", data := .fields #[vl, vu, .none] } } σ H3 x v vl vu l u s3.heap.objs.size Q I4 r1 (Heap.IsSliceOf.new ..) pl pu q3
  show wpAny (model X.prog X.w) X.A (subscriptTail e (.Slice lo hi none p2) v (.ref s3.heap.objs.size)) (EP X pins σ Q) X.xe { s3 with heap := s3.heap.push { cls := .type "slice", data := .fields #[vl, vu, .none] } }
  exact tail_any (ops := [.ref s3.heap.objs.size, v]) ht hT hg (by with_unfolding_all rfl)

/-- the items of xs[lo:hi] -/
def cutV (xs : List V) (lo hi : Option Int) : List V := (xs.drop (HT.sIx xs.length 0 lo)).take (HT.sIx xs.length xs.length hi - HT.sIx xs.length 0 lo)
theorem cutV_length (xs : List V) (lo hi : Option Int) : (cutV xs lo hi).length ≤ xs.length := by
  unfold cutV
  rw [List.length_take, List.length_drop]
  omega
/-- t[lo:hi], not the whole of it (the whole would be t itself) -/
def rSlT (K : PySem.W.Frag) : V → Option Int → Option Int → Hp → VK → Prop := fun x lo hi H Q => ∃ a xs, x = .ref a ∧ SqT K H a xs ∧
  ¬ (HT.sIx xs.length 0 lo = 0 ∧ HT.sIx xs.length xs.length hi = xs.length) ∧ ∀ p, H p = none → Q (.ref p) (upd H p (.tup (cutV xs lo hi)))
theorem sl_tup : SlR X (rSlT X.K) := by
  intro pins s σ H x v vl vu lo hi sl Q I rx hs pl pu h
  obtain ⟨a, xs, rfl, hx, hw, q⟩ := h
  cases rx
  obtain ⟨its, r, ht, hz⟩ := I.tuple hx
  have hlen : its.toArray.size = xs.length := by rw [List.size_toArray]; exact r.length.symm
  refine ⟨"tuple", _, PyProof.Rows.slot_tuple_getitem.lookup, ht.typeIs, ?_⟩
  refine HT.getItem_tuple_cut ht hs pl pu (by rw [hlen]; exact hw) ?_ (by rw [hlen]; exact hz)
  rw [hlen]
  refine ⟨.ref s.heap.objs.size, _, I.laid (t' := s.toks) (o := .tup (cutV xs lo hi)) (fun b ob q => Heap.get?_push_of_some _ q) (Nat.le_refl _) ?_, rfl, q _ (I.hok.fresh (Nat.le_refl _))⟩
  exact ⟨Nat.le_trans (cutV_length xs lo hi) hz, _, (r.drop (HT.sIx xs.length 0 lo)).take (HT.sIx xs.length xs.length hi - HT.sIx xs.length 0 lo), IsTup.new _ _⟩

/-! ### t < u, t + u -/
def rLtT (K : PySem.W.Frag) : R2 := fun x y H Q => ∃ a b ns ms, x = .ref a ∧ y = .ref b ∧ SqT K H a (ns.map V.int) ∧ SqT K H b (ms.map V.int) ∧ Q (.bl (HT.lexLt ns ms)) H
theorem op_ltT (hu : X.A.units < cLine) : OpR X (compareOp .Lt) (rLtT X.K) := by
  intro pins s σ H x y v u Q I rx ry h
  obtain ⟨a, b, ns, ms, rfl, rfl, ha, hb, q⟩ := h
  cases rx
  cases ry
  obtain ⟨its, r1, p1, _⟩ := I.tuple ha
  obtain ⟨its2, r2, p2, _⟩ := I.tuple hb
  have i1 : IntsAre its.toArray.toList ns := intsAre_of r1
  have i2 : IntsAre its2.toArray.toList ms := intsAre_of r2
  exact HT.lt_tupInts p1 p2 i1 i2 hu ⟨.bl (HT.lexLt ns ms), H, I, rfl, q⟩
/-- t + u, t not empty: u empty gives t itself -/
def rCatT (K : PySem.W.Frag) : R2 := fun x y H Q => ∃ a b xs ys, x = .ref a ∧ y = .ref b ∧ SqT K H a xs ∧ SqT K H b ys ∧ xs ≠ [] ∧ xs.length + ys.length ≤ sizeLine ∧
  (ys = [] → Q (.ref a) H) ∧ (ys ≠ [] → ∀ p, H p = none → Q (.ref p) (upd H p (.tup (xs ++ ys))))
theorem Vals.nil_iff {xs : List V} {us : List Value} (r : Vals xs us) : us = [] ↔ xs = [] := by
  cases r with
  | nil => simp
  | cons _ _ => simp
theorem op_catT : OpR X (binaryOp .Add) (rCatT X.K) := by
  intro pins s σ H x y v u Q I rx ry h
  obtain ⟨a, b, xs, ys, rfl, rfl, ha, hb, hx, hz, q1, q2⟩ := h
  cases rx
  cases ry
  obtain ⟨its, r1, p1, _⟩ := I.tuple ha
  obtain ⟨its2, r2, p2, _⟩ := I.tuple hb
  refine HT.cat_tup p1 p2 (fun z => hx (r1.nil_iff.mp z)) (fun z => ⟨.ref a, H, I, rfl, q1 (r2.nil_iff.mp z)⟩) (fun z => ?_) (by rw [← r1.length, ← r2.length]; exact hz)
  refine ⟨.ref s.heap.objs.size, _, I.laid (t' := s.toks) (o := .tup (xs ++ ys)) (fun b ob q => Heap.get?_push_of_some _ q) (Nat.le_refl _) ?_, rfl, q2 (fun w => z (r2.nil_iff.mpr w)) _ (I.hok.fresh (Nat.le_refl _))⟩
  exact ⟨by rw [List.length_append]; exact hz, _, r1.append r2, IsTup.new _ _⟩
/-- tuple(t) -/
theorem call_tupleT : CallR X (.type "tuple") (fun xs H Q => ∃ a ys, xs = [.ref a] ∧ SqT X.K H a ys ∧ Q (.ref a) H) := by
  intro pins s σ H xs us Q I r h
  obtain ⟨a, ys, rfl, ha, q⟩ := h
  obtain ⟨u, rfl, ru⟩ := vals1 r
  cases ru
  obtain ⟨its, _, p1, _⟩ := I.tuple ha
  exact call_tuple_same (items := its.toArray) p1 ⟨.ref a, H, I, rfl, q⟩
end
end L2

namespace L2
open PySem PySem.Spec PyProof.Rows

/-! ### places -/
/-- the place that an index of any sign means -/
def ixN (n : Nat) (i : Int) : Option Nat := if 0 ≤ i then (if i < n then some i.toNat else none) else if -(n : Int) ≤ i then some (i + n).toNat else none
def atI {α : Type} (xs : List α) (i : Int) : Option α := (ixN xs.length i).bind fun j => xs[j]?
theorem ixN_seq {n : Nat} {i : Int} {j : Nat} (h : ixN n i = some j) : seqIndex? i n = some j ∧ j < n ∧ -(n : Int) ≤ i ∧ i < n := by
  unfold ixN at h
  by_cases h0 : 0 ≤ i
  · rw [if_pos h0] at h
    by_cases h1 : i < n
    · rw [if_pos h1] at h
      have e : i.toNat = j := Option.some.inj h
      exact ⟨by rw [seqIndex_of h0 h1, e], by omega, by omega, h1⟩
    · rw [if_neg h1] at h; cases h
  · rw [if_neg h0] at h
    by_cases h1 : -(n : Int) ≤ i
    · rw [if_pos h1] at h
      have e : (i + n).toNat = j := Option.some.inj h
      exact ⟨by rw [seqIndex_neg (by omega) h1, e], by omega, h1, by omega⟩
    · rw [if_neg h1] at h; cases h
theorem atI_get {α : Type} {xs : List α} {i : Int} {v : α} (h : atI xs i = some v) : ∃ j, seqIndex? i xs.length = some j ∧ xs[j]? = some v ∧ j < xs.length ∧ -(xs.length : Int) ≤ i ∧ i < xs.length := by
  unfold atI at h
  cases e : ixN xs.length i with
  | none => rw [e] at h; cases h
  | some j =>
    rw [e] at h
    obtain ⟨h1, h2, h3, h4⟩ := ixN_seq e
    exact ⟨j, h1, h, h2, h3, h4⟩
theorem atI_nat {α : Type} {xs : List α} {j : Nat} {v : α} (h : xs[j]? = some v) : atI xs (j : Int) = some v := by
  have hj : j < xs.length := (List.getElem?_eq_some_iff.mp h).1
  have e : ixN xs.length (j : Int) = some j := by
    unfold ixN
    rw [if_pos (by omega), if_pos (by omega)]; simp
  unfold atI; rw [e]; exact h
theorem atI_last {α : Type} (xs : List α) (v : α) : atI (xs ++ [v]) (-1) = some v := by
  have hl : (xs ++ [v]).length = xs.length + 1 := by simp
  have e : ixN (xs ++ [v]).length (-1) = some xs.length := by
    unfold ixN
    rw [hl, if_neg (by decide), if_pos (by omega)]
    congr 1
    omega
  unfold atI
  rw [e]
  show (xs ++ [v])[xs.length]? = some v
  simp

/-! ### what may be subscripted -/
/-- what stands as an index of a plain subscript -/
def PlainIx (b : Expr) : Prop := ∀ o i, subscripted b false o i = operate [o, i] (getItem o i)
/-- a subscript by values -/
def IxR (X : Cx) (r : R2) : Prop :=
  ∀ (value slice : Expr) (pins : List (Addr × Obj)) (s : Shared) (σ : St) (H : Hp) (x y : V) (v u : Value) (Q : VK), Inv X pins σ H s → RelV x v → RelV y u → r x y H Q →
    subscripted slice false v u = operate [v, u] (getItem v u) → wpAny (model X.prog X.w) X.A (subscriptTail value slice v u) (EP X pins σ Q) X.xe s
/-- a call of a builtin's method by values: the receiver, the arguments -/
def MtR (X : Cx) (id : String) (r : V → List V → Hp → VK → Prop) : Prop :=
  ∀ (pins : List (Addr × Obj)) (s : Shared) (σ : St) (H : Hp) (x : V) (xs : List V) (v : Value) (us : List Value) (Q : VK), Inv X pins σ H s → RelV x v → Vals xs us → r x xs H Q →
    wpAny (model X.prog X.w) X.A (call (.builtin id) (v :: us)) (EP X pins σ Q) X.xe s
section
variable {X : Cx} {a b : Expr} {ta tb : TE} {pos : Pos}
theorem IxR.or {r r' : R2} (h : IxR X r) (h' : IxR X r') : IxR X (fun x y H Q => r x y H Q ∨ r' x y H Q) := by
  intro value slice pins s σ H x y v u Q I rx ry q hs
  rcases q with q | q
  · exact h value slice pins s σ H x y v u Q I rx ry q hs
  · exact h' value slice pins s σ H x y v u Q I rx ry q hs
theorem MtR.or {id : String} {r r' : V → List V → Hp → VK → Prop} (h : MtR X id r) (h' : MtR X id r') : MtR X id (fun x xs H Q => r x xs H Q ∨ r' x xs H Q) := by
  intro pins s σ H x xs v us Q I rx rs q
  rcases q with q | q
  · exact h pins s σ H x xs v us Q I rx rs q
  · exact h' pins s σ H x xs v us Q I rx rs q
/-- a[b] -/
theorem pe_ix {r : R2} (hr : IxR X r) (ha : PE X a ta) (hb : PE X b tb) (hs : PlainIx b) : PE X (.Subscript a b pos) (tOp r ta tb) := by
  intro pins s σ H Q I h
  exact Subscript_ (binT ha hb I h fun v u s2 x y H2 I2 rx ry q => hr a b pins s2 σ H2 x y v u Q I2 rx ry q (hs _ _))

def rIxL (K : PySem.W.Frag) : R2 := fun x y H Q => ∃ p xs i v, x = .ref p ∧ y = .int i ∧ SqL K H p xs ∧ atI xs i = some v ∧ Q v H
def rIxT (K : PySem.W.Frag) : R2 := fun x y H Q => ∃ p xs i v, x = .ref p ∧ y = .int i ∧ SqT K H p xs ∧ atI xs i = some v ∧ Q v H
def rIxS : R2 := fun x y H Q => ∃ z i c, x = .str z ∧ y = .int i ∧ z.length ≤ sizeLine ∧ atI z.cps.toList i = some c ∧ Q (.str ⟨#[c]⟩) H
theorem ix_list : IxR X (rIxL X.K) := by
  intro value slice pins s σ H x y v u Q I rx ry h hs
  obtain ⟨p, xs, i, z, rfl, rfl, hq, he, q⟩ := h
  cases rx
  obtain ⟨t, rfl⟩ := ry
  obtain ⟨its, r, pl, hz⟩ := I.list hq
  obtain ⟨j, h1, h2, h3, h4, h5⟩ := atI_get he
  obtain ⟨w, ew, rw'⟩ := r.get h2
  have hl := r.length
  have hn := line63
  have fin : EP X pins σ Q w s := ⟨z, H, I, rw', q⟩
  by_cases h0 : 0 ≤ i
  · have hj : i.toNat = j := by
      rw [seqIndex_of h0 h5] at h1
      exact Option.some.inj h1
    exact item_listR pl.isList h0 (by omega) (by rw [hj]; simpa using ew) fin hs
  · have hj : (i + (its.toArray.size : Int)).toNat = j := by
      rw [seqIndex_neg (by omega) h4] at h1
      rw [List.size_toArray, ← hl]
      exact Option.some.inj h1
    exact subscriptTail_builtinR (x := w) pl.isList.typeIs slot_list_getitem.lookup
      (wpAny_getItem_list_neg (Q := fun r s' => r = w ∧ EP X pins σ Q r s') pl.isList (by omega) (by rw [List.size_toArray] <;> omega) (by omega) (by rw [hj]; simpa using ew) ⟨rfl, fin⟩) hs
theorem ix_tup : IxR X (rIxT X.K) := by
  intro value slice pins s σ H x y v u Q I rx ry h hs
  obtain ⟨p, xs, i, z, rfl, rfl, hq, he, q⟩ := h
  cases rx
  obtain ⟨t, rfl⟩ := ry
  obtain ⟨its, r, pl, hz⟩ := I.tuple hq
  obtain ⟨j, h1, h2, h3, h4, h5⟩ := atI_get he
  obtain ⟨w, ew, rw'⟩ := r.get h2
  have hl := r.length
  have hn := line63
  have fin : EP X pins σ Q w s := ⟨z, H, I, rw', q⟩
  exact subscriptTail_builtinR (x := w) pl.typeIs slot_tuple_getitem.lookup
    (getItem_tuple (j := j) (Q := fun r s' => r = w ∧ EP X pins σ Q r s') pl (by omega) (by omega) (by rw [List.size_toArray, ← hl]; exact h1) (by simpa using ew) ⟨rfl, fin⟩) hs
theorem ix_str : IxR X rIxS := by
  intro value slice pins s σ H x y v u Q I rx ry h hs
  obtain ⟨z, i, c, rfl, rfl, hz, he, q⟩ := h
  obtain ⟨t, rfl⟩ := rx
  obtain ⟨t', rfl⟩ := ry
  obtain ⟨j, h1, h2, h3, h4, h5⟩ := atI_get he
  have hl : z.cps.toList.length = z.length := by simp [Str.length]
  rw [hl] at h1 h4 h5
  have hn := line63
  exact tail_any (typeIs_str s z t) slot_str_getitem.lookup (getItem_str (c := c) (by
    have e1 : decide (i < -(2 ^ 63 : Int)) = false := decide_eq_false (by omega)
    have e2 : decide (i ≥ 2 ^ 63) = false := decide_eq_false (by omega)
    rw [e1, e2, Bool.or_false]) (by rw [h1]; simpa using h2) ⟨.str ⟨#[c]⟩, H, I.tok _, ⟨_, rfl⟩, q⟩) hs
/-- list, tuple or str -/
def rIx (K : PySem.W.Frag) : R2 := fun x y H Q => rIxL K x y H Q ∨ rIxT K x y H Q ∨ rIxS x y H Q
theorem ix_seq : IxR X (rIx X.K) := ix_list.or (ix_tup.or ix_str)

/-! ### xs[i] = v, any sign -/
/-- the list's object behind a store -/
theorem mapSeq_set (its : List Value) (n j : Nat) (u : Value) : Obj.mapSeq (·.setIfInBounds j u) { cls := .type "list", data := .seq its.toArray n } = { cls := .type "list", data := .seq (its.set j u).toArray n } := by
  simp [Obj.mapSeq]
theorem Inv.lst {pins : List (Addr × Obj)} {σ : St} {H : Hp} {s : Shared} {p : Addr} {xs : List V} (I : Inv X pins σ H s) (h : H p = some (.lst xs)) :
    ∃ (its : List Value) (n : Nat), Vals xs its ∧ s.heap.get? p = some { cls := .type "list", data := .seq its.toArray n } ∧ xs.length ≤ sizeLine := by
  obtain ⟨z, its, n, r, e⟩ := I.hok p _ h
  exact ⟨its, n, r, e, z⟩
/-- the list at p is written by an update of its object -/
theorem Inv.lstUpd {pins : List (Addr × Obj)} {σ : St} {H : Hp} {s : Shared} {p : Addr} {xs ys : List V} {its its' : List Value} {n n' : Nat} {f : Obj → Obj} (I : Inv X pins σ H s) (h : H p = some (.lst xs))
    (ho : s.heap.get? p = some { cls := .type "list", data := .seq its.toArray n }) (hf : f { cls := .type "list", data := .seq its.toArray n } = { cls := .type "list", data := .seq its'.toArray n' }) (r : Vals ys its') (hz : ys.length ≤ sizeLine) (t : Nat) :
    Inv X pins σ (upd H p (.lst ys)) { s with heap := s.heap.update p f, toks := t } := by
  have e : (s.heap.update p f).get? p = some { cls := .type "list", data := .seq its'.toArray n' } := by
    rw [Heap.get?_update_self f ho (by rw [hf] <;> rfl), hf]
  refine I.write (x := p) (e := p) (by rw [h]; trivial) (.inl rfl) (fun b u hb q => (Heap.get?_update_other _ _ (Ne.symm hb)).trans q) ⟨_, e⟩ ?_
  exact ⟨hz, its', n', r, e⟩
def rSetL : V → V → V → Hp → (Hp → Prop) → Prop := fun o i v H Q => ∃ p xs k j, o = .ref p ∧ i = .int k ∧ H p = some (.lst xs) ∧ ixN xs.length k = some j ∧ Q (upd H p (.lst (xs.set j v)))
theorem set_list : PSet X rSetL := by
  intro pins s σ H o i v ov iv u Q I ro ri rv h
  obtain ⟨p, xs, k, j, rfl, rfl, hp, hj, q⟩ := h
  cases ro
  obtain ⟨t, rfl⟩ := ri
  obtain ⟨its, n, r, ho, hz⟩ := I.lst hp
  obtain ⟨h1, h2, h3, h4⟩ := ixN_seq hj
  have hl := r.length
  have hn := line63
  have I' : Inv X pins σ (upd H p (.lst (xs.set j v))) { s with heap := s.heap.update p (Obj.mapSeq (·.setIfInBounds j u)) } :=
    I.lstUpd hp ho (mapSeq_set its n j u) (r.set rv j) (by rw [List.length_set]; exact hz) s.toks
  by_cases h0 : 0 ≤ k
  · have hk : k.toNat = j := by
      rw [seqIndex_of h0 h4] at h1
      exact Option.some.inj h1
    exact PySem.W.ki_setAt ho h0 (by omega) (by rw [List.size_toArray, ← hl]; exact h4) (by rw [hk]; exact ⟨_, I', q⟩)
  · have hk : (k + (its.toArray.size : Int)).toNat = j := by
      rw [seqIndex_neg (by omega) h3] at h1
      rw [List.size_toArray, ← hl]
      exact Option.some.inj h1
    exact PySem.W.ki_setBack ho (by omega) (by rw [List.size_toArray, ← hl]; exact h3) (by omega) (by rw [hk]; exact ⟨_, I', q⟩)

/-! ### slices -/
theorem slice_bounds (lo hi : Option Int) (n : Nat) : (sliceBounds lo hi none n).1 = ((HT.sIx n 0 lo : Nat) : Int) ∧ (sliceBounds lo hi none n).2.1 = ((HT.sIx n n hi : Nat) : Int) ∧ (sliceBounds lo hi none n).2.2 = 1 := by
  refine ⟨?_, ?_, rfl⟩
  · cases lo with
    | none => simp [sliceBounds, HT.sIx]
    | some i =>
      simp only [sliceBounds, HT.sIx, Option.getD_none, show (1 : Int) > 0 by decide, if_true]
      by_cases h : i < 0
      · simp only [h, if_true] <;> omega
      · simp only [h, if_false] <;> omega
  · cases hi with
    | none => simp [sliceBounds, HT.sIx]
    | some i =>
      simp only [sliceBounds, HT.sIx, Option.getD_none, show (1 : Int) > 0 by decide, if_true]
      by_cases h : i < 0
      · simp only [h, if_true] <;> omega
      · simp only [h, if_false] <;> omega
theorem slicePick_cut (its : List Value) (lo hi : Option Int) : slicePick its.toArray lo hi none = ((its.drop (HT.sIx its.length 0 lo)).take (HT.sIx its.length its.length hi - HT.sIx its.length 0 lo)).toArray := by
  obtain ⟨h1, h2, h3⟩ := slice_bounds lo hi its.toArray.size
  unfold slicePick
  rw [h1, h2, h3]
  simp only [sliceRange_one, pick_run, List.size_toArray] <;> rfl
/-- xs[lo:hi] of a list: a new list -/
def rSlL (K : PySem.W.Frag) : V → Option Int → Option Int → Hp → VK → Prop := fun x lo hi H Q => ∃ a xs, x = .ref a ∧ SqL K H a xs ∧ ∀ p, H p = none → Q (.ref p) (upd H p (.lst (cutV xs lo hi)))
theorem sl_list : SlR X (rSlL X.K) := by
  intro pins s σ H x v vl vu lo hi sl Q I rx hs pl pu h
  obtain ⟨a, xs, rfl, hx, q⟩ := h
  cases rx
  obtain ⟨its, r, ht, hz⟩ := I.list hx
  have hlen := r.length
  refine ⟨"list", _, slot_list_getitem.lookup, ht.isList.typeIs, ?_⟩
  refine wpAny_getItem_list_slice ht.isList hs pl pu .none (by simp) ?_ (by rw [List.size_toArray] <;> omega)
  rw [slicePick_cut, ← hlen]
  refine ⟨.ref s.heap.objs.size, _, I.laid (t' := s.toks) (o := .lst (cutV xs lo hi)) (fun b ob q => Heap.get?_push_of_some _ q) (Nat.le_refl _) ?_, rfl, q _ (I.hok.fresh (Nat.le_refl _))⟩
  exact ⟨Nat.le_trans (cutV_length xs lo hi) hz, _, 0, (r.drop (HT.sIx xs.length 0 lo)).take (HT.sIx xs.length xs.length hi - HT.sIx xs.length 0 lo), Heap.get?_push_size _ rfl⟩

/-! ### in, not in: flat items -/
def flatV : V → Bool
  | .non => true
  | .bl _ => true
  | .int _ => true
  | .str _ => true
  | _ => false
/-- == of flat values -/
def eqV : V → V → Bool
  | .non, .non => true
  | .bl a, .bl b => a == b
  | .bl a, .int b => (if a then 1 else 0) == b
  | .int a, .bl b => a == (if b then 1 else 0)
  | .int a, .int b => a == b
  | .str a, .str b => a == b
  | _, _ => false
theorem eqAt_V {A : Around} {s : Shared} {y x : V} {u v : Value} (ry : RelV y u) (rx : RelV x v) (fy : flatV y = true) (fx : flatV x = true) : SeqAt.EqAt A s u v (eqV y x) := by
  cases y with
  | non =>
    cases ry
    cases x with
    | non => cases rx; exact SeqAt.EqAt.same _
    | bl b => cases rx; exact SeqAt.EqAt.none_bool b
    | int b => obtain ⟨t, rfl⟩ := rx; exact SeqAt.EqAt.none_int b t
    | str b => obtain ⟨t, rfl⟩ := rx; exact SeqAt.EqAt.none_str b t
    | _ => exact absurd (show false = true from fx) Bool.false_ne_true
  | bl a =>
    cases ry
    cases x with
    | non => cases rx; exact SeqAt.EqAt.bool_none a
    | bl b => cases rx; exact SeqAt.EqAt.bool_bool a b
    | int b => obtain ⟨t, rfl⟩ := rx; exact SeqAt.EqAt.bool_int a b t
    | str b => obtain ⟨t, rfl⟩ := rx; exact SeqAt.EqAt.bool_str a b t
    | _ => exact absurd (show false = true from fx) Bool.false_ne_true
  | int a =>
    obtain ⟨t', rfl⟩ := ry
    cases x with
    | non => cases rx; exact SeqAt.EqAt.int_none a t'
    | bl b => cases rx; exact SeqAt.EqAt.int_bool a t' b
    | int b => obtain ⟨t, rfl⟩ := rx; exact SeqAt.EqAt.int_int a t' b t
    | str b => obtain ⟨t, rfl⟩ := rx; exact SeqAt.EqAt.int_str a t' b t
    | _ => exact absurd (show false = true from fx) Bool.false_ne_true
  | str a =>
    obtain ⟨t', rfl⟩ := ry
    cases x with
    | non => cases rx; exact SeqAt.EqAt.str_none a t'
    | bl b => cases rx; exact SeqAt.EqAt.str_bool a t' b
    | int b => obtain ⟨t, rfl⟩ := rx; exact SeqAt.EqAt.str_int a t' b t
    | str b => obtain ⟨t, rfl⟩ := rx; exact SeqAt.EqAt.str_str a t' b t
    | _ => exact absurd (show false = true from fx) Bool.false_ne_true
  | _ => exact absurd (show false = true from fy) Bool.false_ne_true
/-- the items' answers, read off the values (a value's own answer does not lean on its token) -/
def eqU (x : V) (u : Value) : Bool := match u with
  | .none => eqV .non x
  | .bool b => eqV (.bl b) x
  | .int i _ => eqV (.int i) x
  | .str z _ => eqV (.str z) x
  | _ => false
theorem eqU_of {x y : V} {u : Value} (r : RelV y u) (f : flatV y = true) : eqU x u = eqV y x := by
  cases y with
  | non => cases r; rfl
  | bl b => cases r; rfl
  | int i => obtain ⟨t, rfl⟩ := r; rfl
  | str z => obtain ⟨t, rfl⟩ := r; rfl
  | _ => exact absurd (show false = true from f) Bool.false_ne_true
theorem any_eqU {x : V} : ∀ {xs : List V} {us : List Value}, Vals xs us → xs.all flatV = true → us.any (eqU x) = xs.any fun y => eqV y x
  | _, _, .nil, _ => rfl
  | y :: xs, u :: us, .cons r t, f => by
    rw [List.all_cons, Bool.and_eq_true] at f
    rw [List.any_cons, List.any_cons, eqU_of r f.1, any_eqU t f.2]
theorem mem_eqAt {A : Around} {s : Shared} {x : V} {v : Value} (rx : RelV x v) (fx : flatV x = true) : ∀ {xs : List V} {us : List Value}, Vals xs us → xs.all flatV = true → ∀ u ∈ us, SeqAt.EqAt A s u v (eqU x u)
  | _, _, .nil, _ => fun u hu => by cases hu
  | y :: xs, u :: us, .cons r t, f => fun u' hu => by
    rw [List.all_cons, Bool.and_eq_true] at f
    rcases List.mem_cons.mp hu with rfl | hu
    · rw [eqU_of r f.1]; exact eqAt_V r rx f.1 fx
    · exact mem_eqAt rx fx t f.2 u' hu
def inV (x : V) (xs : List V) : Bool := xs.any fun y => eqV y x
/-- x in a list or tuple of flat items -/
def rIn (K : PySem.W.Frag) (neg : Bool) : R2 := fun x y H Q => ∃ p xs, y = .ref p ∧ (SqL K H p xs ∨ SqT K H p xs) ∧ flatV x = true ∧ xs.all flatV = true ∧ Q (.bl (if neg then !inV x xs else inV x xs)) H
theorem op_in_seq : OpR X (compareOp .In) (rIn X.K false) := by
  intro pins s σ H x y v u Q I rx ry h
  obtain ⟨p, xs, rfl, hq, fx, fs, q⟩ := h
  cases ry
  rcases hq with hq | hq
  · obtain ⟨its, r, pl, hz⟩ := I.list hq
    refine SeqAt.in_listAt (eqU x) pl.isList (fun w hw => mem_eqAt rx fx r fs w (by simpa using hw)) ⟨.bl _, H, I, rfl, ?_⟩
    rw [show its.toArray.any (eqU x) = its.any (eqU x) by simp, any_eqU r fs]
    exact q
  · obtain ⟨its, r, pl, hz⟩ := I.tuple hq
    refine SeqAt.in_tupleAt (eqU x) pl (fun w hw => mem_eqAt rx fx r fs w (by simpa using hw)) ⟨.bl _, H, I, rfl, ?_⟩
    rw [show its.toArray.any (eqU x) = its.any (eqU x) by simp, any_eqU r fs]
    exact q
theorem op_notIn_seq : OpR X (compareOp .NotIn) (rIn X.K true) := by
  intro pins s σ H x y v u Q I rx ry h
  obtain ⟨p, xs, rfl, hq, fx, fs, q⟩ := h
  cases ry
  rcases hq with hq | hq
  · obtain ⟨its, r, pl, hz⟩ := I.list hq
    refine SeqAt.notIn_listAt (eqU x) pl.isList (fun w hw => mem_eqAt rx fx r fs w (by simpa using hw)) ⟨.bl _, H, I, rfl, ?_⟩
    rw [show its.toArray.any (eqU x) = its.any (eqU x) by simp, any_eqU r fs]
    exact q
  · obtain ⟨its, r, pl, hz⟩ := I.tuple hq
    refine SeqAt.notIn_tupleAt (eqU x) pl (fun w hw => mem_eqAt rx fx r fs w (by simpa using hw)) ⟨.bl _, H, I, rfl, ?_⟩
    rw [show its.toArray.any (eqU x) = its.any (eqU x) by simp, any_eqU r fs]
    exact q
theorem op_notIn_str : OpR X (compareOp .NotIn) (fun x y H Q => ∃ i j, x = .str i ∧ y = .str j ∧ Q (.bl (!(!(Builtin.Str.occurrences j i 0 j.length 1).isEmpty))) H) := by
  intro pins s σ H x y v u Q I rx ry h
  obtain ⟨i, j, rfl, rfl, q⟩ := h
  obtain ⟨t, rfl⟩ := rx
  obtain ⟨t', rfl⟩ := ry
  exact notIn_str ⟨.bl _, H, I, rfl, q⟩

/-! ### len, list(x), tuple(x) of any list or tuple that is read -/
theorem call_len_seq : CallR X (.builtin "len") (fun xs H Q => ∃ p ys, xs = [.ref p] ∧ (SqL X.K H p ys ∨ SqT X.K H p ys) ∧ Q (.int ys.length) H) := by
  intro pins s σ H xs us Q I r h
  obtain ⟨p, ys, rfl, hq, q⟩ := h
  obtain ⟨u, rfl, rx⟩ := vals1 r
  cases rx
  have hn := line63
  rcases hq with hq | hq
  · obtain ⟨its, r', pl, hz⟩ := I.list hq
    have hlen := r'.length
    exact Calls.call_len_list pl.isList (by simp only [List.size_toArray] <;> omega) ⟨.int ys.length, H, I.tok _, ⟨s.toks + 1, by rw [List.size_toArray, hlen]⟩, q⟩
  · obtain ⟨its, r', pl, hz⟩ := I.tuple hq
    have hlen := r'.length
    exact len_tuple pl (by simp only [List.size_toArray] <;> omega) ⟨.int ys.length, H, I.tok _, ⟨s.toks + 1, by rw [List.size_toArray, hlen]⟩, q⟩
theorem call_len_str : CallR X (.builtin "len") (fun xs H Q => ∃ z, xs = [.str z] ∧ z.length ≤ sizeLine ∧ Q (.int z.length) H) := by
  intro pins s σ H xs us Q I r h
  obtain ⟨z, rfl, hz, q⟩ := h
  obtain ⟨u, rfl, t, rfl⟩ := vals1 r
  have hn := line63
  exact len_str (by omega) ⟨.int z.length, H, I.tok _, ⟨_, rfl⟩, q⟩
theorem CallR.or {f : Value} {r r' : List V → Hp → VK → Prop} (h : CallR X f r) (h' : CallR X f r') : CallR X f (fun xs H Q => r xs H Q ∨ r' xs H Q) := by
  intro pins s σ H xs us Q I rs q
  rcases q with q | q
  · exact h pins s σ H xs us Q I rs q
  · exact h' pins s σ H xs us Q I rs q
theorem call_list_of : CallR X (.type "list") (fun xs H Q => ∃ p ys, xs = [.ref p] ∧ (SqL X.K H p ys ∨ SqT X.K H p ys) ∧ ∀ l, H l = none → Q (.ref l) (upd H l (.lst ys))) := by
  intro pins s σ H xs us Q I r h
  obtain ⟨p, ys, rfl, hq, q⟩ := h
  obtain ⟨u, rfl, rx⟩ := vals1 r
  cases rx
  have fin : ∀ (its : List Value), Vals ys its → ys.length ≤ sizeLine → ∀ (h' : Heap) (c' : Nat), (∀ b o', s.heap.get? b = some o' → h'.get? b = some o') →
      h'.get? s.heap.objs.size = some { cls := .type "list", dict := none, data := .seq its.toArray c', slots := #[] } → EP X pins σ Q (.ref s.heap.objs.size) { s with heap := h' } := fun its r' hz h' c' kp e =>
    ⟨.ref s.heap.objs.size, _, I.laid (t' := s.toks) kp (Nat.le_refl _) (show ObjOk X.prog X.w _ h' _ (.lst ys) from ⟨hz, its, c', r', e⟩), rfl, q _ (I.hok.fresh (Nat.le_refl _))⟩
  rcases hq with hq | hq
  · obtain ⟨its, r', pl, hz⟩ := I.list hq
    have hlen := r'.length
    obtain ⟨o, ho, hc, n, hd⟩ := pl.isList
    exact call_list_seq p (.inl rfl) ho hc hd (fun h' c' kp e => fin its r' hz h' c' kp e) (by simp only [List.size_toArray] <;> omega)
  · obtain ⟨its, r', pl, hz⟩ := I.tuple hq
    have hlen := r'.length
    obtain ⟨o, ho, hc, n, hd⟩ := pl
    exact call_list_seq p (.inr rfl) ho hc hd (fun h' c' kp e => fin its r' hz h' c' kp e) (by simp only [List.size_toArray] <;> omega)
theorem call_tuple_of : CallR X (.type "tuple") (fun xs H Q => ∃ p ys, xs = [.ref p] ∧ ((SqL X.K H p ys ∧ ∀ l, H l = none → Q (.ref l) (upd H l (.tup ys))) ∨ (SqT X.K H p ys ∧ Q (.ref p) H))) := by
  intro pins s σ H xs us Q I r h
  obtain ⟨p, ys, rfl, h⟩ := h
  obtain ⟨u, rfl, rx⟩ := vals1 r
  cases rx
  rcases h with ⟨hq, q⟩ | ⟨hq, q⟩
  · obtain ⟨its, r', pl, hz⟩ := I.list hq
    have hlen := r'.length
    refine call_tuple_list pl.isList (fun h' kp => ?_) (by simp only [List.size_toArray] <;> omega)
    have I1 : Inv X pins σ H { s with heap := h' } := I.kept (t' := s.toks) kp
    have I2 : Inv X pins σ (upd H h'.objs.size (.tup ys)) { s with heap := h'.push { cls := .type "tuple", data := .seq its.toArray } } :=
      I1.laid (t' := s.toks) (fun b o e => Heap.get?_push_of_some _ e) (Nat.le_refl _) (show ObjOk X.prog X.w _ _ _ (.tup ys) from ⟨hz, its, r', IsTup.new _ _⟩)
    exact ⟨.ref h'.objs.size, _, I2, rfl, q _ (I1.hok.fresh (Nat.le_refl _))⟩
  · obtain ⟨its, r', pl, hz⟩ := I.tuple hq
    exact call_tuple_same pl ⟨.ref p, H, I, rfl, q⟩

/-! ### the call of a builtin's method: o.m(..) -/
/-- the value is of that builtin type -/
def tyV (K : PySem.W.Frag) (T : String) (x : V) (H : Hp) : Prop := match x with
  | .str _ => T = "str"
  | .int _ => T = "int"
  | .ref p => (T = "list" ∧ ∃ xs, SqL K H p xs) ∨ (T = "tuple" ∧ ∃ o, K.lookup p = some o ∧ o.cls = .type "tuple" ∧ o.dict = none) ∨
      (T = "dict" ∧ ((∃ kvs, H p = some (.dK kvs)) ∨ ∃ kvs, H p = some (.dT kvs))) ∨ (T = "set" ∧ ∃ S n, H p = some (.set S n))
  | _ => False
theorem tyV_is {pins : List (Addr × Obj)} {σ : St} {H : Hp} {s : Shared} {T : String} {x : V} {v : Value} (I : Inv X pins σ H s) (r : RelV x v) (ty : tyV X.K T x H) :
    s.TypeIs v T ∧ ∀ a, v = .ref a → ∃ ob, s.heap.get? a = some ob ∧ ob.dict = none := by
  cases x with
  | str z =>
    obtain ⟨t, rfl⟩ := r
    cases (show T = "str" from ty)
    exact ⟨typeIs_str s z t, fun _ e => nomatch e⟩
  | int i =>
    obtain ⟨t, rfl⟩ := r
    cases (show T = "int" from ty)
    exact ⟨typeIs_int s i t, fun _ e => nomatch e⟩
  | ref p =>
    cases r
    rcases ty with ⟨rfl, xs, hq⟩ | ⟨rfl, o, hk, hc, hd⟩ | ⟨rfl, hk⟩ | ⟨rfl, S, n, hk⟩
    · obtain ⟨its, _, pl, _⟩ := I.list hq
      refine ⟨pl.isList.typeIs, fun a e => ?_⟩
      cases e
      obtain ⟨o, n, e, c, hd, _⟩ := pl
      exact ⟨o, e, hd⟩
    · refine ⟨⟨o, I.kIn p o hk, hc⟩, fun a e => ?_⟩
      cases e
      exact ⟨o, I.kIn _ o hk, hd⟩
    · have z : ∃ o, s.heap.get? p = some o ∧ o.ExactDict := by
        rcases hk with ⟨kvs, hk⟩ | ⟨kvs, hk⟩
        · obtain ⟨_, _, _, _, o, _, _, e, ex, _⟩ := I.hok p _ hk
          exact ⟨o, e, ex⟩
        · obtain ⟨_, _, _, _, o, _, _, e, ex, _⟩ := I.hok p _ hk
          exact ⟨o, e, ex⟩
      obtain ⟨o, e, ex⟩ := z
      refine ⟨⟨o, e, ex.1⟩, fun a e2 => ?_⟩
      cases e2
      exact ⟨o, e, ex.2.1⟩
    · obtain ⟨o, _, _, _, e, ex, _⟩ := I.hok p _ hk
      refine ⟨⟨o, e, ex.1⟩, fun a e2 => ?_⟩
      cases e2
      exact ⟨o, e, ex.2.1⟩
  | _ => exact False.elim ty
def tBM0 (K : PySem.W.Frag) (T : String) (r : V → List V → Hp → VK → Prop) (to : TE) : TE := fun σ H Q => to σ H fun x H1 => tyV K T x H1 ∧ r x [] H1 Q
def tBM (K : PySem.W.Frag) (T : String) (r : V → List V → Hp → VK → Prop) (to : TE) (t : TA) : TE := fun σ H Q => to σ H fun x H1 => tyV K T x H1 ∧ t σ H1 fun xs H2 => r x xs H2 Q
variable {o e : Expr} {es : List Expr} {to : TE} {t : TA} {name : Str} {apos cpos : Pos} {T id : String} {r : V → List V → Hp → VK → Prop}
theorem pe_bm0 (pa : PlainAttrs T) (slot : Slot T name id) (hty : typeOf (.builtin id) = pure (.type "method_descriptor")) (hm : MtR X id r) (ho : PE X o to)
    (hbase : attributeBase o name X.env (eval o X.env) = eval o X.env := by rfl) (hline : (apos.endLine == cpos.line) = true := by rfl) : PE X (.Call (.Attribute o name apos) [] [] cpos) (tBM0 X.K T r to) := by
  intro pins s σ H Q I h
  refine wpAny_Call_method0_late hbase hline (thn (ho pins s σ H _ I h) fun v s1 ⟨x, H1, I1, r1, ty, q1⟩ => ?_)
  obtain ⟨h1, h2⟩ := tyV_is I1 r1 ty
  exact ⟨T, id, pa, slot, hty, h1, h2, Calls.callWith_builtin rfl (PySem.evalArgs_none (hm pins s1 σ H1 x [] v [] Q I1 r1 .nil q1))⟩
theorem pe_bm (pa : PlainAttrs T) (slot : Slot T name id) (hty : typeOf (.builtin id) = pure (.type "method_descriptor")) (hm : MtR X id r) (ho : PE X o to) (ha : PA X (e :: es) t)
    (hbase : attributeBase o name X.env (eval o X.env) = eval o X.env := by rfl)
    (hfew : ((backTo cpos (starEach (e :: es) X.env)).all (fun x => !x.1) && (backToKw cpos (keywordEach [] X.env)).all (fun x => x.1.isSome)
      && decide ((e :: es).length + ([] : List Keyword).length + (if ([] : List Keyword).isEmpty then 0 else 1) < 30)) = true := by rfl)
    (hline : (apos.endLine == cpos.line) = true := by rfl) (hs : starEach (e :: es) X.env = (false, eval e X.env) :: starEach es X.env := by rfl) (hplain : (backTo cpos (starEach es X.env)).any (·.1) = false := by rfl) :
    PE X (.Call (.Attribute o name apos) (e :: es) [] cpos) (tBM X.K T r to t) := by
  intro pins s σ H Q I h
  refine wpAny_Call_method_late hbase hfew hline rfl (thn (ho pins s σ H _ I h) fun v s1 ⟨x, H1, I1, r1, ty, q1⟩ => ?_)
  obtain ⟨h1, h2⟩ := tyV_is I1 r1 ty
  refine ⟨T, id, pa, slot, hty, h1, h2, ?_⟩
  have hA := ha cpos pins s1 σ H1 _ I1 q1
  rw [hs] at hA ⊢
  refine Calls.callWith_builtin (by show (false || (backTo cpos (starEach es X.env)).any (·.1)) = false; rw [hplain] <;> rfl) (Calls.evalArgs_plain ?_)
  exact thn hA fun us s2 ⟨vs, H2, I2, r2, q2⟩ => hm pins s2 σ H2 x vs v us Q I2 r1 r2 q2
/- xs.append(e), list.index on a module's tuple .. are MtR facts of 06m -/
end
end L2

namespace L2
open PySem PySem.Spec PyProof.Rows

def MtM (X : Cx) (id : String) (r : V → List V → Hp → VK → Prop) : Prop :=
  ∀ (pins : List (Addr × Obj)) (s : Shared) (σ : St) (H : Hp) (x : V) (xs : List V) (v : Value) (us : List Value) (Q : VK), Inv X pins σ H s → RelV x v → Vals xs us → r x xs H Q →
    wpAny (model X.prog X.w) X.A (call (.builtin id) (v :: us)) (EP X pins σ Q) X.xe s

/-! ### lists of values -/
theorem Vals.one : ∀ {x : V} {us : List Value}, Vals [x] us → ∃ u, us = [u] ∧ RelV x u
  | _, _, .cons r .nil => ⟨_, rfl, r⟩
theorem Vals.two : ∀ {x y : V} {us : List Value}, Vals [x, y] us → ∃ u v, us = [u, v] ∧ RelV x u ∧ RelV y v
  | _, _, _, .cons r (.cons q .nil) => ⟨_, _, rfl, r, q⟩
theorem Vals.zero : ∀ {us : List Value}, Vals [] us → us = []
  | _, .nil => rfl
theorem Vals.dropLast {xs : List V} {us : List Value} (h : Vals xs us) : Vals xs.dropLast us.dropLast := by
  induction h with
  | nil => exact .nil
  | cons r t ih =>
    cases t with
    | nil => exact .nil
    | cons q t' => exact .cons r ih
theorem Vals.eraseIdx : ∀ {xs : List V} {us : List Value} (i : Nat), Vals xs us → Vals (xs.eraseIdx i) (us.eraseIdx i)
  | _, _, _, .nil => .nil
  | _, _, 0, .cons _ t => t
  | _, _, i + 1, .cons r t => .cons r (Vals.eraseIdx i t)
theorem Vals.reverse {xs : List V} {us : List Value} (h : Vals xs us) : Vals xs.reverse us.reverse := by
  induction h with
  | nil => exact .nil
  | cons r t ih => rw [List.reverse_cons, List.reverse_cons]; exact Vals.append ih (.cons r .nil)
theorem Vals.rep {xs : List V} {us : List Value} (h : Vals xs us) : ∀ k : Nat, Vals (List.replicate k xs).flatten (List.replicate k us).flatten
  | 0 => .nil
  | k + 1 => by
    rw [List.replicate_succ, List.replicate_succ, List.flatten_cons, List.flatten_cons]
    exact Vals.append h (Vals.rep h k)
theorem erase_last {α : Type} (l : List α) : l.eraseIdx (l.length - 1) = l.dropLast := by
  induction l with
  | nil => rfl
  | cons a r ih =>
    cases r with
    | nil => rfl
    | cons b r =>
      have e : (a :: b :: r).length - 1 = ((b :: r).length - 1) + 1 := by
        have h1 : (a :: b :: r).length = r.length + 2 := rfl
        have h2 : (b :: r).length = r.length + 1 := rfl
        omega
      rw [e, List.eraseIdx_cons_succ, ih]
      all_goals rfl
theorem len_erase {α : Type} : ∀ (l : List α) (i : Nat), (l.eraseIdx i).length ≤ l.length
  | [], _ => Nat.le_refl _
  | _ :: _, 0 => Nat.le_succ _
  | _ :: r, i + 1 => Nat.succ_le_succ (len_erase r i)
theorem foldl_rep (its : List Value) : ∀ (k : Nat) (acc : List Value),
    List.foldl (fun x1 x2 => x1 ++ x2) acc.toArray (List.replicate k its.toArray) = (acc ++ (List.replicate k its).flatten).toArray
  | 0, acc => by simp
  | k + 1, acc => by
    have e : acc.toArray ++ its.toArray = (acc ++ its).toArray := by simp
    have e2 : (acc ++ its) ++ (List.replicate k its).flatten = acc ++ (List.replicate (k + 1) its).flatten := by
      rw [List.replicate_succ, List.flatten_cons, List.append_assoc]
    rw [← e2, ← foldl_rep its k (acc ++ its), ← e, List.replicate_succ, List.foldl_cons]

section
variable {X : Cx} {pins : List (Addr × Obj)} {σ : St} {H : Hp} {s : Shared} {l b : Addr} {xs ys zs : List V}

/-! ### the two steps: a tracked list is rewritten, a new list is laid -/
theorem Inv.lset {its its' : List Value} {n : Nat} {f : Array Value → Array Value} {t' : Nat} (I : Inv X pins σ H s) (hH : H l = some (.lst xs))
    (e : s.heap.get? l = some { cls := .type "list", data := .seq its.toArray n }) (hf : f its.toArray = its'.toArray) (hv : Vals ys its') (hz : ys.length ≤ sizeLine) :
    Inv X pins σ (upd H l (.lst ys)) { s with heap := s.heap.update l (Obj.mapSeq f), toks := t' } := by
  have q := PySem.IsL.update e f
  rw [hf] at q
  refine I.write (x := l) (e := l) (by rw [hH]; exact trivial) (.inl rfl) (fun b' u hb hu => (Heap.get?_update_other s.heap (Obj.mapSeq f) (Ne.symm hb)).trans hu) ⟨_, q⟩ ?_
  exact ⟨hz, its', _, hv, q⟩
theorem Inv.lnew {its : List Value} {t' : Nat} (I : Inv X pins σ H s) (hv : Vals ys its) (hz : ys.length ≤ sizeLine) :
    Inv X pins σ (upd H s.heap.objs.size (.lst ys)) { s with heap := s.heap.push { cls := .type "list", data := .seq its.toArray }, toks := t' } :=
  I.laid (fun _ _ q => Heap.get?_push_of_some _ q) (Nat.le_refl _) ⟨hz, its, 0, hv, Heap.get?_push_size _ rfl⟩
theorem Inv.fresh (I : Inv X pins σ H s) : H s.heap.objs.size = none := I.hok.fresh (Nat.le_refl _)
theorem Inv.lstM (I : Inv X pins σ H s) (hH : H l = some (.lst xs)) : xs.length ≤ sizeLine ∧ ∃ (its : List Value) (n : Nat), Vals xs its ∧ xs.length = its.length ∧ s.heap.get? l = some { cls := .type "list", data := .seq its.toArray n } := by
  obtain ⟨z, its, n, r, e⟩ := I.hok l _ hH
  exact ⟨z, its, n, r, r.length, e⟩

theorem notLongL {n : Nat} (h : n ≤ sizeLine) : Builtin.List.listTooLong n = false := by
  unfold Builtin.List.listTooLong
  exact decide_eq_false (by omega)
end

section
variable {X : Cx}

/-! ### methods -/
def rAppend : V → List V → Hp → VK → Prop := fun x vs H Q => ∃ l xs y, x = .ref l ∧ vs = [y] ∧ H l = some (.lst xs) ∧ xs.length < sizeLine ∧ Q .non (upd H l (.lst (xs ++ [y])))
theorem mt_append : MtM X "list.append" rAppend := by
  intro pins s σ H x vs v us Q I rx rv h
  obtain ⟨l, xs, y, rfl, rfl, hH, hz, q⟩ := h
  cases rx
  obtain ⟨u, rfl, ru⟩ := rv.one
  obtain ⟨z, its, n, r, hl, e⟩ := I.lstM hH
  refine call_meets F.slot_list_append ⟨_, e, rfl⟩ F.entry_list_append (F.args_list_append_2 _ _) (PySem.list_append l its.toArray n u (by rw [List.size_toArray]; omega)) ⟨e, ?_⟩
  refine ⟨.non, _, I.lset (its' := its ++ [u]) hH e (by simp) (r.append (.cons ru .nil)) ?_, rfl, q⟩
  rw [List.length_append, List.length_singleton]
  omega

def rExtend : V → List V → Hp → VK → Prop := fun x vs H Q => ∃ l b xs zs, x = .ref l ∧ vs = [.ref b] ∧ H l = some (.lst xs) ∧ H b = some (.lst zs) ∧ xs.length + zs.length ≤ sizeLine ∧ Q .non (upd H l (.lst (xs ++ zs)))
theorem mt_extend : MtM X "list.extend" rExtend := by
  intro pins s σ H x vs v us Q I rx rv h
  obtain ⟨l, b, xs, zs, rfl, rfl, hH, hB, hz, q⟩ := h
  cases rx
  obtain ⟨u, rfl, ru⟩ := rv.one
  cases ru
  obtain ⟨z, its, n, r, hl, e⟩ := I.lstM hH
  obtain ⟨z2, its2, n2, r2, hl2, e2⟩ := I.lstM hB
  have hsz : its.toArray.size + its2.toArray.size ≤ sizeLine := by rw [List.size_toArray, List.size_toArray]; omega
  have hlong : ¬ (!its.toArray.isEmpty && Builtin.List.listTooLong (its.toArray.size + its2.toArray.size)) = true := by
    rw [notLongL hsz, Bool.and_false]
    exact Bool.false_ne_true
  refine call_meets F.slot_list_extend ⟨_, e, rfl⟩ F.entry_list_extend (F.args_list_extend_2 _ _)
    (AutoSeq1.list_extend_list_list_0 l its.toArray n b its2.toArray n2 hlong (by rw [List.size_toArray]; omega) (by omega)) ⟨e, e2, ?_⟩
  refine ⟨.non, _, I.lset (its' := its ++ its2) hH e (by simp) (r.append r2) ?_, rfl, q⟩
  rw [List.length_append]
  omega

def rPop : V → List V → Hp → VK → Prop := fun x vs H Q => ∃ l xs y, x = .ref l ∧ vs = [] ∧ H l = some (.lst xs) ∧ xs[xs.length - 1]? = some y ∧ Q y (upd H l (.lst xs.dropLast))
theorem mt_pop : MtM X "list.pop" rPop := by
  intro pins s σ H x vs v us Q I rx rv h
  obtain ⟨l, xs, y, rfl, rfl, hH, hy, q⟩ := h
  cases rx
  have hus := rv.zero
  subst hus
  obtain ⟨z, its, n, r, hl, e⟩ := I.lstM hH
  obtain ⟨u, hu, ru⟩ := r.get hy
  have hy' : its.toArray[its.toArray.size - 1]? = some u := by
    show its.toArray[its.length - 1]? = some u
    rw [← Array.getElem?_toList, ← hl]
    exact hu
  refine call_meets F.slot_list_pop ⟨_, e, rfl⟩ F.entry_list_pop (F.args_list_pop_1 _) (MeetsSeq.list_pop_last l its.toArray n u hy' (by rw [List.size_toArray]; omega)) ⟨e, ?_⟩
  refine ⟨y, _, I.lset (its' := its.dropLast) hH e ?_ r.dropLast ?_, ru, q⟩
  · show its.toArray.eraseIdxIfInBounds (its.toArray.size - 1) = its.dropLast.toArray
    rw [List.size_toArray, List.eraseIdxIfInBounds_toArray, erase_last]
  · rw [List.length_dropLast]
    omega

def rPopAt : V → List V → Hp → VK → Prop := fun x vs H Q => ∃ l xs i k y, x = .ref l ∧ vs = [.int i] ∧ H l = some (.lst xs) ∧ -(2 ^ 63) ≤ i ∧ i < 2 ^ 63 ∧ seqIndex? i xs.length = some k ∧ xs[k]? = some y ∧ Q y (upd H l (.lst (xs.eraseIdx k)))
theorem mt_popAt : MtM X "list.pop" rPopAt := by
  intro pins s σ H x vs v us Q I rx rv h
  obtain ⟨l, xs, i, k, y, rfl, rfl, hH, h1, h2, hk, hy, q⟩ := h
  cases rx
  obtain ⟨u, rfl, ru⟩ := rv.one
  obtain ⟨t, rfl⟩ := ru
  obtain ⟨z, its, n, r, hl, e⟩ := I.lstM hH
  obtain ⟨w, hw, rw'⟩ := r.get hy
  refine call_meets F.slot_list_pop ⟨_, e, rfl⟩ F.entry_list_pop (F.args_list_pop_2 _ _)
    (MeetsSeq.list_pop_at l its.toArray n i t k w (fitsIndex_both h1 h2) (by rw [List.size_toArray, ← hl]; exact hk) (by rw [← Array.getElem?_toList]; exact hw) (by rw [List.size_toArray]; omega)) ⟨e, ?_⟩
  refine ⟨y, _, I.lset (its' := its.eraseIdx k) hH e ?_ (r.eraseIdx k) ?_, rw', q⟩
  · show its.toArray.eraseIdxIfInBounds k = (its.eraseIdx k).toArray
    rw [List.eraseIdxIfInBounds_toArray]
  · have := len_erase xs k
    omega

def rReverse : V → List V → Hp → VK → Prop := fun x vs H Q => ∃ l xs, x = .ref l ∧ vs = [] ∧ H l = some (.lst xs) ∧ Q .non (upd H l (.lst xs.reverse))
theorem mt_reverse : MtM X "list.reverse" rReverse := by
  intro pins s σ H x vs v us Q I rx rv h
  obtain ⟨l, xs, rfl, rfl, hH, q⟩ := h
  cases rx
  have hus := rv.zero
  subst hus
  obtain ⟨z, its, n, r, hl, e⟩ := I.lstM hH
  refine call_meets F.slot_list_reverse ⟨_, e, rfl⟩ F.entry_list_reverse (F.args_list_reverse_1 _) (AutoSeq1.list_reverse_list_0 l its.toArray n (by rw [List.size_toArray]; omega)) ⟨e, ?_⟩
  refine ⟨.non, _, I.lset (its' := its.reverse) hH e (by simp) r.reverse ?_, rfl, q⟩
  rw [List.length_reverse]
  omega

def rClear : V → List V → Hp → VK → Prop := fun x vs H Q => ∃ l xs, x = .ref l ∧ vs = [] ∧ H l = some (.lst xs) ∧ Q .non (upd H l (.lst []))
theorem mt_clear : MtM X "list.clear" rClear := by
  intro pins s σ H x vs v us Q I rx rv h
  obtain ⟨l, xs, rfl, rfl, hH, q⟩ := h
  cases rx
  have hus := rv.zero
  subst hus
  obtain ⟨z, its, n, r, hl, e⟩ := I.lstM hH
  refine call_meets F.slot_list_clear ⟨_, e, rfl⟩ F.entry_list_clear (F.args_list_clear_1 _) (AutoSeq1.list_clear_list_0 l its.toArray n (by rw [List.size_toArray]; omega)) ⟨e, ?_⟩
  exact ⟨.non, _, I.lset (its' := []) (ys := []) hH e rfl .nil (Nat.zero_le _), rfl, q⟩

/-! ### list + list, list += list, list * int -/
def rCat : R2 := fun x y H Q => ∃ l b xs zs, x = .ref l ∧ y = .ref b ∧ H l = some (.lst xs) ∧ H b = some (.lst zs) ∧ xs.length + zs.length ≤ sizeLine ∧ ∀ p, H p = none → Q (.ref p) (upd H p (.lst (xs ++ zs)))
theorem op_cat : OpR X (binaryOp .Add) rCat := by
  intro pins s σ H x y v u Q I rx ry h
  obtain ⟨l, b, xs, zs, rfl, rfl, hH, hB, hz, q⟩ := h
  cases rx
  cases ry
  obtain ⟨z, its, n, r, hl, e⟩ := I.lstM hH
  obtain ⟨z2, its2, n2, r2, hl2, e2⟩ := I.lstM hB
  refine PySem.P.add_list e e2 ?_ (by rw [List.size_toArray, List.size_toArray]; omega)
  have ea : its.toArray ++ its2.toArray = (its ++ its2).toArray := by simp
  rw [ea]
  exact ⟨.ref _, _, I.lnew (t' := s.toks) (r.append r2) (by rw [List.length_append]; omega), rfl, q _ I.fresh⟩
/-- a list times an int (a negative one is nothing) -/
def rRep : R2 := fun x y H Q => ∃ l k xs, x = .ref l ∧ y = .int k ∧ H l = some (.lst xs) ∧ -(2 ^ 63) ≤ k ∧ k < 2 ^ 63 ∧ xs.length * k.toNat ≤ sizeLine ∧
  ∀ p, H p = none → Q (.ref p) (upd H p (.lst (List.replicate k.toNat xs).flatten))
theorem len_rep {α : Type} (xs : List α) (k : Nat) : (List.replicate k xs).flatten.length = k * xs.length := by
  induction k with
  | zero => simp
  | succ k ih => rw [List.replicate_succ, List.flatten_cons, List.length_append, ih, Nat.succ_mul, Nat.add_comm]
theorem op_rep : OpR X (binaryOp .Mult) rRep := by
  intro pins s σ H x y v u Q I rx ry h
  obtain ⟨l, k, xs, rfl, rfl, hH, h1, h2, hz, q⟩ := h
  cases rx
  obtain ⟨t, rfl⟩ := ry
  obtain ⟨z, its, n, r, hl, e⟩ := I.lstM hH
  have hlen : its.toArray.size * k.toNat ≤ sizeLine := by rw [List.size_toArray, ← hl]; exact hz
  have hcap : ¬ its.toArray.size * k.toNat > (2 ^ 63 - 1) / 8 := by
    have : (sizeLine : Nat) ≤ (2 ^ 63 - 1) / 8 := by decide
    omega
  have hfit : ¬ (!Builtin.List.listFitsIndex k) = true := by
    rw [fitsIndex_both h1 h2]
    exact Bool.false_ne_true
  have hlong : ¬ Builtin.List.listTooLong (its.toArray.size * k.toNat) = true := by
    rw [notLongL hlen]
    exact Bool.false_ne_true
  have hnew : List.foldl (fun x1 x2 => x1 ++ x2) #[] (List.replicate (if its.toArray.isEmpty = true then 0 else k.toNat) its.toArray) = (List.replicate k.toNat its).flatten.toArray := by
    have f0 : ∀ m : Nat, List.foldl (fun x1 x2 => x1 ++ x2) #[] (List.replicate m its.toArray) = (List.replicate m its).flatten.toArray := fun m => by
      have := foldl_rep its m []
      rw [List.nil_append] at this
      exact this
    rw [f0]
    cases its with
    | nil => simp
    | cons a r' => rw [if_neg (by simp)]
  refine wpAny_binaryOp_repeat_ref (T := "list") (U := "int") (by decide) ⟨_, e, rfl⟩ (fun s' => typeIs_int s' k t) noFill_list_mul F.fills_int_mul F.slot_int_rmul repeat_list F.slot_int_index.lookup
    (call_meets F.slot_int_rmul (typeIs_int s k t) F.entry_int_rmul (F.args_int_rmul_2 _ _) (int___rmul___int_list k t l its.toArray n)
      ⟨e, rfl, ⟨_, e, rfl⟩, call_meets F.slot_list_mul ⟨_, e, rfl⟩ F.entry_list_mul (F.args_list_mul_2 _ _) (AutoListH.list___mul___list_int_3 l its.toArray n k t hfit hcap hlong) ⟨e, ?_⟩⟩)
  rw [hnew]
  exact ⟨.ref _, _, I.lnew (t' := s.toks) (r.rep k.toNat) (by rw [len_rep, Nat.mul_comm]; exact hz), rfl, q _ I.fresh⟩

/-! ### del xs[i] -/
theorem del_list {pins : List (Addr × Obj)} {s : Shared} {σ : St} {H : Hp} {l : Addr} {xs : List V} {i : Int} {t : Tok} {k : Nat} {Q : Unit → Shared → Prop} (I : Inv X pins σ H s) (hH : H l = some (.lst xs))
    (h1 : -(2 ^ 63) ≤ i) (h2 : i < 2 ^ 63) (hk : seqIndex? i xs.length = some k) (h : ∀ s', Inv X pins σ (upd H l (.lst (xs.eraseIdx k))) s' → Q () s') :
    wpAny (model X.prog X.w) X.A (delItem (.ref l) (.int i t)) Q X.xe s := by
  obtain ⟨z, its, n, r, hl, e⟩ := I.lstM hH
  refine PySem.P.delItem_list (k := k) e (fitsIndex_both h1 h2) (by rw [List.size_toArray, ← hl]; exact hk) (h _ ?_) (by rw [List.size_toArray]; omega)
  refine I.lset (its' := its.eraseIdx k) (t' := s.toks) hH e ?_ (r.eraseIdx k) ?_
  · show its.toArray.eraseIdxIfInBounds k = (its.eraseIdx k).toArray
    rw [List.eraseIdxIfInBounds_toArray]
  · have := len_erase xs k
    omega
end

/-! ### xs[a:b] = ys -/
section
variable {prog : Program} {w : World} {A : Around} {E : Value → Shared → Prop} {s : Shared}
theorem splice_eq (its its2 : List Value) (a c : Nat) : its.toArray.extract 0 a ++ its2.toArray ++ its.toArray.extract c its.toArray.size = (its.take a ++ its2 ++ its.drop c).toArray := by
  apply Array.toList_inj.mp
  first
    | (simp
       exact List.take_of_length_le (by simp))
    | simp [List.take_of_length_le]
    | simp
theorem bounds_run {a c n : Nat} (hac : a ≤ c) (hc : c ≤ n) : sliceBounds (some (a : Int)) (some (c : Int)) none n = ((a : Int), (c : Int), 1) := by
  simp only [sliceBounds, Option.getD_none]
  have h1 : ¬ ((a : Int) < 0) := by omega
  have h2 : ¬ ((c : Int) < 0) := by omega
  simp only [h1, h2, if_false, show (1 : Int) > 0 by decide, if_true]
  congr 1
  · omega
  · congr 1; omega
set_option maxRecDepth 100000 in
/-- list.__setitem__ with a slice of step one and another list -/
theorem setItem_slice {l b sl : Addr} {items new : Array Value} {n n2 : Nat} {vl vu : Value} {a c : Nat} {Q : Unit → Shared → Prop}
    (e : s.heap.get? l = some { cls := .type "list", data := .seq items n }) (e2 : s.heap.get? b = some { cls := .type "list", data := .seq new n2 }) (hne : l ≠ b)
    (hs : s.heap.IsSliceOf sl vl vu .none) (pl : IsPart vl (some (a : Int))) (pu : IsPart vu (some (c : Int))) (hac : a ≤ c) (hc : c ≤ items.size)
    (hsz : items.size + new.size ≤ sizeLine) (h : Q () { s with heap := s.heap.update l (Obj.mapSeq fun xs => xs.extract 0 a ++ new ++ xs.extract c xs.size) }) :
    wpAny (model prog w) A (setItem (.ref l) (.ref sl) (.ref b)) Q E s := by
  have hl : s.heap.IsList l items := PySem.IsL.isList e
  have hb : s.heap.IsList b new := PySem.IsL.isList e2
  obtain ⟨os, hos, hcs, hds⟩ := id hs
  have hTs : s.TypeIs (.ref sl) "slice" := ⟨os, hos, hcs⟩
  have hstep : ¬ ((rawPart none == rawInt 0) = true) := Bool.false_ne_true
  have hsame : Builtin.List.listSameRef (.ref l) (.ref b) = false := by
    unfold Builtin.List.listSameRef
    exact beq_eq_false_iff_ne.mpr hne
  have hmax : (max (a : Int) (c : Int)).toNat = c := by omega
  have hz' : ((fun xs : Array Value => xs.extract 0 a ++ new ++ xs.extract c xs.size) items).size ≤ sizeLine + 1 := by
    simp only [Array.size_append, Array.size_extract]
    omega
  unfold setItem
  try with_reducible refine wpAny_holding ?_
  first | refine wpAny_bind (wpAny_pure ?_) | skip
  refine wpAny_bind (wpAny_sequenceKey hl.typeIs (by decide) ?_)
  refine wpAny_bind (wpAny_callSpecial?_slot (name := Str.ofString "__setitem__") hl.typeIs slot_list_setitem
    (wpAny_call_entry slot_list_setitem hl.typeIs entry_list_setitem ?_ (args_list_setitem _ _ _)))
  show wpAny _ _ (Builtin.List.listSubscript? (.ref sl) >>= _) _ _ s
  refine wpAny_bind ?_
  unfold Builtin.List.listSubscript?
  refine wpAny_bind (wpAny_specialOf hTs slice_no_index ?_)
  simp only [Option.isNone_none, if_true]
  refine wpAny_pure ?_
  show wpAny _ _ (typeOf (.ref sl) >>= _) _ _ s
  refine wpAny_bind (wpAny_typeOf hTs ?_)
  first
    | rw [if_neg (by decide)]
    | refine PySem.W.KFB.if_not (by decide) ?_
  rw [listSliceParts_eq]
  refine wpAny_bind (wpAny_bind (wpAny_field hos hds (x := .none) rfl (wpAny_bind (wpAny_listPart .none ?_))))
  rw [if_neg hstep]
  refine wpAny_bind (wpAny_field hos hds (x := vl) rfl (wpAny_bind (wpAny_listPart pl ?_)))
  refine wpAny_bind (wpAny_field hos hds (x := vu) rfl (wpAny_bind (wpAny_listPart pu (wpAny_pure ?_))))
  first
    | simp only [hsame, Bool.false_eq_true, if_false]
    | refine PySem.W.KFB.if_not hsame ?_
    | (dsimp only
       rw [if_neg (by rw [hsame]; exact Bool.false_ne_true)])
  refine wpAny_bind (m := Builtin.List.listAllItems (.ref b) "must assign iterable to extended slice") ?_
  unfold Builtin.List.listAllItems
  refine wpAny_bind (wpAny_typeOf hb.typeIs ?_)
  first
    | refine PySem.W.KFB.if_so (by decide) ?_
    | rw [if_pos (by decide)]
    | simp only [beq_self_eq_true, Bool.true_or, if_true]
  unfold Builtin.List.listItems
  refine wpAny_bind (wpAny_seqItems e2 rfl (wpAny_pure ?_))
  refine wpAny_bind (wpAny_bind (wpAny_seqItems e rfl (wpAny_pure ?_)))
  refine wpAny_bind (wpAny_of_eq ((sliceIndices_raw (some (a : Int)) (some (c : Int)) none items.size (by simp)).trans (congrArg (pure : Int × Int × Int → Sem (Int × Int × Int)) (bounds_run hac hc))) ?_)
  show wpAny _ _ (if ((1 : Int) == 1) = true then _ else _) _ _ s
  rw [if_pos (by decide)]
  refine wpAny_bind (wpAny_rule ?_)
  first
    | simp only [notLongL hsz, Bool.false_eq_true, if_false]
    | refine PySem.W.KFB.if_not (notLongL hsz) ?_
  first | refine wpAny_bind (wpAny_pure ?_) | skip
  show wpAny _ _ (updateSeq l (fun xs => xs.extract 0 ((a : Int)).toNat ++ new ++ xs.extract (max (a : Int) (c : Int)).toNat xs.size) >>= _) _ _ s
  rw [hmax, Int.toNat_natCast]
  refine wpAny_bind (wpAny_updateSeq (hz := Nat.le_trans (Nat.le_add_right _ _) hsz) (_hz' := hz') e rfl ?_)
  refine wpAny_bind (wpAny_letGo ?_)
  first
    | exact wpAny_bind (wpAny_pure (wpAny_pure ⟨.none, rfl, wpAny_pure h⟩))
    | exact wpAny_pure ⟨.none, rfl, wpAny_pure h⟩
end

section
variable {X : Cx}
/-- xs[a:c] = ys of another list, at the value level: sl is the slice object that was just made -/
theorem set_slice {pins : List (Addr × Obj)} {s : Shared} {σ : St} {H : Hp} {l b sl : Addr} {xs ys : List V} {a c : Int} {vl vu : Value} {Q : Unit → Shared → Prop} (I : Inv X pins σ H s)
    (hH : H l = some (.lst xs)) (hB : H b = some (.lst ys)) (hne : l ≠ b) (hs : s.heap.IsSliceOf sl vl vu .none) (ra : RelV (.int a) vl) (rc : RelV (.int c) vu) (h0 : 0 ≤ a) (hac : a ≤ c) (hc : c ≤ xs.length)
    (hz : xs.length + ys.length ≤ sizeLine) (h : ∀ s', Inv X pins σ (upd H l (.lst (xs.take a.toNat ++ ys ++ xs.drop c.toNat))) s' → Q () s') :
    wpAny (model X.prog X.w) X.A (setItem (.ref l) (.ref sl) (.ref b)) Q X.xe s := by
  obtain ⟨ta, rfl⟩ := ra
  obtain ⟨tc, rfl⟩ := rc
  obtain ⟨z, its, n, r, hl, e⟩ := I.lstM hH
  obtain ⟨z2, its2, n2, r2, hl2, e2⟩ := I.lstM hB
  obtain ⟨a', rfl⟩ := Int.eq_ofNat_of_zero_le h0
  obtain ⟨c', rfl⟩ := Int.eq_ofNat_of_zero_le (Int.le_trans h0 hac)
  simp only [Int.toNat_natCast] at h
  refine setItem_slice (a := a') (c := c') e e2 hne hs (.int _ _) (.int _ _) (by omega) (by rw [List.size_toArray]; omega) (by rw [List.size_toArray, List.size_toArray]; omega) (h _ ?_)
  refine I.lset (its' := its.take a' ++ its2 ++ its.drop c') (t' := s.toks) hH e ?_ (Vals.append (Vals.append (r.take _) r2) (r.drop _)) ?_
  · exact splice_eq its its2 a' c'
  · rw [List.length_append, List.length_append, List.length_take, List.length_drop]
    omega
end
end L2

namespace Att
open PySem PySem.W PySem.Calls PyProof.Rows

/-! ### the script -/
theorem ints_of_wellAll {P : Params} {h : Heap} : ∀ (ns : List Int) (vs : List Value), WellAll P h vs (ns.map WData.int) → IntsAre vs ns := by
  intro ns
  induction ns with
  | nil =>
    intro vs w
    rw [List.map_nil] at w
    cases w
    exact .nil
  | cons n ns ih =>
    intro vs w
    rw [List.map_cons] at w
    cases w with
    | cons a b =>
      cases a
      exact .cons _ _ (ih _ b)

theorem script_of {l : OpenLaw} {n : Nat} (hn : l.most = some n) {P : Params} {h : Heap} {args : List WData} {vals : List Value}
    (hpre : l.row.toRowW.claim.pre args = true) (hwl : WellAll P h vals args) :
    ∃ a vs ns, vals = [Value.ref a] ∧ args = [WData.list (ns.map WData.int)] ∧ h.get? a = some { cls := .type "list", data := .seq vs.toArray } ∧ IntsAre vs ns ∧ ns.length ≤ n := by
  have hsh : WShape.hasAll [] args [.list .int] = true := (pre_splitW hpre).1
  have hc : l.pre.holds [] { args := args } = true := (pre_splitW hpre).2
  obtain ⟨d, r, rfl, h1, h2⟩ := hasAllW_cons hsh
  obtain rfl := hasAllW_nil h2
  obtain ⟨xs, rfl, h3⟩ := hasW_list h1
  obtain ⟨ns, rfl⟩ := items_int h3
  have hlen : ns.length ≤ n := by
    unfold OpenLaw.pre at hc
    have h4 : (WTm.not (.lt (.lit (.int (n : Int))) (.len (.arg 0)))).holds [] { args := [.list (ns.map .int)] } = true := by
      have h4 := (holds_andW hc).1
      rw [hn] at h4
      exact h4
    have h5 := condW_of h4 (w_not (w_lt w_lit (w_len_list (w_arg rfl))))
    rw [List.length_map] at h5
    refine Nat.le_of_not_lt fun q => ?_
    have q' : (n : Int) < ((ns.length : Nat) : Int) := by omega
    first
      | (rw [decide_eq_true q'] at h5; exact absurd h5 (by decide))
      | (simp at h5; omega)
  cases hwl with
  | cons w1 w2 =>
    cases w2
    cases w1 with
    | list ho hall => exact ⟨_, _, ns, rfl, rfl, ho, ints_of_wellAll ns _ hall, hlen⟩

theorem post_true (l : OpenLaw) (args : List WData) : l.row.toRowW.claim.post args (.bool true) args = true :=
  postW_of (r := l.row.toRowW) (X := (true == true))
    (show WShape.has [] (.bool true) .bool = true by first | rfl | decide | simp [WShape.has, WShape.arms, WShape.armsAll])
    (show (WTm.eq .res (.lit (.bool true))).value [] { args := args, res := some (.bool true), after := args } = some (.bool (true == true)) from w_eq_bool (w_res rfl) w_lit) rfl

/-! ### the attachment: holds_open's last premise (the goal 'hc' behind k_head) from a wpAny of the law's body -/
theorem attach {l : OpenLaw} {n : Nat} {q : Program} {loose : List Str} {XP : (Str → Option Value) → Heap → Prop} {YP : World → Heap → Prop} {d : DefRec} {x : Str}
    (hn : l.most = some n) (hdf : d.params.defaults = [])
    (hbind : ∀ pm cd doc v : Value, bindArgs (docDef d.name d.params d.body d.scope pm cd doc) ⟨[v], []⟩ = pure [(x, v)])
    (hx : d.scope.names.lookup x = some .local ∨ d.scope.names.lookup x = some .cell)
    (hk : d.scope.kind = .function) (hco : d.scope.isCoroutine = false) (hgen : d.scope.isGenerator = false)
    (body : ∀ (w : World) (s₀ s₁ s : Shared) (mg mb : Str → Option Value) (fa : Addr) (o : Obj) (pm cd doc : Value) (a : Addr) (vs : List Value) (ns : List Int),
      Ground q loose [] XP w s₀ mg mb s₁.heap → YP w s₁.heap →
      s₁.heap.get? fa = some o → o.data = .func (docDef d.name d.params d.body d.scope pm cd doc) → s₁.heap.CodeRec cd d.name → mg d.name = some (.ref fa) →
      s₁.heap.get? a = some { cls := .type "list", data := .seq vs.toArray } → IntsAre vs ns → ns.length ≤ n →
      s.gens = #[] → s.os = s₁.os →
      Fr s₁.heap s₁.heap.objs.size s.heap (bindL (envOfC d.name d.scope s₁.heap.objs.size fa cd).kindOf [(x, .ref a)] fun _ => none) →
      Cl s₁.heap.objs.size (cellsFrom (s₁.heap.objs.size + 1) d.scope.names []) s.heap (bindC (envOfC d.name d.scope s₁.heap.objs.size fa cd).kindOf [(x, .ref a)] fun _ => none) →
      wpAny (model l.prog w) (callerA.deeper (envOfC d.name d.scope s₁.heap.objs.size fa cd)) (execs d.body (envOfC d.name d.scope s₁.heap.objs.size fa cd))
        (fun f s' => f = .ret (.bool true) ∧ OldK s₁.heap s'.heap ∧ s'.os = s₁.os ∧ AllBare s'.gens) (fun _ _ => False) s) :
    WalkO q loose XP YP l.row.toRowW d [] (fun f vs => PySem.call f vs) := by
  intro w s₀ s₁ mg mb G Y fa o pm cd doc dV kV ho hd hcd hD hmg hg args vals as hpre hlay hrd hwl hlo
  obtain rfl : dV = .none := Dflts.none hD hdf
  obtain rfl : kV = .none := Dflts.noKw hD
  obtain ⟨a, vs, ns, rfl, rfl, hobj, hints, hlen⟩ := script_of hn hpre hwl
  refine enter_call ?_
  refine call_cells_ret (o := o) (by rw [depth_caller]; decide) ho (fd_plain hd) G.T.nolimit hcd (hbind pm cd doc (.ref a)) (fun y hy => ?_) (fun h₁ tk F X => ?_) hco hgen hk
  · obtain rfl : y = (x, Value.ref a) := List.mem_singleton.mp hy
    rcases hx with e | e
    · exact .inl e
    · exact .inr ⟨e, cellsFrom_some _ _ _ (.inl e)⟩
  · refine wpAny_mono (body w s₀ s₁ { s₁ with heap := h₁, toks := tk } mg mb fa o pm cd doc a vs ns G Y ho (fd_plain hd) hcd hmg hobj hints hlen hg rfl F X) (fun f s' hq => ?_) (fun _ _ hq => hq)
    obtain ⟨rfl, h2, h3, h4⟩ := hq
    exact ⟨.inl ⟨.bool true, .bool true, [], rfl, fun _ => rfl, .bool true, post_true l _, fun _ => ⟨List.Pairwise.nil, fun _ hm => (nomatch hm)⟩⟩, h2, h3, h4⟩

/-- the same from a codeAny of the CALL (for a layer whose function contracts speak of calls) -/
theorem attach_call {l : OpenLaw} {n : Nat} {q : Program} {loose : List Str} {XP : (Str → Option Value) → Heap → Prop} {YP : World → Heap → Prop} {d : DefRec}
    (hn : l.most = some n) (hdf : d.params.defaults = [])
    (call : ∀ (w : World) (s₀ s₁ : Shared) (mg mb : Str → Option Value) (fa : Addr) (o : Obj) (pm cd doc : Value) (a : Addr) (vs : List Value) (ns : List Int),
      Ground q loose [] XP w s₀ mg mb s₁.heap → YP w s₁.heap →
      s₁.heap.get? fa = some o → o.data = .func (docDef d.name d.params d.body d.scope pm cd doc) → s₁.heap.CodeRec cd d.name → mg d.name = some (.ref fa) →
      s₁.heap.get? a = some { cls := .type "list", data := .seq vs.toArray } → IntsAre vs ns → ns.length ≤ n → s₁.gens = #[] →
      codeAny (model l.prog w) callerA (.call (.ref fa) ⟨[.ref a], []⟩) (fun r s' => r = .ok (.ret (.bool true)) ∧ OldK s₁.heap s'.heap ∧ s'.os = s₁.os ∧ AllBare s'.gens) s₁) :
    WalkO q loose XP YP l.row.toRowW d [] (fun f vs => PySem.call f vs) := by
  intro w s₀ s₁ mg mb G Y fa o pm cd doc dV kV ho hd hcd hD hmg hg args vals as hpre hlay hrd hwl hlo
  obtain rfl : dV = .none := Dflts.none hD hdf
  obtain rfl : kV = .none := Dflts.noKw hD
  obtain ⟨a, vs, ns, rfl, rfl, hobj, hints, hlen⟩ := script_of hn hpre hwl
  refine enter_call (codeAny_mono (call w s₀ s₁ mg mb fa o pm cd doc a vs ns G Y ho (fd_plain hd) hcd hmg hobj hints hlen hg) fun r s' hq => ?_)
  obtain ⟨rfl, h2, h3, h4⟩ := hq
  exact ⟨.inl ⟨.bool true, .bool true, [], rfl, fun _ => rfl, .bool true, post_true l _, fun _ => ⟨List.Pairwise.nil, fun _ hm => (nomatch hm)⟩⟩, h2, h3, h4⟩

/-- the same where the top left finished generators (o_head chose holds_openN): nothing may have changed at all and no generator may be left -/
theorem attachN {l : OpenLaw} {n : Nat} {q : Program} {loose : List Str} {XP : (Str → Option Value) → Heap → Prop} {YP : World → Heap → Prop} {d : DefRec} {x : Str}
    (hn : l.most = some n) (hdf : d.params.defaults = [])
    (hbind : ∀ pm cd doc v : Value, bindArgs (docDef d.name d.params d.body d.scope pm cd doc) ⟨[v], []⟩ = pure [(x, v)])
    (hx : d.scope.names.lookup x = some .local ∨ d.scope.names.lookup x = some .cell)
    (hk : d.scope.kind = .function) (hco : d.scope.isCoroutine = false) (hgen : d.scope.isGenerator = false)
    (body : ∀ (w : World) (s₀ s₁ s : Shared) (mg mb : Str → Option Value) (fa : Addr) (o : Obj) (pm cd doc : Value) (a : Addr) (vs : List Value) (ns : List Int),
      Ground q loose [] XP w s₀ mg mb s₁.heap → YP w s₁.heap →
      s₁.heap.get? fa = some o → o.data = .func (docDef d.name d.params d.body d.scope pm cd doc) → s₁.heap.CodeRec cd d.name → mg d.name = some (.ref fa) →
      s₁.heap.get? a = some { cls := .type "list", data := .seq vs.toArray } → IntsAre vs ns → ns.length ≤ n →
      s.gens = #[] → s.os = s₁.os →
      Fr s₁.heap s₁.heap.objs.size s.heap (bindL (envOfC d.name d.scope s₁.heap.objs.size fa cd).kindOf [(x, .ref a)] fun _ => none) →
      Cl s₁.heap.objs.size (cellsFrom (s₁.heap.objs.size + 1) d.scope.names []) s.heap (bindC (envOfC d.name d.scope s₁.heap.objs.size fa cd).kindOf [(x, .ref a)] fun _ => none) →
      wpAny (model l.prog w) (callerA.deeper (envOfC d.name d.scope s₁.heap.objs.size fa cd)) (execs d.body (envOfC d.name d.scope s₁.heap.objs.size fa cd))
        (fun f s' => f = .ret (.bool true) ∧ (∀ b o, s₁.heap.get? b = some o → s'.heap.get? b = some o) ∧ s'.os = s₁.os ∧ s'.gens = #[]) (fun _ _ => False) s) :
    WalkN q loose XP YP l.row.toRowW d [] (fun f vs => PySem.call f vs) := by
  intro w s₀ s₁ mg mb G Y fa o pm cd doc dV kV ho hd hcd hD hmg hg args vals as hpre hlay hrd hwl hlo
  obtain rfl : dV = .none := Dflts.none hD hdf
  obtain rfl : kV = .none := Dflts.noKw hD
  obtain ⟨a, vs, ns, rfl, rfl, hobj, hints, hlen⟩ := script_of hn hpre hwl
  refine enter_callW ?_
  refine call_cells_ret (o := o) (by rw [depth_caller]; decide) ho (fd_plain hd) G.T.nolimit hcd (hbind pm cd doc (.ref a)) (fun y hy => ?_) (fun h₁ tk F X => ?_) hco hgen hk
  · obtain rfl : y = (x, Value.ref a) := List.mem_singleton.mp hy
    rcases hx with e | e
    · exact .inl e
    · exact .inr ⟨e, cellsFrom_some _ _ _ (.inl e)⟩
  · refine wpAny_mono (body w s₀ s₁ { s₁ with heap := h₁, toks := tk } mg mb fa o pm cd doc a vs ns G Y ho (fd_plain hd) hcd hmg hobj hints hlen hg rfl F X) (fun f s' hq => ?_) (fun _ _ hq => hq)
    obtain ⟨rfl, h2, h3, h4⟩ := hq
    exact ⟨.inl ⟨.bool true, .bool true, [], rfl, fun _ => rfl, .bool true, post_true l _, fun _ => ⟨List.Pairwise.nil, fun _ hm => (nomatch hm)⟩⟩, h2, h3, h4⟩

/-! ### rules over ANY heap (no ledger) from facts about the written part K: the library's own take a ledger (News) for what they write -/
section
variable {prog : Program} {w : World} {A : Around} {E : Value → Shared → Prop} {s : Shared} {K : Frag}

/-- a def of the module, or a method (qual 'C.m'), entered: the frame is the next address; cells behind it -/
theorem call_fn {R : Result → Shared → Prop} {name qual : Str} {params : Arguments} {body : List Stmt} {scope : Scope} {dV kV doc pm cdv ct oc : Value} {an od : Option Addr} {osl : Array (Option Value)} {f : Addr} {args : Args} {binds : List (Str × Value)}
    (X : K.In s.heap) (hlim : s.heap.NoLimit) (ho : K.lookup f = some ⟨oc, od, .func (fnOf name qual params body scope dV kV doc pm an cdv ct), osl⟩) (hcd : codeIn K cdv qual = true) (hroom : A.depth < recursionLimit)
    (hbind : BindsTo s (fnOf name qual params body scope dV kV doc pm an cdv ct) args binds)
    (hkind : (binds.all fun y => scope.names.lookup y.1 == some .local || scope.names.lookup y.1 == some .cell) = true)
    (h : ∀ s₁, InCallC s s.heap.objs.size (bindL (envOfC qual scope s.heap.objs.size f cdv).kindOf binds fun _ => none) (cellsFrom (s.heap.objs.size + 1) scope.names [])
        (bindC (envOfC qual scope s.heap.objs.size f cdv).kindOf binds fun _ => none) s₁ →
      wpAny (model prog w) (A.deeper (envOfC qual scope s.heap.objs.size f cdv)) (execs body (envOfC qual scope s.heap.objs.size f cdv))
        (fun fl s' => R (.ok (.ret (match fl with | .ret v => v | _ => .none))) s')
        (fun e s' => wpAny (model prog w) (A.deeper (envOfC qual scope s.heap.objs.size f cdv)) (leaving (envOfC qual scope s.heap.objs.size f cdv) e) (fun _ s'' => R (.error e) s'') (fun e' s'' => R (.error e') s'') s') s₁)
    (hco : scope.isCoroutine = false) (hgen : scope.isGenerator = false) (hk : scope.kind = .function) : codeAny (model prog w) A (.call (.ref f) args) R s := by
  refine codeAny_call_function hroom (X _ _ ho) rfl hco hgen rfl (codeRec_of X hcd) (hbind _ _ _ _ ?_)
  refine wpAny_newFunctionEnv_cells hk (kindsX hkind _) fun env he s₁ x => ?_
  subst he
  exact ⟨hlim.keeps x.toInCall.keep, codeAny_func (h s₁ x)⟩

/-- C(..): dict at size, instance at size + 1, then __init__ -/
theorem make_obj {R : Result → Shared → Prop} {C fI : Addr} {rest : List Value} {kw : List (Str × Value)}
    (X : K.In s.heap) (hm : makesIn K C = true) (hi : findIn K (.ref C) "__init__" = some (some (.ref fI))) (hf : isFn K (.ref fI) = true)
    (h : codeAny (model prog w) (A.under (.builtin "type.__call__" ⟨.ref C :: rest, kw⟩)) (.call (.ref fI) ⟨.ref (s.heap.objs.size + 1) :: rest, kw⟩) (InitBack (s.heap.objs.size + 1) R)
      { s with heap := (s.heap.push emptyDict).push (instObj C s.heap.objs.size) }) : codeAny (model prog w) A (.call (.ref C) ⟨rest, kw⟩) R s := by
  obtain ⟨hh, g, d, t, os⟩ := s
  exact make_core (makes_of X hm) (looks_findIn X hi) (fun self => bind_fn X self (beq_iff_eq.mp hf)) (.inl rfl) h

/-- x.name where the instance's dict holds the name and the class does not -/
theorem get_field {x C : Addr} {ox : Obj} {es : List DictEntry} {n : Nat} {name : Str} {expr : Bool} {v : Value} {Q : Value → Shared → Prop}
    (X : K.In s.heap) (I : PySem.W.InstAt s.heap x ox C (some (dictOf es n))) (hg : plainGet K C name = true) (hh : hasDictIn K C = true) (ha : findIn K (.ref C) name = some none)
    (hl : getL name es = some (some v)) (hv : handedIn v = true) (h : Q v { s with toks := s.toks + 1 }) : wpAny (model prog w) A (getAttr (.ref x) name expr) Q E s :=
  get_value X I (plainGet_of hg).1 (findObj_own hh ha rfl hl) hv h

/-- x.m(..): the method found in the class -/
theorem get_method {x C f : Addr} {ox : Obj} {es : List DictEntry} {n : Nat} {name : Str} {pl : Sem Bool} {Q : Value × List Value → Shared → Prop}
    (X : K.In s.heap) (I : PySem.W.InstAt s.heap x ox C (some (dictOf es n))) (hg : plainGet K C name = true) (hf : findIn K (.ref C) name = some (some (.ref f))) (ht : isFn K (.ref f) = true)
    (hl : getL name es = some none) (h : Q (.ref f, [.ref x]) s) : wpAny (model prog w) A (getMethod (.ref x) name pl) Q E s :=
  method_fn X I (plainGet_of hg).1 (plainGet_of hg).2 hf (beq_iff_eq.mp ht) (by show (lookIn name (dictOf es n)).map _ = _; rw [lookIn_dict, hl]; rfl) h

/-! the whole heap as the ledger: makes every rule that writes through a ledger a rule over any heap -/
def noObjs (h : Heap) : Heap := { h with objs := #[] }
theorem noObjs_get (h : Heap) (b : Addr) : (noObjs h).get? b = none := by
  cases e : (noObjs h).get? b with
  | none => rfl
  | some o => exact absurd (Heap.lt_size e) (Nat.not_lt_zero _)
def ledger (h : Heap) (L d : Addr) : List (Addr × Obj) := (List.range h.objs.size).filterMap fun a => if a = L ∨ a = d then none else (h.get? a).map fun o => (a, o)
theorem mem_ledger {h : Heap} {L d a : Addr} {o : Obj} : (a, o) ∈ ledger h L d ↔ a ≠ L ∧ a ≠ d ∧ h.get? a = some o := by
  unfold ledger
  rw [List.mem_filterMap]
  constructor
  · rintro ⟨b, _, e⟩
    split at e
    · cases e
    · rename_i hb
      obtain ⟨o', ho, e'⟩ := Option.map_eq_some_iff.mp e
      cases e'
      exact ⟨fun q => hb (.inl q), fun q => hb (.inr q), ho⟩
  · rintro ⟨n1, n2, ho⟩
    refine ⟨a, List.mem_range.mpr (Heap.lt_size ho), ?_⟩
    rw [if_neg (show ¬ (a = L ∨ a = d) from fun q => q.elim n1 n2), ho] <;> rfl
theorem news_ledger {h : Heap} {L d : Addr} {od : Obj} (hne : d ≠ L) (ho : h.get? d = some od) : News (noObjs h) L h ([] ++ (d, od) :: ledger h L d) := by
  rintro ⟨a, o⟩ hp
  rcases List.mem_cons.mp hp with e | hp
  · cases e
    exact ⟨ho, hne, noObjs_get _ _⟩
  · obtain ⟨n1, n2, e⟩ := mem_ledger.mp hp
    exact ⟨e, n1, noObjs_get _ _⟩
theorem fr_all {h : Heap} {L : Addr} {m : Str → Option Value} (n : h.Ns L m) : Fr (noObjs h) L h m :=
  ⟨n, fun b o e => (by rw [noObjs_get] at e; cases e), Nat.zero_le _⟩
/-- Upd of the head entry (for append_K, setItem_K ..) -/
theorem upd_ledger {h : Heap} {L d : Addr} {o o' : Obj} : Upd d o o' ((d, o) :: ledger h L d) ((d, o') :: ledger h L d) :=
  .head fun ⟨_, _⟩ hp => (mem_ledger.mp hp).2.1

/-- x.name = v over any heap: L is any namespace of the heap (the frame's, say): its map stays, its object is not told; all else but the dict stays -/
theorem set_field {x C dx L : Addr} {ox : Obj} {m : Str → Option Value} {es es' : List DictEntry} {n n' : Nat} {name : Str} {v : Value} {Q : Unit → Shared → Prop}
    (X : K.In s.heap) (I : PySem.W.InstAt s.heap x ox C (some (dictOf es n))) (hd : ox.dict = some dx) (hL : s.heap.Ns L m) (hne : dx ≠ L)
    (hs : findIn K (.ref C) "__setattr__" = some (some (.builtin "object.__setattr__"))) (hp : plainOver K C = true) (ht : takerIn K C name = some none) (hh : hasDictIn K C = true) (hl : (getL name es).isSome = true)
    (e : (putL name (PyData.keyHash w.params name) (.str name (s.toks + 1)) v es, putN name es n) = (es', n')) (hz : es'.length ≤ 1000)
    (h : ∀ h' : Heap, h'.Ns L m → h'.get? dx = some (dictOf es' n') → (∀ b o, b ≠ dx → b ≠ L → s.heap.get? b = some o → h'.get? b = some o) → Q () { s with heap := h', toks := s.toks + 2 }) :
    wpAny (model prog w) A (setAttr (.ref x) name v) Q E s := by
  obtain ⟨e1, e2⟩ := Prod.mk.inj e
  have hdx : s.heap.get? dx = some (dictOf es n) := by
    have := I.dict
    rw [hd] at this
    exact this
  refine set_plain X I hs (osa_dict (s := { s with toks := s.toks + 1 }) (h₀ := noObjs s.heap) (L := L) (m := m) (od := dictOf es n) (od' := dictOf es' n') (es := es') (n := n') (pre := []) (post := ledger s.heap L dx)
    (fr_all hL) (news_ledger hne hdx) X I hd hp ht hh hl (fun _ q => nomatch q) (fun ⟨_, _⟩ q => (mem_ledger.mp q).2.1) (by rw [putName_dict, e1, e2]) rfl hz fun h' F' N' => ?_)
  exact h h' F'.ns (N'.get (List.Mem.head _)) fun b o n1 n2 ho => N'.get (List.Mem.tail _ (mem_ledger.mpr ⟨n2, n1, ho⟩))
end
end Att

namespace L2
open PySem PySem.Spec PyProof.Rows

theorem vals_ints : ∀ {vs : List Value} {ns : List Int}, IntsAre vs ns → Vals (ns.map V.int) vs
  | _, _, .nil => .nil
  | _, _, .cons n t h => .cons ⟨t, rfl⟩ (vals_ints h)

/-- nothing is tracked but the script, known to the object (or it is an object of the module) -/
def Only (H : Hp) : Prop := ∀ b, H b = none ∨ ∃ o xs, H b = some (.frz o (.lst xs))

/-- THE HEAD: the law's promise, at the heap behind the top. F, the promise of the law's def, may use that base is part of the heap (so K.In base, base.Ns mainGlobals mg stand in Mod) -/
theorem law_call {P : Program} {w : World} {K : PySem.W.Frag} {mg mb : Str → Option Value} {CX : CXT} {k : Nat} {fa a : Addr} {fd : FuncData} {x : Str} {sp : Sp} {s₁ : Shared} {vs : List Value} {ns : List Int}
    (KX : K.In s₁.heap) (hns : s₁.heap.Ns mainGlobals mg) (hb : s₁.heap.Ns builtinsNs mb) (hbb : ∀ x : Str, x ≠ "__name__" → mb x = bootBuiltins x) (hlim : s₁.heap.NoLimit) (hg : s₁.gens = #[])
    (ha : s₁.heap.get? a = some { cls := .type "list", data := .seq vs.toArray }) (hi : IntsAre vs ns) (hl : ns.length ≤ sizeLine) (hr : Room k callerA)
    (F : ∀ base : Heap, K.In base → base.Ns mainGlobals mg → FnOk P w K mg base CX k fa fd [x] sp) (hbind : ∀ (s : Shared) (u : Value), BindsTo s fd ⟨[u], []⟩ [(x, u)])
    (hsp : ∀ H : Hp, Only H → SqL K H a (ns.map V.int) → sp [.ref a] H (fun v _ => v = .bl true) fun _ _ _ => False)
    (hCX : ∀ H e s', CX [] H s₁ (fun _ _ _ => False) e s' → False) :
    codeAny (model P w) callerA (.call (.ref fa) ⟨[.ref a], []⟩) (fun r s' => r = .ok (.ret (.bool true)) ∧ OldK s₁.heap s'.heap ∧ s'.os = s₁.os ∧ AllBare s'.gens) s₁ := by
  have rv := vals_ints hi
  have lenV := hi.length
  -- from an abstract heap in which nothing but the script may be tracked
  have core : ∀ H : Hp, Only H → SqL K H a (ns.map V.int) → HOk P w H s₁.heap → (∀ b, H b ≠ none → b = a) → (H a ≠ none → K.lookup a = none) →
      codeAny (model P w) callerA (.call (.ref fa) ⟨[.ref a], []⟩) (fun r s' => r = .ok (.ret (.bool true)) ∧ OldK s₁.heap s'.heap ∧ s'.os = s₁.os ∧ AllBare s'.gens) s₁ := by
    intro H hO hS hok hA hK
    have base_of : ∀ {b : Addr} {o : Obj}, s₁.heap.get? b = some o → H b = none → (hidT s₁.heap H).get? b = some o := fun e n => hidT_get e n
    have noA : ∀ {b : Addr} {o : Obj} {es : Array DictEntry} {ep : Nat}, s₁.heap.get? b = some o → o.data = .dict es ep → H b = none := fun {b o es ep} e d => by
      cases q : H b with
      | none => rfl
      | some u =>
        have e' : b = a := hA b (by rw [q]; simp)
        subst e'
        rw [ha] at e; cases e
        have d' : Data.seq vs.toArray _ = Data.dict es ep := d
        cases d'
    have nsK : ∀ {b : Addr} {m : Str → Option Value}, s₁.heap.Ns b m → (hidT s₁.heap H).Ns b m := fun {b m} ⟨o, es, ep, e, d, r⟩ => ⟨o, es, ep, base_of e (noA e d), d, r⟩
    have hKb : K.In (hidT s₁.heap H) := fun b o e => base_of (KX b o e) (by
      cases q : H b with
      | none => rfl
      | some u =>
        have e' : b = a := hA b (by rw [q]; simp)
        subst e'
        rw [hK (by rw [q]; simp)] at e; cases e)
    have hM : Mod K mg (hidT s₁.heap H) := ⟨hKb, nsK hns, ⟨mb, nsK hb, hbb⟩, let ⟨mc, h1, h2⟩ := hlim; ⟨mc, nsK h1, h2⟩⟩
    have e0 : Env0 P w K mg (hidT s₁.heap H) callerA [] s₁ H := ⟨rfl, hM, fun b o e => of_hidT e, Nat.le_of_eq (hidT_size _ _), trivial, fun b hb => absurd (show b ∈ ([] : List Addr) from hb) (by simp), hok, .of_eq hg⟩
    refine codeAny_mono ((F _ hKb (nsK hns)).run callerA [] s₁ H ⟨[.ref a], []⟩ [.ref a] [.ref a] _ _ hr e0 (hbind s₁ (.ref a)) (.cons rfl .nil) (hsp H hO hS)) fun r s' h => ?_
    cases r with
    | error e => exact (hCX H e s' h).elim
    | ok fl =>
      cases fl with
      | next => exact False.elim h
      | brk => exact False.elim h
      | cont => exact False.elim h
      | ret u =>
        obtain ⟨v, H', os, bare, un, hok', r', q⟩ := h
        have q' : v = .bl true := q
        subst q'
        obtain rfl : u = Value.bool true := r'
        refine ⟨rfl, OldK.of_keep fun b o e => ?_, os, bare⟩
        cases q : H b with
        | none => exact un.keep b o e q (by intro z; exact absurd (show b ∈ ([] : List Addr) from z) (by simp)) (by simp)
        | some u =>
          rcases hO b with z | ⟨ob, xs, z⟩
          · rw [q] at z; cases z
          · have z2 := un.frzs b ob _ z
            obtain ⟨e1, _⟩ := hok b _ z
            obtain ⟨e2, _⟩ := hok' b _ z2
            rw [e] at e1; cases e1
            exact e2
  cases hk : K.lookup a with
  | some o =>
    -- the script is one of the module's own objects
    have e := KX a o hk
    rw [ha] at e
    cases e
    refine core (fun _ => none) (fun _ => .inl rfl) (.inr ⟨_, vs.toArray, _, hk, rfl, rfl, rfl, by rw [List.size_toArray, lenV]; exact hl, by simpa using rv⟩) (fun b u z => by have z' : (none : Option HO) = some u := z; cases z') (fun b z => absurd rfl z) fun z => absurd rfl z
  | none =>
    refine core (fun b => if b = a then some (.frz { cls := .type "list", data := .seq vs.toArray } (.lst (ns.map V.int))) else none) (fun b => ?_) (.inl (.inr ⟨{ cls := .type "list", data := .seq vs.toArray }, if_pos rfl⟩)) (fun b u z => ?_) (fun b z => ?_) fun _ => hk
    · by_cases hb : b = a
      · exact .inr ⟨_, _, if_pos hb⟩
      · exact .inl (if_neg hb)
    · by_cases hb : b = a
      · have z' := (if_pos hb).symm.trans z
        cases z'
        subst hb
        exact ⟨ha, by rw [List.length_map]; exact hl, vs, _, rv, ha⟩
      · have z' := (if_neg hb).symm.trans z
        cases z'
    · by_cases hb : b = a
      · exact hb
      · exact absurd (if_neg hb) z
end L2

namespace L2
open PySem PySem.Spec PyProof.Rows

abbrev KOf {K : PySem.W.Frag} {h : Heap} (_ : K.In h) : PySem.W.Frag := K

/-- the goal that k_head leaves (case hc), from the law's promise. F gives the function object fd (K's own) once, then the promise over every base -/
theorem walk_of {l : PySem.W.OpenLaw} {n k : Nat} {q : Program} {loose : List Str} {XP : (Str → Option Value) → Heap → Prop} {YP : World → Heap → Prop} {d : DefRec} {K : Params → PySem.W.Frag} {CX : World → CXT} {sp : World → Sp} {x : Str}
    (hn : l.most = some n) (hn2 : n ≤ sizeLine) (hdf : d.params.defaults = []) (hr : Room k callerA)
    (hY : ∀ (w : World) (h : Heap), YP w h → (K w.params).In h)
    (F : ∀ (w : World) (mg : Str → Option Value) (fa : Addr) (h : Heap), (K w.params).In h → h.Ns mainGlobals mg → mg d.name = some (.ref fa) →
      ∃ fd : FuncData, (∀ (s : Shared) (u : Value), BindsTo s fd ⟨[u], []⟩ [(x, u)]) ∧
        ∀ base : Heap, (K w.params).In base → base.Ns mainGlobals mg → FnOk l.prog w (K w.params) mg base (CX w) k fa fd [x] (sp w))
    (hsp : ∀ (w : World) (H : Hp) (a : Addr) (ns : List Int), ns.length ≤ n → Only H → SqL (K w.params) H a (ns.map V.int) → sp w [.ref a] H (fun v _ => v = .bl true) fun _ _ _ => False)
    (hCX : ∀ (w : World) (H : Hp) (s : Shared) (e : Value) (s' : Shared), CX w [] H s (fun _ _ _ => False) e s' → False) :
    PySem.W.WalkO q loose XP YP l.row.toRowW d [] (fun f vs => PySem.call f vs) := by
  refine Att.attach_call hn hdf fun w s₀ s₁ mg mb fa o pm cd doc a vs ns G Y ho hd hcd hmg hobj hints hlen hg => ?_
  have KX := hY w _ Y
  obtain ⟨fd, hb, hF⟩ := F w mg fa _ KX G.T.g hmg
  exact law_call KX G.T.g G.T.b G.T.builtins G.T.nolimit hg hobj hints (Nat.le_trans hlen hn2) hr hF hb (fun H hO hS => hsp w H a ns hlen hO hS) fun H e s' => hCX w H s₁ e s'
/-- the same where the promise hangs on the written part alone: (sp := My.sp_law), no hole under a binder -/
theorem walk_ofK {l : PySem.W.OpenLaw} {n k : Nat} {q : Program} {loose : List Str} {XP : (Str → Option Value) → Heap → Prop} {YP : World → Heap → Prop} {d : DefRec} {K : Params → PySem.W.Frag} {CX : CXT} {sp : PySem.W.Frag → Sp} {x : Str}
    (hn : l.most = some n) (hn2 : n ≤ sizeLine) (hdf : d.params.defaults = []) (hr : Room k callerA)
    (hY : ∀ (w : World) (h : Heap), YP w h → (K w.params).In h)
    (F : ∀ (w : World) (mg : Str → Option Value) (fa : Addr) (h : Heap), (K w.params).In h → h.Ns mainGlobals mg → mg d.name = some (.ref fa) →
      ∃ fd : FuncData, (∀ (s : Shared) (u : Value), BindsTo s fd ⟨[u], []⟩ [(x, u)]) ∧
        ∀ base : Heap, (K w.params).In base → base.Ns mainGlobals mg → FnOk l.prog w (K w.params) mg base CX k fa fd [x] (sp (K w.params)))
    (hsp : ∀ (K : PySem.W.Frag) (H : Hp) (a : Addr) (ns : List Int), ns.length ≤ n → Only H → SqL K H a (ns.map V.int) → sp K [.ref a] H (fun v _ => v = .bl true) fun _ _ _ => False)
    (hCX : ∀ (H : Hp) (s : Shared) (e : Value) (s' : Shared), CX [] H s (fun _ _ _ => False) e s' → False) :
    PySem.W.WalkO q loose XP YP l.row.toRowW d [] (fun f vs => PySem.call f vs) :=
  walk_of (K := K) (CX := fun _ => CX) (sp := fun w => sp (K w.params)) hn hn2 hdf hr hY F (fun w H a ns h1 h2 h3 => hsp (K w.params) H a ns h1 h2 h3) fun _ H s e s' => hCX H s e s'
end L2

/- THE LAST THEOREM (shape; LID, My.* are yours):
   My.Adr: a structure of the addresses that your layer names (classes, functions); My.Txt K t: a structure (Prop) of the equations over K;
   My.txt_mk : {K} {implicit addresses ..} (e1 : nsIn K mainGlobals "law" = some (some (.ref f))) (e2 : K.lookup f = some ⟨oc, od, .func (fnOf "law" "law" params body scope dV kV doc pm an cdv ct), sl⟩) (e3 : codeIn K cdv "law" = true) .. : ∃ t, My.Txt K t

set_option maxRecDepth 100000 in
set_option maxHeartbeats 0 in
theorem PySem.Challenge.cw_LID_holds : PySem.Challenge.rw_LID.Holds := by
  w_on; o_law; k_head; (case hw => w_witness2)
  k_fill
  refine L2.walk_of (l := PySem.Challenge.rw_LID) (n := 63) (k := 40) (x := "script") (CX := fun w => ..) (sp := fun _ => My.sp_law) rfl (by decide) rfl ⟨rfl, by decide, by decide⟩ (fun w h Y => PySem.W.kIn_of Y) ?F ?S ?C
  case F =>
    intro w mg fa h KX G hmg
    have T : ∃ t, My.Txt (L2.KOf KX) t := by
      dsimp only [L2.KOf]                          -- K must stand as «<heap const> w.params» for k_is
      refine' My.txt_mk ?e1 ?e2 ?e3 ..
      (case e1 => PySem.W.k_is)                    -- in the order: a name -> its address -> its object -> its parts
      (case e2 => PySem.W.k_is)
      ..
    obtain ⟨t, T⟩ := T
    have e0 := hmg.symm.trans (PySem.W.mg_of KX G T.law)
    cases e0                                       -- fa is the law's own address
    exact ⟨_, fun s u => .of_eq rfl, fun base kb nb => My.law_fn T kb nb⟩     -- if «.of_eq rfl» comes too early: refine' ⟨_, ?b, fun base kb nb => My.law_fn T kb nb⟩; exact fun s u => .of_eq rfl
  case S => exact fun w H a ns hl hO hS => ..
  case C => exact ..
(the tactic k_is has no namespace: write k_is) -/

/-! SHORT WORDS over the layer: a def of the text, its body, what a loop and a test want. -/
namespace L2
open PySem PySem.Spec PyProof.Rows

/-! ### the text by places -/
/-- the j-th statement of a class's body -/
def inClass (s : Stmt) (j : Nat) : Stmt := match s with
  | .ClassDef _ _ _ body _ _ _ _ _ _ _ => body.getD j (.Pass ⟨0, 0, 0, 0⟩)
  | _ => .Pass ⟨0, 0, 0, 0⟩
def defArgs (s : Stmt) : Arguments := match s with
  | .FunctionDef _ a _ _ _ _ _ _ _ _ => a
  | _ => { posonlyargs := [], args := [], vararg := none, kwonlyargs := [], kw_defaults := [], kwarg := none, defaults := [] }
def defBody (s : Stmt) : List Stmt := match s with
  | .FunctionDef _ _ b _ _ _ _ _ _ _ => b
  | _ => []
def defScope (s : Stmt) : Scope := match s with
  | .FunctionDef _ _ _ _ _ _ sc _ _ _ => sc
  | _ => { kind := .function, names := [], isGenerator := false, isCoroutine := false }

/-! ### no exception leaves a def -/
abbrev CX0 : CXT := fun _ _ _ _ _ _ => False
abbrev E0 : XK := fun _ _ _ => False
theorem pass0 {X : Cx} : Passes CX0 X E0 := fun _ _ _ _ _ _ _ h => h.elim

/-! ### a def (or method) of the text as it stands behind the top -/
structure Fun (K : PySem.W.Frag) (x qual : Str) (st : Stmt) (f : Addr) (fd : FuncData) : Prop where
  ex : ∃ (oc : Value) (od : Option Addr) (kV doc pm : Value) (an : Option Addr) (cdv ct : Value) (osl : Array (Option Value)),
    fd = PySem.W.fnOf x qual (defArgs st) (defBody st) (defScope st) .none kV doc pm an cdv ct ∧ K.lookup f = some ⟨oc, od, .func fd, osl⟩ ∧ PySem.W.codeIn K cdv qual = true
  kp : PySem.W.keepIn K (.ref f) = true
section
variable {P : Program} {w : World} {K : PySem.W.Frag} {mg : Str → Option Value} {base : Heap}
/-- THE RULE for a def: its body as a term of rules, and the reading of that term -/
theorem Fun.ok {x qual : Str} {st : Stmt} {f : Addr} {fd : FuncData} {N ps : List Str} {k : Nat} {sp : Sp} (F : Fun K x qual st f fd) (S : FnScope N ps (defScope st)) (len : ∀ vs H Q E, sp vs H Q E → vs.length = ps.length)
    (hbody : ∀ (cdv : Value) (A : Around) (outer : List Env) (s : Shared) (H : Hp) (vs : List V) (Q : VK) (E : XK), Room k (A.deeper (envOfC qual (defScope st) s.heap.objs.size f cdv)) → sp vs H Q E →
      ∃ t, PSs (cxOf CX0 P w K mg base N qual (defScope st) f cdv A outer s H E).nox (defBody st) t ∧ t { nx := fun _ H' => Q .non H', rt := Q } (start N vs) H) : FnOk P w K mg base CX0 (k + 1) f fd ps sp := by
  obtain ⟨oc, od, kV, doc, pm, an, cdv, ct, osl, rfl, lk, hcd⟩ := F.ex
  refine fn_of lk hcd S len fun A outer s H vs Q E hr hsp => ?_
  obtain ⟨t, h, q⟩ := hbody cdv A outer s H vs Q E hr hsp
  exact ⟨t, h.nox, q⟩
/-- how its arguments bind (no defaults): h is «fun _ _ _ _ _ _ us hl => match us, hl with | [_, _], _ => rfl», one _ a parameter -/
theorem Fun.binds {x qual : Str} {st : Stmt} {f : Addr} {fd : FuncData} {ps : List Str} (F : Fun K x qual st f fd)
    (h : ∀ (kV doc pm : Value) (an : Option Addr) (cdv ct : Value) (us : List Value), us.length = ps.length → bindArgs (PySem.W.fnOf x qual (defArgs st) (defBody st) (defScope st) .none kV doc pm an cdv ct) ⟨us, []⟩ = pure (ps.zip us)) : Binds K fd ps [] := by
  obtain ⟨oc, od, kV, doc, pm, an, cdv, ct, osl, rfl, lk, hcd⟩ := F.ex
  exact .all (h kV doc pm an cdv ct)
theorem fun_mk {x qual : Str} {st : Stmt} {f : Addr} {oc : Value} {od an : Option Addr} {osl : Array (Option Value)} {kV doc pm cdv ct : Value} (l : K.lookup f = some ⟨oc, od, .func (PySem.W.fnOf x qual (defArgs st) (defBody st) (defScope st) .none kV doc pm an cdv ct), osl⟩)
    (c : PySem.W.codeIn K cdv qual = true) (k : PySem.W.keepIn K (.ref f) = true) : Fun K x qual st f (PySem.W.fnOf x qual (defArgs st) (defBody st) (defScope st) .none kV doc pm an cdv ct) := ⟨⟨oc, od, kV, doc, pm, an, cdv, ct, osl, rfl, l, c⟩, k⟩
end
theorem hu_of {A : Around} {k : Nat} (hr : Room k A) : A.units + 1 < cLine := Nat.lt_of_le_of_lt (Nat.add_le_add_left (by decide : 1 ≤ 64) _) hr.units
theorem small1000 {n : Nat} (h : n ≤ 1000) : n < sizeLine := Nat.lt_of_le_of_lt h (by decide)

/-! ### expressions in short: the name that stands in the i-th slot -/
section
variable {X : Cx}
theorem pv (i : Nat) {x : Str} {pos : Pos} (hN : X.N[i]? = some x := by rfl) (hv : Vis X.env.scope x := by first | exact Or.inl rfl | exact Or.inr (Or.inl rfl) | exact Or.inr (Or.inr rfl)) (hd : (x == ("__debug__" : Str)) = false := by decide)
    (hcd : (x == ("__classdict__" : Str)) = false := by decide) : PE X (.Name x pos) (tVar i) := pe_var hN hv hd hcd
end

/-! ### tests -/
theorem iteF {A B : Prop} (h : B) : if false = true then A else B := by
  rw [if_neg Bool.false_ne_true]
  exact h
theorem iteT {A B : Prop} (h : A) : if true = true then A else B := by
  rw [if_pos rfl]
  exact h
theorem ite2 {c A B : Prop} [Decidable c] (h1 : c → A) (h2 : ¬ c → B) : if c then A else B := by
  by_cases h : c
  · rw [if_pos h]
    exact h1 h
  · rw [if_neg h]
    exact h2 h
theorem iteNS {c A B : Prop} [Decidable c] (hc : c) (h : B) : if (!decide c) = true then A else B := by
  rw [decide_eq_true hc]
  exact iteF h

/-! ### heaps -/
/-- all that was tracked is as it was -/
def Same (H H' : Hp) : Prop := ∀ b o, H b = some o → H' b = some o
theorem Same.refl (H : Hp) : Same H H := fun _ _ h => h
theorem Same.trans {H H1 H2 : Hp} (a : Same H H1) (b : Same H1 H2) : Same H H2 := fun c o h => b c o (a c o h)
theorem Same.free {H H' : Hp} (e : Same H H') {l : Addr} (h : H' l = Option.none) : H l = Option.none := by
  cases q : H l with
  | none => rfl
  | some o =>
    rw [e l o q] at h
    cases h
theorem Same.seq {K : PySem.W.Frag} {H H' : Hp} {a : Addr} {xs : List V} (e : Same H H') (h : SqL K H a xs) : SqL K H' a xs := by
  rcases h with (h | ⟨o, h⟩) | h
  · exact .inl (.inl (e _ _ h))
  · exact .inl (.inr ⟨o, e _ _ h⟩)
  · exact .inr h

end L2

set_option Elab.async false
set_option linter.all false
set_option maxRecDepth 100000
namespace EV
open PySem PySem.Spec PyProof.Rows L2

/-! ## data without a heap -/
inductive D where
  | non | bl (b : Bool) | int (i : Int) | str (x : Str) | tup (ds : List D) | lst (ds : List D) | exc (C : Addr)

/-- an exception of the class at C stands at a -/
def excP (a C : Addr) : Heap → Prop := fun h => ∃ o, h.get? a = some o ∧ o.cls = .ref C ∧ ∃ vs, o.data = .fields vs

mutual
def Rep (K : PySem.W.Frag) (H : Hp) : D → V → Prop
  | .non, v => v = .non
  | .bl b, v => v = .bl b
  | .int i, v => v = .int i
  | .str x, v => v = .str x
  | .tup ds, v => ∃ a xs, v = .ref a ∧ SqT K H a xs ∧ Reps K H ds xs
  | .lst ds, v => ∃ a xs, v = .ref a ∧ SqL K H a xs ∧ Reps K H ds xs
  | .exc C, v => ∃ a, v = .ref a ∧ H a = some (.ext (excP a C))
def Reps (K : PySem.W.Frag) (H : Hp) : List D → List V → Prop
  | [], xs => xs = []
  | d :: ds, xs => ∃ x r, xs = x :: r ∧ Rep K H d x ∧ Reps K H ds r
end

theorem same_tup {K : PySem.W.Frag} {H H' : Hp} {a : Addr} {xs : List V} (e : Same H H') (h : SqT K H a xs) : SqT K H' a xs := by
  rcases h with (h | ⟨o, h⟩) | h
  · exact .inl (.inl (e _ _ h))
  · exact .inl (.inr ⟨o, e _ _ h⟩)
  · exact .inr h

mutual
theorem Rep.mono {K : PySem.W.Frag} {H H' : Hp} (e : Same H H') : ∀ (d : D) {v : V}, Rep K H d v → Rep K H' d v
  | .non, _, h => by simpa [Rep] using h
  | .bl b, _, h => by simpa [Rep] using h
  | .int i, _, h => by simpa [Rep] using h
  | .str x, _, h => by simpa [Rep] using h
  | .tup ds, _, h => by
    simp only [Rep] at h ⊢
    obtain ⟨a, xs, e1, h1, h2⟩ := h
    exact ⟨a, xs, e1, same_tup e h1, Reps.mono e ds h2⟩
  | .lst ds, _, h => by
    simp only [Rep] at h ⊢
    obtain ⟨a, xs, e1, h1, h2⟩ := h
    exact ⟨a, xs, e1, e.seq h1, Reps.mono e ds h2⟩
  | .exc C, _, h => by
    simp only [Rep] at h ⊢
    obtain ⟨a, e1, h1⟩ := h
    exact ⟨a, e1, e _ _ h1⟩
theorem Reps.mono {K : PySem.W.Frag} {H H' : Hp} (e : Same H H') : ∀ (ds : List D) {xs : List V}, Reps K H ds xs → Reps K H' ds xs
  | [], _, h => by simpa [Reps] using h
  | d :: ds, _, h => by
    simp only [Reps] at h ⊢
    obtain ⟨x, r, e1, h1, h2⟩ := h
    exact ⟨x, r, e1, Rep.mono e d h1, Reps.mono e ds h2⟩
end

section
variable {K : PySem.W.Frag} {H : Hp} {v : V}
theorem rep_int {i : Int} : Rep K H (.int i) v ↔ v = .int i := by simp only [Rep]
theorem rep_bl {i : Bool} : Rep K H (.bl i) v ↔ v = .bl i := by simp only [Rep]
theorem rep_non : Rep K H .non v ↔ v = .non := by simp only [Rep]
theorem rep_str {i : Str} : Rep K H (.str i) v ↔ v = .str i := by simp only [Rep]
theorem rep_tup {ds : List D} : Rep K H (.tup ds) v ↔ ∃ a xs, v = .ref a ∧ SqT K H a xs ∧ Reps K H ds xs := by simp only [Rep]
theorem rep_lst {ds : List D} : Rep K H (.lst ds) v ↔ ∃ a xs, v = .ref a ∧ SqL K H a xs ∧ Reps K H ds xs := by simp only [Rep]
theorem rep_exc {C : Addr} : Rep K H (.exc C) v ↔ ∃ a, v = .ref a ∧ H a = some (.ext (excP a C)) := by simp only [Rep]
theorem reps_nil {xs : List V} : Reps K H [] xs ↔ xs = [] := by simp only [Reps]
theorem reps_cons {d : D} {ds : List D} {xs : List V} : Reps K H (d :: ds) xs ↔ ∃ x r, xs = x :: r ∧ Rep K H d x ∧ Reps K H ds r := by simp only [Reps]
theorem Reps.length : ∀ {ds : List D} {xs : List V}, Reps K H ds xs → ds.length = xs.length
  | [], _, h => by rw [reps_nil] at h; subst h; rfl
  | d :: ds, _, h => by
    rw [reps_cons] at h
    obtain ⟨x, r, rfl, _, h2⟩ := h
    simp [Reps.length h2]
theorem Reps.get : ∀ {ds : List D} {xs : List V} {i : Nat} {d : D}, Reps K H ds xs → ds[i]? = some d → ∃ x, xs[i]? = some x ∧ Rep K H d x
  | [], _, _, _, _, e => by simp at e
  | d :: ds, _, i, d', h, e => by
    rw [reps_cons] at h
    obtain ⟨x, r, rfl, h1, h2⟩ := h
    cases i with
    | zero => simp at e; subst e; exact ⟨x, by simp, h1⟩
    | succ i =>
      obtain ⟨y, e2, h3⟩ := Reps.get (i := i) (d := d') h2 (by simpa using e)
      exact ⟨y, by simpa using e2, h3⟩
theorem Reps.get' : ∀ {ds : List D} {xs : List V} {i : Nat} {x : V}, Reps K H ds xs → xs[i]? = some x → ∃ d, ds[i]? = some d ∧ Rep K H d x := fun {ds xs i x} h e => by
  have hl := h.length
  have hi : i < xs.length := (List.getElem?_eq_some_iff.mp e).1
  obtain ⟨y, e2, h2⟩ := h.get (i := i) (d := ds[i]'(by omega)) (by simp)
  rw [e] at e2; cases e2
  exact ⟨_, by simp, h2⟩
theorem Reps.append : ∀ {ds es : List D} {xs ys : List V}, Reps K H ds xs → Reps K H es ys → Reps K H (ds ++ es) (xs ++ ys)
  | [], _, _, _, h, g => by rw [reps_nil] at h; subst h; exact g
  | d :: ds, _, _, _, h, g => by
    rw [reps_cons] at h
    obtain ⟨x, r, rfl, h1, h2⟩ := h
    exact reps_cons.mpr ⟨x, r ++ _, rfl, h1, Reps.append h2 g⟩
theorem Reps.drop : ∀ (n : Nat) {ds : List D} {xs : List V}, Reps K H ds xs → Reps K H (ds.drop n) (xs.drop n)
  | 0, _, _, h => h
  | n + 1, [], _, h => by rw [reps_nil] at h; subst h; exact reps_nil.mpr rfl
  | n + 1, d :: ds, _, h => by
    rw [reps_cons] at h
    obtain ⟨x, r, rfl, h1, h2⟩ := h
    exact Reps.drop n h2
theorem Reps.take : ∀ (n : Nat) {ds : List D} {xs : List V}, Reps K H ds xs → Reps K H (ds.take n) (xs.take n)
  | 0, _, _, h => reps_nil.mpr rfl
  | n + 1, [], _, h => by rw [reps_nil] at h; subst h; exact reps_nil.mpr rfl
  | n + 1, d :: ds, _, h => by
    rw [reps_cons] at h
    obtain ⟨x, r, rfl, h1, h2⟩ := h
    exact reps_cons.mpr ⟨x, r.take n, rfl, h1, Reps.take n h2⟩
theorem Reps.dropLast {ds : List D} {xs : List V} (h : Reps K H ds xs) : Reps K H ds.dropLast xs.dropLast := by
  rw [List.dropLast_eq_take, List.dropLast_eq_take, h.length]; exact h.take _
theorem Reps.one {d : D} {v : V} (h : Rep K H d v) : Reps K H [d] [v] := reps_cons.mpr ⟨v, [], rfl, h, reps_nil.mpr rfl⟩
theorem Reps.cons {d : D} {v : V} {ds : List D} {xs : List V} (h : Rep K H d v) (t : Reps K H ds xs) : Reps K H (d :: ds) (v :: xs) := reps_cons.mpr ⟨v, xs, rfl, h, t⟩
theorem reps_ints : ∀ (ns : List Int), Reps K H (ns.map D.int) (ns.map V.int)
  | [] => reps_nil.mpr rfl
  | n :: ns => .cons (rep_int.mpr rfl) (reps_ints ns)
end

/-! ## slots -/
inductive Sl where
  | un
  | va (d : D)
  | ow (ds : List D)
  | oT (kvs : List (List Key × D))
  | oK (kvs : List (Key × D))

def KVR (K : PySem.W.Frag) (H : Hp) {κ : Type} : List (κ × D) → List (κ × V) → Prop := Paired fun a b => a.1 = b.1 ∧ Rep K H a.2 b.2
theorem KVR.mono {K : PySem.W.Frag} {H H' : Hp} {κ : Type} {ks : List (κ × D)} {xs : List (κ × V)} (e : Same H H') (h : KVR K H ks xs) : KVR K H' ks xs :=
  Paired.mapP h fun a b z => ⟨z.1, Rep.mono e _ z.2⟩

/-- what stands in a slot: an owned thing (a list, a dict) is in no other slot and in nothing frozen -/
def RepS (K : PySem.W.Frag) (fr : Addr → Prop) (H Hf : Hp) : Sl → V → Prop
  | .un, _ => False
  | .va d, v => Rep K Hf d v
  | .ow ds, v => ∃ p xs, v = .ref p ∧ fr p ∧ H p = some (.lst xs) ∧ Hf p = none ∧ Reps K Hf ds xs
  | .oT kvs, v => ∃ p xs, v = .ref p ∧ fr p ∧ H p = some (.dT xs) ∧ Hf p = none ∧ KVR K Hf kvs xs
  | .oK kvs, v => ∃ p xs, v = .ref p ∧ fr p ∧ H p = some (.dK xs) ∧ Hf p = none ∧ KVR K Hf kvs xs
def Sl.owned : Sl → Bool
  | .ow _ => true | .oT _ => true | .oK _ => true | _ => false

/-- the heaps grow by frozen and by untouched things alone -/
structure Grw (H Hf H' Hf' : Hp) : Prop where
  s : Same H H'
  f : Same Hf Hf'
  b : Same Hf' H'
  n : ∀ b, Hf b = none → H b ≠ none → (∀ xs, H b ≠ some (.tup xs)) → Hf' b = none

theorem Grw.refl {H Hf : Hp} (b : Same Hf H) : Grw H Hf H Hf := ⟨.refl _, .refl _, b, fun _ h _ _ => h⟩
theorem Grw.trans {H Hf H1 Hf1 H2 Hf2 : Hp} (a : Grw H Hf H1 Hf1) (b : Grw H1 Hf1 H2 Hf2) : Grw H Hf H2 Hf2 :=
  ⟨a.s.trans b.s, a.f.trans b.f, b.b, fun c h1 h2 h3 => by
    cases q : H c with
    | none => exact absurd q h2
    | some o =>
      have e := a.s c o q
      exact b.n c (a.n c h1 h2 h3) (by rw [e]; simp) (by intro xs; rw [e, ← q]; exact h3 xs)⟩
/-- what was frozen between may be forgotten -/
theorem Grw.forget {H Hf H' Hf' : Hp} (g : Grw H Hf H' Hf') : Grw H Hf H' Hf := ⟨g.s, .refl _, g.f.trans g.b, fun _ h _ _ => h⟩
/-- a new thing, frozen -/
theorem Grw.new {H Hf : Hp} (b : Same Hf H) {p : Addr} {o : HO} (hp : H p = none) : Grw H Hf (upd H p o) (upd Hf p o) := by
  have hf : Hf p = none := b.free hp
  refine ⟨fun c u h => ?_, fun c u h => ?_, fun c u h => ?_, fun c h1 h2 _ => ?_⟩
  · rw [upd_ne (ne_of_none h hp)]; exact h
  · rw [upd_ne (ne_of_none h hf)]; exact h
  · by_cases e : c = p
    · subst e; rw [upd_same] at h ⊢; exact h
    · rw [upd_ne e] at h ⊢; exact b c u h
  · by_cases e : c = p
    · subst e; exact absurd hp h2
    · rw [upd_ne e]; exact h1
/-- a new thing, not frozen -/
theorem Grw.newO {H Hf : Hp} (b : Same Hf H) {p : Addr} {o : HO} (hp : H p = none) : Grw H Hf (upd H p o) Hf :=
  ⟨(Grw.new b hp (o := o)).s, .refl _, fun c u h => (Grw.new b hp (o := o)).s c u (b c u h), fun _ h _ _ => h⟩

/-! ## places in written lists -/
inductive At {α : Type} : List α → Nat → α → Prop where
  | z {x : α} {l : List α} : At (x :: l) 0 x
  | s {x y : α} {l : List α} {i : Nat} : At l i x → At (y :: l) (i + 1) x
theorem At.get {α : Type} {l : List α} {i : Nat} {x : α} (h : At l i x) : l[i]? = some x := by
  induction h with
  | z => rfl
  | s _ ih => simpa using ih
theorem At.mem {α : Type} {l : List α} {i : Nat} {x : α} (h : At l i x) : x ∈ l := List.mem_of_getElem? h.get
/-- a slot stored: the list behind -/
inductive SSet {α : Type} : List α → Nat → α → List α → Prop where
  | z {x r : α} {l : List α} : SSet (x :: l) 0 r (r :: l)
  | s {r y : α} {l l' : List α} {i : Nat} : SSet l i r l' → SSet (y :: l) (i + 1) r (y :: l')
theorem SSet.eq {α : Type} {l l' : List α} {i : Nat} {r : α} (h : SSet l i r l') : l' = l.set i r := by
  induction h with
  | z => rfl
  | s _ ih => simp [ih]
/-! ## the state of a def's slots -/
structure StR (K : PySem.W.Frag) (H₀ Hf₀ : Hp) (σ : L2.St) (H Hf : Hp) (ρ : List Sl) : Prop where
  bas : Grw H₀ Hf₀ H Hf
  len : σ.length = ρ.length
  at_ : ∀ (i : Nat) (r : Sl), ρ[i]? = some r → r ≠ .un → ∃ v, σ[i]? = some (some v) ∧ RepS K (fun p => H₀ p = none) H Hf r v
  sep : ∀ (i j : Nat) (r r' : Sl) (p : Addr), i ≠ j → ρ[i]? = some r → ρ[j]? = some r' → r.owned = true → r'.owned = true → σ[i]? = some (some (.ref p)) → σ[j]? ≠ some (some (.ref p))
/-- an exception of one's own class C has come to the frames at outer: a the exception, s the state ahead of the call, H its abstract heap, H' the one behind -/
structure ExcS (P : Program) (w : World) (outer : List Env) (H : Hp) (s : Shared) (a C : Addr) (H' : Hp) (s' : Shared) : Prop where
  os : s'.os = s.os
  bare : AllBare s'.gens
  un : Un (frs outer) [] H H' s.heap s'.heap
  hok : HOk P w H' s'.heap
  new : s.heap.get? a = none
  free : H' a = none
  fly : ∃ (t : Addr) (B : Heap), Heap.FlyingW B outer a (.ref C) (.ref t) s'.heap ∧ (∀ b o, s.heap.get? b = some o → b ∉ frs outer → ∃ o', s'.heap.get? b = some o' ∧ B.get? b = some o') ∧
    ∀ b o, H' b ≠ none → s'.heap.get? b = some o → B.get? b = some o
def CXE (P : Program) (w : World) : CXT := fun outer H s E e s' => ∃ a C H', e = .ref a ∧ ExcS P w outer H s a C H' s' ∧ E (.ref C) (some a) H'
/-! ## the context of a def's body -/
structure Ctx (P : Program) (w : World) (K : PySem.W.Frag) (mg : Str → Option Value) (base : Heap) (k : Nat) (N : List Str) (sc : Scope) where
  X : Cx
  eP : X.prog = P
  ew : X.w = w
  eK : X.K = K
  emg : X.mg = mg
  eb : X.base = base
  eN : X.N = N
  esc : X.env.scope = sc
  calm : X.calm = true
  top : X.stack = X.env :: X.outer ∧ X.env.frame = some X.env.locals ∧ X.ex = []
  cb : ∀ (pins : List (Addr × Obj)) (σ : L2.St) (H : Hp) (s : Shared), Inv X pins σ H s → ∀ (x : Str) (c : Addr), X.env.cells.lookup x = some c → X.s₀.heap.objs.size ≤ c
  fn : ∀ x, X.fn x = true ∨ X.env.scope.names.lookup x = some .local
  room : Room k X.A
  nd : N.Nodup
  vis : ∀ x ∈ N, Loc sc x
  Hf : Hp
  /-- what is wanted where an exception of the class comes, by the slots -/
  RX : Addr → List Sl → Prop
  exc : ∀ (C a : Addr) (pins : List (Addr × Obj)) (σ : L2.St) (H Hf' : Hp) (ρ : List Sl) (s : Shared) (H' : Hp) (s' : Shared), Inv X pins σ H s → StR X.K X.H₀ Hf σ H Hf' ρ → RX C ρ → ExcS X.prog X.w X.stack H s a C H' s' → Same H H' → X.xe (.ref a) s'
  /-- .. where one is raised here -/
  RM : Addr → List Sl → Prop
  mde : ∀ (C a : Addr) (pins : List (Addr × Obj)) (σ : L2.St) (H Hf' : Hp) (ρ : List Sl) (s : Shared) (h' : Heap) (us : List Value), Inv X pins σ H s → StR X.K X.H₀ Hf σ H Hf' ρ → RM C ρ → Heap.MadeExcOf s.heap h' a (.ref C) us → X.xe (.ref a) { s with heap := h' }

theorem RepS.grw {K : PySem.W.Frag} {fr : Addr → Prop} {H Hf H' Hf' : Hp} (g : Grw H Hf H' Hf') : ∀ {r : Sl} {v : V}, RepS K fr H Hf r v → RepS K fr H' Hf' r v
  | .un, _, h => h
  | .va d, _, h => Rep.mono g.f d h
  | .ow ds, _, ⟨p, xs, e, f, h1, h2, h3⟩ => ⟨p, xs, e, f, g.s _ _ h1, g.n p h2 (by rw [h1]; simp) (by intro ys; rw [h1]; simp), h3.mono g.f⟩
  | .oT kvs, _, ⟨p, xs, e, f, h1, h2, h3⟩ => ⟨p, xs, e, f, g.s _ _ h1, g.n p h2 (by rw [h1]; simp) (by intro ys; rw [h1]; simp), h3.mono g.f⟩
  | .oK kvs, _, ⟨p, xs, e, f, h1, h2, h3⟩ => ⟨p, xs, e, f, g.s _ _ h1, g.n p h2 (by rw [h1]; simp) (by intro ys; rw [h1]; simp), h3.mono g.f⟩
theorem RepS.weak {K : PySem.W.Frag} {fr fr' : Addr → Prop} {H Hf : Hp} (hf : ∀ p, fr p → fr' p) : ∀ {r : Sl} {v : V}, RepS K fr H Hf r v → RepS K fr' H Hf r v
  | .un, _, h => h
  | .va d, _, h => h
  | .ow ds, _, ⟨p, xs, e, f, h⟩ => ⟨p, xs, e, hf p f, h⟩
  | .oT ds, _, ⟨p, xs, e, f, h⟩ => ⟨p, xs, e, hf p f, h⟩
  | .oK ds, _, ⟨p, xs, e, f, h⟩ => ⟨p, xs, e, hf p f, h⟩

section
variable {P : Program} {w : World} {K : PySem.W.Frag} {mg : Str → Option Value} {base : Heap} {k : Nat} {N : List Str} {sc : Scope}

def Ctx.fr (c : Ctx P w K mg base k N sc) (p : Addr) : Prop := c.X.H₀ p = none
abbrev StRep (c : Ctx P w K mg base k N sc) (σ : L2.St) (H Hf : Hp) (ρ : List Sl) : Prop := StR c.X.K c.X.H₀ c.Hf σ H Hf ρ

variable {σ : L2.St} {H Hf H' Hf' H₀ Hf₀ : Hp} {ρ : List Sl}
theorem StR.grw (S : StR K H₀ Hf₀ σ H Hf ρ) (g : Grw H Hf H' Hf') : StR K H₀ Hf₀ σ H' Hf' ρ :=
  ⟨S.bas.trans g, S.len, fun i r h hr => let ⟨v, e, q⟩ := S.at_ i r h hr; ⟨v, e, q.grw g⟩, S.sep⟩
theorem StR.sb (S : StR K H₀ Hf₀ σ H Hf ρ) : Same Hf H := S.bas.b
theorem StR.va (S : StR K H₀ Hf₀ σ H Hf ρ) {i : Nat} {d : D} (h : ρ[i]? = some (.va d)) : ∃ v, σ[i]? = some (some v) ∧ Rep K Hf d v := S.at_ i _ h (by simp)
/-- forgetting -/
theorem StR.forget (S : StR K H₀ Hf₀ σ H Hf ρ) (g : Same H H') : StR K H₀ Hf₀ σ H' Hf ρ := S.grw ⟨g, .refl _, S.sb.trans g, fun _ h _ _ => h⟩
/-- frozen for good -/
theorem StR.freeze (S : StR K H₀ Hf₀ σ H Hf ρ) {i : Nat} {ds : List D} (h : ρ[i]? = some (.ow ds)) :
    ∃ Hf', Same Hf Hf' ∧ StR K H₀ Hf₀ σ H Hf' (ρ.set i (.va (.lst ds))) := by
  obtain ⟨v, ev, p, xs, rfl, hfr, hp, hfp, hr⟩ := S.at_ i _ h (by simp)
  have hi : i < ρ.length := (List.getElem?_eq_some_iff.mp h).1
  have sf : Same Hf (upd Hf p (.lst xs)) := fun b o e => by rw [upd_ne (ne_of_none e hfp)]; exact e
  have sb : Same (upd Hf p (.lst xs)) H := fun b o e => by
    by_cases q : b = p
    · subst q; rw [upd_same] at e; rw [hp]; exact e
    · rw [upd_ne q] at e; exact S.sb b o e
  refine ⟨upd Hf p (.lst xs), sf, ⟨S.bas.s, S.bas.f.trans sf, sb, fun b h1 h2 h3 => ?_⟩, by simp [S.len], fun j r hj hu => ?_, fun j j' r r' q hne h1 h2 o1 o2 => ?_⟩
  · have e := S.bas.n b h1 h2 h3
    by_cases q : b = p
    · subst q; exact absurd hfr h2
    · rw [upd_ne q]; exact e
  · by_cases q : j = i
    · subst q
      rw [List.getElem?_set_self hi] at hj
      cases hj
      refine ⟨_, ev, ?_⟩
      exact rep_lst.mpr ⟨p, xs, rfl, .inl (.inl upd_same), hr.mono sf⟩
    · rw [List.getElem?_set_ne (Ne.symm q)] at hj
      obtain ⟨v, e1, e2⟩ := S.at_ j r hj hu
      refine ⟨v, e1, ?_⟩
      have key : r.owned = true → v ≠ .ref p := fun ho z => by
        subst z
        exact S.sep i j _ _ p (Ne.symm q) h hj rfl ho ev e1
      cases r with
      | un => exact e2
      | va d => exact Rep.mono sf d e2
      | ow es => obtain ⟨p', xs', rfl, f', h1, h2, h3⟩ := e2; exact ⟨p', xs', rfl, f', h1, by rw [upd_ne (fun z => key rfl (by rw [z]))]; exact h2, h3.mono sf⟩
      | oT es => obtain ⟨p', xs', rfl, f', h1, h2, h3⟩ := e2; exact ⟨p', xs', rfl, f', h1, by rw [upd_ne (fun z => key rfl (by rw [z]))]; exact h2, h3.mono sf⟩
      | oK es => obtain ⟨p', xs', rfl, f', h1, h2, h3⟩ := e2; exact ⟨p', xs', rfl, f', h1, by rw [upd_ne (fun z => key rfl (by rw [z]))]; exact h2, h3.mono sf⟩
  · have out : ∀ {j : Nat} {r : Sl}, (ρ.set i (.va (.lst ds)))[j]? = some r → r.owned = true → ρ[j]? = some r := fun {j r} hj ho => by
      by_cases q : j = i
      · subst q; rw [List.getElem?_set_self hi] at hj; cases hj; cases ho
      · rw [List.getElem?_set_ne (Ne.symm q)] at hj; exact hj
    exact S.sep j j' r r' q hne (out h1 o1) (out h2 o2) o1 o2
/-- a slot is stored -/
theorem StR.set (S : StR K H₀ Hf₀ σ H Hf ρ) {H1 Hf1 : Hp} (g : Grw H Hf H1 Hf1) {i : Nat} {r : Sl} {v : V} (hr : RepS K (fun p => H p = none) H1 Hf1 r v) :
    StR K H₀ Hf₀ (σ.set i (some v)) H1 Hf1 (ρ.set i r) := by
  have S1 := S.grw g
  have fr0 : ∀ p, H p = none → H₀ p = none := fun p h => S.bas.s.free h
  have fresh : ∀ p, r.owned = true → v = .ref p → H p = none := fun p ho e => by
    subst e
    cases r with
    | un => cases ho
    | va d => cases ho
    | ow ds => obtain ⟨p', xs, e, h, _⟩ := hr; cases e; exact h
    | oT ds => obtain ⟨p', xs, e, h, _⟩ := hr; cases e; exact h
    | oK ds => obtain ⟨p', xs, e, h, _⟩ := hr; cases e; exact h
  have old : ∀ (j : Nat) (r' : Sl) (p : Addr), ρ[j]? = some r' → r'.owned = true → σ[j]? = some (some (.ref p)) → H p ≠ none := fun j r' p h ho hs => by
    obtain ⟨v', e, q⟩ := S.at_ j r' h (by rintro rfl; cases ho)
    rw [hs] at e; cases e
    cases r' with
    | un => cases ho
    | va d => cases ho
    | ow ds => obtain ⟨p', xs, e, _, h, _⟩ := q; cases e; rw [h]; simp
    | oT ds => obtain ⟨p', xs, e, _, h, _⟩ := q; cases e; rw [h]; simp
    | oK ds => obtain ⟨p', xs, e, _, h, _⟩ := q; cases e; rw [h]; simp
  refine ⟨S1.bas, by simp [S.len], fun j r' hj hu => ?_, fun j j' r1 r2 p hne h1 h2 o1 o2 e1 e2 => ?_⟩
  · by_cases q : j = i
    · subst q
      have hi : j < ρ.length := by
        have := (List.getElem?_eq_some_iff.mp hj).1
        simpa using this
      rw [List.getElem?_set_self hi] at hj; cases hj
      exact ⟨v, List.getElem?_set_self (by rw [S.len]; exact hi), hr.weak fr0⟩
    · rw [List.getElem?_set_ne (Ne.symm q)] at hj ⊢
      exact S1.at_ j r' hj hu
  · have hlt : ∀ {j : Nat} {r : Sl}, (ρ.set i r)[j]? = some r → j < ρ.length := fun {j r} h => by
      have := (List.getElem?_eq_some_iff.mp h).1
      simpa using this
    by_cases q1 : j = i
    · subst q1
      have hi : j < ρ.length := by have := (List.getElem?_eq_some_iff.mp h1).1; simpa using this
      rw [List.getElem?_set_self hi] at h1; cases h1
      rw [List.getElem?_set_self (by rw [S.len]; exact hi)] at e1
      rw [List.getElem?_set_ne hne] at h2 e2
      exact old j' r2 p h2 o2 e2 (fresh p o1 (by simpa using e1))
    · by_cases q2 : j' = i
      · subst q2
        have hi : j' < ρ.length := by have := (List.getElem?_eq_some_iff.mp h2).1; simpa using this
        rw [List.getElem?_set_self hi] at h2; cases h2
        rw [List.getElem?_set_self (by rw [S.len]; exact hi)] at e2
        rw [List.getElem?_set_ne (Ne.symm hne)] at h1 e1
        exact old j r1 p h1 o1 e1 (fresh p o2 (by simpa using e2))
      · rw [List.getElem?_set_ne (Ne.symm q1)] at h1 e1
        rw [List.getElem?_set_ne (Ne.symm q2)] at h2 e2
        exact S.sep j j' r1 r2 p hne h1 h2 o1 o2 e1 e2
/-- fewer slots are told -/
theorem StR.weak {ρ' : List Sl} (S : StR K H₀ Hf₀ σ H Hf ρ) (hl : ρ'.length = ρ.length) (h : ∀ (i : Nat) (r : Sl), ρ'[i]? = some r → r ≠ .un → ρ[i]? = some r) : StR K H₀ Hf₀ σ H Hf ρ' :=
  ⟨S.bas, by rw [S.len, hl], fun i r e hu => S.at_ i r (h i r e hu) hu, fun i j r r' p hne h1 h2 o1 o2 => S.sep i j r r' p hne (h i r h1 (by rintro rfl; cases o1)) (h j r' h2 (by rintro rfl; cases o2)) o1 o2⟩
end
end EV

set_option Elab.async false
set_option linter.all false
set_option maxRecDepth 100000
namespace EV
open PySem PySem.Spec PyProof.Rows L2
section
variable {P : Program} {w : World} {K : PySem.W.Frag} {mg : Str → Option Value} {base : Heap} {k : Nat} {N : List Str} {sc : Scope}

/-! ## the best readings -/
def bE (X : Cx) (e : Expr) : TE := fun σ H Q => ∀ pins s, Inv X pins σ H s → wpAny (model X.prog X.w) X.A (eval e X.env) (EP X pins σ Q) X.xe s
theorem pbE {X : Cx} {e : Expr} : PE X e (bE X e) := fun pins s σ H Q I h => h pins s I
theorem bE_of {X : Cx} {e : Expr} {t : TE} (h : PE X e t) {σ : L2.St} {H : Hp} {Q : VK} (q : t σ H Q) : bE X e σ H Q := fun pins s I => h pins s σ H Q I q
def bT (X : Cx) (e : Expr) : TT := fun σ H Q => ∀ pins s, Inv X pins σ H s → wpAny (model X.prog X.w) X.A (isTrue e X.env (eval e X.env)) (TP X pins σ Q) X.xe s
theorem pbT {X : Cx} {e : Expr} : PT X e (bT X e) := fun pins s σ H Q I h => h pins s I
theorem bT_of {X : Cx} {e : Expr} {t : TT} (h : PT X e t) {σ : L2.St} {H : Hp} {Q : Bool → Hp → Prop} (q : t σ H Q) : bT X e σ H Q := fun pins s I => h pins s σ H Q I q
def bA (X : Cx) (es : List Expr) : TA := fun σ H Q => ∀ pos pins s, Inv X pins σ H s → wpAny (model X.prog X.w) X.A (spliced (backTo pos (starEach es X.env))) (AP X pins σ Q) X.xe s
theorem pbA {X : Cx} {es : List Expr} : PA X es (bA X es) := fun pos pins s σ H Q I h => h pos pins s I
theorem bA_of {X : Cx} {es : List Expr} {t : TA} (h : PA X es t) {σ : L2.St} {H : Hp} {Q : List V → Hp → Prop} (q : t σ H Q) : bA X es σ H Q := fun pos pins s I => h pos pins s σ H Q I q
def bS (X : Cx) (st : Stmt) : TS := fun D σ H => ∀ pins s, Inv X pins σ H s → wpAny (model X.prog X.w) X.A (exec st X.env) (SP X pins D) X.xe s
theorem pbS {X : Cx} {st : Stmt} : PS X st (bS X st) := fun pins s σ H D I h => h pins s I
theorem bS_of {X : Cx} {st : Stmt} {t : TS} (h : PS X st t) {σ : L2.St} {H : Hp} {D : Ends} (q : t D σ H) : bS X st D σ H := fun pins s I => h pins s σ H D I q
def bSs (X : Cx) (st : List Stmt) : TS := fun D σ H => ∀ pins s, Inv X pins σ H s → wpAny (model X.prog X.w) X.A (execs st X.env) (SP X pins D) X.xe s
theorem pbSs {X : Cx} {st : List Stmt} : PSs X st (bSs X st) := fun pins s σ H D I h => h pins s I
theorem bSs_of {X : Cx} {st : List Stmt} {t : TS} (h : PSs X st t) {σ : L2.St} {H : Hp} {D : Ends} (q : t D σ H) : bSs X st D σ H := fun pins s I => h pins s σ H D I q
def bG (X : Cx) (tg : Expr) : TG := fun v σ H Q => ∀ pins s u, Inv X pins σ H s → RelV v u → wpAny (model X.prog X.w) X.A (assign tg X.env u) (fun _ s' => ∃ σ' H', Inv X pins σ' H' s' ∧ Q σ' H') X.xe s
theorem pbG {X : Cx} {tg : Expr} : PG X tg (bG X tg) := fun pins s σ H v u Q I r h => h pins s u I r
theorem bG_of {X : Cx} {tg : Expr} {t : TG} (h : PG X tg t) {v : V} {σ : L2.St} {H : Hp} {Q : L2.St → Hp → Prop} (q : t v σ H Q) : bG X tg v σ H Q := fun pins s u I r => h pins s σ H v u Q I r q

/-! ## the judgements -/
variable (c : Ctx P w K mg base k N sc)
/-- an expression's value: what it is (P), new and not yet frozen where it is an owned thing -/
def EvX (e : Expr) (ρ : List Sl) (R : Sl → Prop) : Prop :=
  ∀ (σ : L2.St) (H Hf : Hp) (Q : VK), StRep c σ H Hf ρ → (∀ r v H' Hf', R r → RepS c.X.K (fun p => H p = none) H' Hf' r v → Grw H Hf H' Hf' → Q v H') → bE c.X e σ H Q
def EvE (e : Expr) (ρ : List Sl) (R : D → Prop) : Prop :=
  ∀ (σ : L2.St) (H Hf : Hp) (Q : VK), StRep c σ H Hf ρ → (∀ d v H' Hf', R d → Rep c.X.K Hf' d v → Grw H Hf H' Hf' → Q v H') → bE c.X e σ H Q
def EvT (e : Expr) (ρ : List Sl) (R : Bool → Prop) : Prop :=
  ∀ (σ : L2.St) (H Hf : Hp) (Q : Bool → Hp → Prop), StRep c σ H Hf ρ → (∀ b H' Hf', R b → Grw H Hf H' Hf' → Q b H') → bT c.X e σ H Q
def EvA (es : List Expr) (ρ : List Sl) (R : List D → Prop) : Prop :=
  ∀ (σ : L2.St) (H Hf : Hp) (Q : List V → Hp → Prop), StRep c σ H Hf ρ → (∀ ds vs H' Hf', R ds → Reps c.X.K Hf' ds vs → Grw H Hf H' Hf' → Q vs H') → bA c.X es σ H Q
/-- what is wanted behind a statement -/
structure Pt where
  rt : Sl → Prop
  bk : List Sl → Prop := fun _ => False
  ct : List Sl → Prop := fun _ => False
structure PtOk (nx : List Sl → Prop) (p : Pt) (D : Ends) : Prop where
  nx : ∀ σ H Hf ρ, StRep c σ H Hf ρ → nx ρ → D.nx σ H
  rt : ∀ r v H Hf, Grw c.X.H₀ c.Hf H Hf → RepS c.X.K c.fr H Hf r v → p.rt r → D.rt v H
  bk : ∀ σ H Hf ρ, StRep c σ H Hf ρ → p.bk ρ → D.bk σ H
  ct : ∀ σ H Hf ρ, StRep c σ H Hf ρ → p.ct ρ → D.ct σ H
def EvS (st : Stmt) (ρ : List Sl) (nx : List Sl → Prop) (p : Pt) : Prop :=
  ∀ (σ : L2.St) (H Hf : Hp) (D : Ends), StRep c σ H Hf ρ → PtOk c nx p D → bS c.X st D σ H
def EvSs (st : List Stmt) (ρ : List Sl) (nx : List Sl → Prop) (p : Pt) : Prop :=
  ∀ (σ : L2.St) (H Hf : Hp) (D : Ends), StRep c σ H Hf ρ → PtOk c nx p D → bSs c.X st D σ H
/-- a target that takes a frozen value -/
def EvG (tg : Expr) (d : D) (ρ : List Sl) (R : List Sl → Prop) : Prop :=
  ∀ (σ : L2.St) (H Hf : Hp) (v : V) (Q : L2.St → Hp → Prop), StRep c σ H Hf ρ → Rep c.X.K Hf d v → (∀ σ' H' Hf' ρ', StRep c σ' H' Hf' ρ' → R ρ' → Q σ' H') → bG c.X tg v σ H Q

variable {c}
/-- an owned value, frozen -/
def Sl.fz : Sl → Option D
  | .va d => some d
  | .ow ds => some (.lst ds)
  | _ => none
def FzP (R : D → Prop) (r : Sl) : Prop := ∃ d, r.fz = some d ∧ R d
theorem fz_grw {K : PySem.W.Frag} {H Hf H' Hf' : Hp} {r : Sl} {v : V} {d : D} (e : r.fz = some d) (h : RepS K (fun p => H p = none) H' Hf' r v) (g : Grw H Hf H' Hf') :
    ∃ Hf2, Rep K Hf2 d v ∧ Grw H Hf H' Hf2 := by
  cases r with
  | un => cases e
  | va d' => cases e; exact ⟨Hf', h, g⟩
  | oT _ => cases e
  | oK _ => cases e
  | ow ds =>
    cases e
    obtain ⟨p, xs, rfl, hp, h1, h2, h3⟩ := h
    have sf : Same Hf' (upd Hf' p (.lst xs)) := fun b o e => by rw [upd_ne (ne_of_none e h2)]; exact e
    have sb : Same (upd Hf' p (.lst xs)) H' := fun b o e => by
      by_cases q : b = p
      · subst q; rw [upd_same] at e; rw [h1]; exact e
      · rw [upd_ne q] at e; exact g.b b o e
    refine ⟨upd Hf' p (.lst xs), rep_lst.mpr ⟨p, xs, rfl, .inl (.inl upd_same), h3.mono sf⟩, g.s, g.f.trans sf, sb, fun b q1 q2 q3 => ?_⟩
    have e := g.n b q1 q2 q3
    by_cases q : b = p
    · subst q; exact absurd hp q2
    · rw [upd_ne q]; exact e
theorem e_x {e : Expr} {ρ : List Sl} {R : D → Prop} (h : EvX c e ρ (FzP R)) : EvE c e ρ R := fun σ H Hf Q S q =>
  h σ H Hf Q S fun r v H' Hf' ⟨d, e1, rd⟩ rs g => let ⟨Hf2, h1, g2⟩ := fz_grw e1 rs g; q d v H' Hf2 rd h1 g2
theorem x_e {e : Expr} {ρ : List Sl} {R : Sl → Prop} (h : EvE c e ρ fun d => R (.va d)) : EvX c e ρ R := fun σ H Hf Q S q =>
  h σ H Hf Q S fun d v H' Hf' rd h1 g => q (.va d) v H' Hf' rd h1 g
theorem EvE.imp {e : Expr} {ρ : List Sl} {R R' : D → Prop} (h : EvE c e ρ R) (hi : ∀ d, R d → R' d) : EvE c e ρ R' := fun σ H Hf Q S q => h σ H Hf Q S fun d v H' Hf' rd => q d v H' Hf' (hi d rd)
theorem EvX.imp {e : Expr} {ρ : List Sl} {R R' : Sl → Prop} (h : EvX c e ρ R) (hi : ∀ d, R d → R' d) : EvX c e ρ R' := fun σ H Hf Q S q => h σ H Hf Q S fun d v H' Hf' rd => q d v H' Hf' (hi d rd)
theorem EvT.imp {e : Expr} {ρ : List Sl} {R R' : Bool → Prop} (h : EvT c e ρ R) (hi : ∀ d, R d → R' d) : EvT c e ρ R' := fun σ H Hf Q S q => h σ H Hf Q S fun d H' Hf' rd => q d H' Hf' (hi d rd)

/-! ## reading an owned thing without keeping it -/
def Sl.fzS : Sl → Sl
  | .ow ds => .va (.lst ds)
  | r => r
/-- a value that holds no address -/
def D.flat : D → Prop
  | .non => True | .bl _ => True | .int _ => True | .str _ => True | _ => False
theorem flat_rep {K : PySem.W.Frag} {H H' : Hp} : ∀ {d : D} {v : V}, d.flat → Rep K H d v → Rep K H' d v
  | .non, _, _, h => by simpa [Rep] using h
  | .bl _, _, _, h => by simpa [Rep] using h
  | .int _, _, _, h => by simpa [Rep] using h
  | .str _, _, _, h => by simpa [Rep] using h
  | .tup _, _, f, _ => f.elim
  | .lst _, _, f, _ => f.elim
  | .exc _, _, f, _ => f.elim
theorem e_borrow {e : Expr} {ρ ρ' : List Sl} {R : D → Prop} (i : Nat) {ds : List D} (hi : At ρ i (.ow ds)) (hs : SSet ρ i (.va (.lst ds)) ρ') (h : EvE c e ρ' fun d => d.flat ∧ R d) : EvE c e ρ R := fun σ H Hf Q S q => by
  obtain ⟨Hf1, sf, S1⟩ := S.freeze hi.get
  rw [← hs.eq] at S1
  exact h σ H Hf1 Q S1 fun d v H' Hf' ⟨fl, rd⟩ r g => q d v H' Hf rd (flat_rep fl r) ⟨g.s, .refl _, S.sb.trans g.s, fun _ z _ _ => z⟩
theorem t_borrow {e : Expr} {ρ ρ' : List Sl} {R : Bool → Prop} (i : Nat) {ds : List D} (hi : At ρ i (.ow ds)) (hs : SSet ρ i (.va (.lst ds)) ρ') (h : EvT c e ρ' R) : EvT c e ρ R := fun σ H Hf Q S q => by
  obtain ⟨Hf1, sf, S1⟩ := S.freeze hi.get
  rw [← hs.eq] at S1
  exact h σ H Hf1 Q S1 fun b H' Hf' rd g => q b H' Hf rd ⟨g.s, .refl _, S.sb.trans g.s, fun _ z _ _ => z⟩
theorem ss_freeze {st : List Stmt} {ρ ρ' : List Sl} {nx : List Sl → Prop} {p : Pt} (i : Nat) {ds : List D} (hi : At ρ i (.ow ds)) (hs : SSet ρ i (.va (.lst ds)) ρ') (h : EvSs c st ρ' nx p) : EvSs c st ρ nx p := fun σ H Hf D S o => by
  obtain ⟨Hf1, sf, S1⟩ := S.freeze hi.get
  rw [← hs.eq] at S1
  exact h σ H Hf1 D S1 o
/-- slots may be forgotten -/
theorem ss_forget {st : List Stmt} {ρ ρ' : List Sl} {nx : List Sl → Prop} {p : Pt} (hl : ρ'.length = ρ.length) (hw : ∀ (i : Nat) (r : Sl), ρ'[i]? = some r → r ≠ .un → ρ[i]? = some r) (h : EvSs c st ρ' nx p) : EvSs c st ρ nx p := fun σ H Hf D S o =>
  h σ H Hf D (S.weak hl hw) o

/-! ## names, constants -/
theorem e_var {x : Str} {pos : Pos} {ρ : List Sl} {R : D → Prop} {i : Nat} {d : D} (hN : At N i x) (hs : At ρ i (.va d)) (hR : R d)
    (hd : (x == ("__debug__" : Str)) = false := by decide) (hcd : (x == ("__classdict__" : Str)) = false := by decide) :
    EvE c (.Name x pos) ρ R := fun σ H Hf Q S q => by
  obtain ⟨v, e, r⟩ := S.va hs.get
  exact bE_of (pe_var (X := c.X) (i := i) (by rw [c.eN]; exact hN.get) (by rw [c.esc]; rcases c.vis x hN.mem with h | h; exact .inl h; exact .inr (.inl h)) hd hcd) ⟨v, e, q d v H Hf hR r (.refl S.sb)⟩
theorem e_int {i : Int} {j : Nat} {pos : Pos} {ρ : List Sl} {R : D → Prop} (hR : R (.int i)) : EvE c (.Constant (.int i) j pos) ρ R := fun σ H Hf Q S q =>
  bE_of pe_int (q _ _ H Hf hR (rep_int.mpr rfl) (.refl S.sb))
theorem e_bl {i : Bool} {j : Nat} {pos : Pos} {ρ : List Sl} {R : D → Prop} (hR : R (.bl i)) : EvE c (.Constant (.bool i) j pos) ρ R := fun σ H Hf Q S q =>
  bE_of pe_bl (q _ _ H Hf hR (rep_bl.mpr rfl) (.refl S.sb))
theorem e_non {j : Nat} {pos : Pos} {ρ : List Sl} {R : D → Prop} (hR : R .non) : EvE c (.Constant .none j pos) ρ R := fun σ H Hf Q S q =>
  bE_of pe_non (q _ _ H Hf hR (rep_non.mpr rfl) (.refl S.sb))
theorem e_str {i : Str} {j : Nat} {pos : Pos} {ρ : List Sl} {R : D → Prop} (hR : R (.str i)) : EvE c (.Constant (.str i) j pos) ρ R := fun σ H Hf Q S q =>
  bE_of pe_str (q _ _ H Hf hR (rep_str.mpr rfl) (.refl S.sb))
/-- a module's int -/
theorem e_gint {x : Str} {pos : Pos} {ρ : List Sl} {R : D → Prop} {i : Int} {t : Tok} (hm : mg x = some (.int i t)) (hR : R (.int i)) (hg : sc.names.lookup x = some .globalImplicit := by with_unfolding_all rfl) (hd : (x == ("__debug__" : Str)) = false := by decide) :
    EvE c (.Name x pos) ρ R := fun σ H Hf Q S q =>
  bE_of (pe_glob (X := c.X) (v := .int i) (u := .int i t) (by unfold Gl Env.kindOf; rw [c.esc]; exact hg) (by rw [c.emg]; exact hm) ⟨t, rfl⟩ hd) (q _ _ H Hf hR (rep_int.mpr rfl) (.refl S.sb))

/-! ## operations on two values -/
/-- a rule by values, told of data -/
def OpD (K : PySem.W.Frag) (r : R2) (p : D → D → (Sl → Prop) → Prop) : Prop :=
  ∀ (x y : D) (v u : V) (H Hf : Hp) (Q : VK) (R : Sl → Prop), Same Hf H → Rep K Hf x v → Rep K Hf y u → p x y R →
    (∀ z v' H' Hf', R z → RepS K (fun p => H p = none) H' Hf' z v' → Grw H Hf H' Hf' → Q v' H') → r v u H Q
theorem x_op {a b : Expr} {op : Operator} {pos : Pos} {ρ : List Sl} {R : Sl → Prop} {r : R2} {p : D → D → (Sl → Prop) → Prop} (ho : OpR c.X (binaryOp op) r) (hd : OpD c.X.K r p)
    (h : EvE c a ρ fun x => EvE c b ρ fun y => p x y R) : EvX c (.BinOp a op b pos) ρ R := fun σ H Hf Q S q =>
  bE_of (pe_op ho pbE pbE) (h σ H Hf _ S fun x v1 H1 Hf1 h1 r1 g1 => h1 σ H1 Hf1 _ (S.grw g1) fun y v2 H2 Hf2 h2 r2 g2 =>
    hd x y v1 v2 H2 Hf2 Q R g2.b (Rep.mono g2.f x r1) r2 h2 fun z v' H' Hf' hz rz g3 =>
      q z v' H' Hf' hz (rz.weak fun p hp => (g1.trans g2).s.free hp) ((g1.trans g2).trans g3))
/-- ints in, an int out -/
theorem opd_I {K : PySem.W.Frag} {C : Int → Int → Prop} {f : Int → Int → Int} : OpD K (rI C fun i j => .int (f i j)) fun x y R => ∃ i j, x = .int i ∧ y = .int j ∧ C i j ∧ R (.va (.int (f i j))) := by
  rintro x y v u H Hf Q R s rx ry ⟨i, j, rfl, rfl, hC, hR⟩ q
  rw [rep_int] at rx ry
  exact ⟨i, j, rx, ry, hC, q (.va (.int (f i j))) _ H Hf hR (show Rep K Hf (.int (f i j)) _ from rep_int.mpr rfl) (.refl s)⟩
theorem opd_I0 {K : PySem.W.Frag} {f : Int → Int → Int} : OpD K (rI0 fun i j => .int (f i j)) fun x y R => ∃ i j, x = .int i ∧ y = .int j ∧ R (.va (.int (f i j))) := by
  rintro x y v u H Hf Q R s rx ry ⟨i, j, rfl, rfl, hR⟩ q
  rw [rep_int] at rx ry
  exact ⟨i, j, rx, ry, q (.va (.int (f i j))) _ H Hf hR (show Rep K Hf (.int (f i j)) _ from rep_int.mpr rfl) (.refl s)⟩
theorem e_ofx {e : Expr} {ρ : List Sl} {R : D → Prop} (h : EvX c e ρ fun r => ∃ d, r = .va d ∧ R d) : EvE c e ρ R := e_x (h.imp fun r ⟨d, e, hr⟩ => ⟨d, by subst e; rfl, hr⟩)
/-- the kinds that == tells apart as data does -/
def scalD : D → D → Bool
  | .non, .non => true | .non, .int _ => true | .int _, .non => true | .non, .bl _ => true | .bl _, .non => true | .non, .str _ => true | .str _, .non => true
  | .int _, .int _ => true | .bl _, .bl _ => true | .str _, .str _ => true | .int _, .str _ => true | .str _, .int _ => true | .bl _, .str _ => true | .str _, .bl _ => true
  | _, _ => false
noncomputable instance : DecidableEq D := fun _ _ => Classical.propDecidable _
/-- data that == compares to any depth -/
inductive EqO : Nat → D → D → Prop where
  | sc {n : Nat} {x y : D} (h : scalD x y = true) : EqO n x y
  | tup {n : Nat} {ds es : List D} (h : ∀ (i : Nat) (d e : D), ds[i]? = some d → es[i]? = some e → EqO n d e) : EqO (n + 1) (.tup ds) (.tup es)
  | lst {n : Nat} {ds es : List D} (h : ∀ (i : Nat) (d e : D), ds[i]? = some d → es[i]? = some e → EqO n d e) : EqO (n + 1) (.lst ds) (.lst es)
  | ln {n : Nat} {ds : List D} : EqO n (.lst ds) .non
  | nl {n : Nat} {ds : List D} : EqO n .non (.lst ds)
  | tn {n : Nat} {ds : List D} : EqO n (.tup ds) .non
  | nt {n : Nat} {ds : List D} : EqO n .non (.tup ds)
/-- the items of two rows, side by side -/
def EqIt (ds es : List D) : Prop := ∀ (i : Nat) (d e : D), ds[i]? = some d → es[i]? = some e → EqO 40 d e
def EqOk (x y : D) : Prop := scalD x y = true ∨ ∃ ds es, ((x = .tup ds ∧ y = .tup es) ∨ (x = .lst ds ∧ y = .lst es)) ∧ EqIt ds es
section
variable {a b : Expr} {pos : Pos} {ρ : List Sl} {R : D → Prop}
/-- what is asked on the side, and then -/
structure Sd (A B : Prop) : Prop where
  s : A
  r : B
/-- two ways -/
structure If2 (A B : Prop) (x : Bool) : Prop where
  t : x = true → A
  f : x = false → B
theorem if2 {A B : Prop} {x : Bool} (h1 : x = true → A) (h2 : x = false → B) : If2 A B x := ⟨h1, h2⟩
theorem if2_t {A B : Prop} (h1 : A) : If2 A B true := ⟨fun _ => h1, fun h => by cases h⟩
theorem if2_f {A B : Prop} (h1 : B) : If2 A B false := ⟨fun h => (by cases h), fun _ => h1⟩
theorem if2_dec {A B p : Prop} {i : Decidable p} (h1 : p → A) (h2 : ¬ p → B) : If2 A B (@decide p i) := ⟨fun h => h1 (of_decide_eq_true h), fun h => h2 (of_decide_eq_false h)⟩
theorem if2_not {A B : Prop} {x : Bool} (h : If2 B A x) : If2 A B (!x) := ⟨fun e => h.f (by simpa using e), fun e => h.t (by simpa using e)⟩
/-- == of two data -/
def EqP (x y : D) (T : Bool → Prop) : Prop := EqOk x y ∧ T (decide (x = y))
theorem eqp_int {i j : Int} {T : Bool → Prop} (h : T (decide (i = j))) : EqP (.int i) (.int j) T := ⟨.inl rfl, by
  have e : decide (D.int i = D.int j) = decide (i = j) := by simp
  rw [e]; exact h⟩
theorem eqp_bl {i j : Bool} {T : Bool → Prop} (h : T (decide (i = j))) : EqP (.bl i) (.bl j) T := ⟨.inl rfl, by
  have e : decide (D.bl i = D.bl j) = decide (i = j) := by simp
  rw [e]; exact h⟩
theorem eqp_str {i j : Str} {T : Bool → Prop} (h : T (decide (i = j))) : EqP (.str i) (.str j) T := ⟨.inl rfl, by
  have e : decide (D.str i = D.str j) = decide (i = j) := by simp
  rw [e]; exact h⟩
theorem eqp_tup {ds es : List D} {T : Bool → Prop} (h : Sd (EqIt ds es) (T (decide (ds = es)))) : EqP (.tup ds) (.tup es) T := ⟨.inr ⟨ds, es, .inl ⟨rfl, rfl⟩, h.s⟩, by
  have e : decide (D.tup ds = D.tup es) = decide (ds = es) := by simp
  rw [e]; exact h.r⟩
theorem eqp_lst {ds es : List D} {T : Bool → Prop} (h : Sd (EqIt ds es) (T (decide (ds = es)))) : EqP (.lst ds) (.lst es) T := ⟨.inr ⟨ds, es, .inr ⟨rfl, rfl⟩, h.s⟩, by
  have e : decide (D.lst ds = D.lst es) = decide (ds = es) := by simp
  rw [e]; exact h.r⟩
/-- two ints -/
def I2 (k : Int → Int → Prop) : D → D → Prop := fun x y => ∃ i j, x = .int i ∧ y = .int j ∧ k i j
theorem i2 {k : Int → Int → Prop} {i j : Int} (h : k i j) : I2 k (.int i) (.int j) := ⟨i, j, rfl, rfl, h⟩
/-- one int -/
def I1 (k : Int → Prop) : D → Prop := fun x => ∃ i, x = .int i ∧ k i
theorem i1 {k : Int → Prop} {i : Int} (h : k i) : I1 k (.int i) := ⟨i, rfl, h⟩
/-- a bool -/
def B1 (k : Bool → Prop) : D → Prop := fun x => ∃ i, x = .bl i ∧ k i
theorem b1 {k : Bool → Prop} {i : Bool} (h : k i) : B1 k (.bl i) := ⟨i, rfl, h⟩
theorem e_add (h : EvE c a ρ fun x => EvE c b ρ fun y => I2 (fun i j => R (.int (i + j))) x y) : EvE c (.BinOp a .Add b pos) ρ R :=
  e_ofx (x_op op_add opd_I0 (h.imp fun x hx => hx.imp fun y ⟨i, j, e1, e2, r⟩ => ⟨i, j, e1, e2, _, rfl, r⟩))
theorem e_sub (h : EvE c a ρ fun x => EvE c b ρ fun y => I2 (fun i j => R (.int (i - j))) x y) : EvE c (.BinOp a .Sub b pos) ρ R :=
  e_ofx (x_op op_sub opd_I0 (h.imp fun x hx => hx.imp fun y ⟨i, j, e1, e2, r⟩ => ⟨i, j, e1, e2, _, rfl, r⟩))
/-- products, quotients: of any ints of few bits -/
def big : Int := 2 ^ 20000
def MulOk (i j : Int) : Prop := IntMulOk i j
def DivOk (j : Int) : Prop := 0 < j ∧ j.natAbs.log2 < 9000
theorem op_mulG : OpR c.X (binaryOp .Mult) (rI MulOk fun i j => .int (i * j)) := opI fun _ _ _ _ _ _ _ hc q => mul_int q hc
theorem op_fdivG : OpR c.X (binaryOp .FloorDiv) (rI (fun _ j => DivOk j) fun i j => .int (i / j)) := opI fun i j _ _ _ _ _ hc q => by
  have h1 : (0 : Int) < j := hc.1
  exact floordiv_int (by omega) (by rw [Int.fdiv_eq_ediv_of_nonneg i (by omega)]; exact q) (.inl (PyProof.noPylong_of_log2 hc.2))
/-- by a divisor below nought, too -/
theorem op_fdivF : OpR c.X (binaryOp .FloorDiv) (rI (fun _ j => j ≠ 0 ∧ j.natAbs.log2 < 9000) fun i j => .int (i.fdiv j)) := opI fun i j _ _ _ _ _ hc q =>
  floordiv_int hc.1 q (.inl (PyProof.noPylong_of_log2 hc.2))
theorem e_mul (h : EvE c a ρ fun x => EvE c b ρ fun y => I2 (fun i j => Sd (MulOk i j) (R (.int (i * j)))) x y) : EvE c (.BinOp a .Mult b pos) ρ R :=
  e_ofx (x_op op_mulG opd_I (h.imp fun x hx => hx.imp fun y ⟨i, j, e1, e2, ⟨hc, r⟩⟩ => ⟨i, j, e1, e2, hc, _, rfl, r⟩))
theorem e_fdiv (h : EvE c a ρ fun x => EvE c b ρ fun y => I2 (fun i j => Sd (DivOk j) (R (.int (i / j)))) x y) : EvE c (.BinOp a .FloorDiv b pos) ρ R :=
  e_ofx (x_op op_fdivG opd_I (h.imp fun x hx => hx.imp fun y ⟨i, j, e1, e2, ⟨hc, r⟩⟩ => ⟨i, j, e1, e2, hc, _, rfl, r⟩))
theorem e_fdivF (h : EvE c a ρ fun x => EvE c b ρ fun y => I2 (fun i j => Sd ((j ≠ 0 ∧ j.natAbs.log2 < 9000)) (R (.int (i.fdiv j)))) x y) : EvE c (.BinOp a .FloorDiv b pos) ρ R :=
  e_ofx (x_op op_fdivF opd_I (h.imp fun x hx => hx.imp fun y ⟨i, j, e1, e2, ⟨hc, r⟩⟩ => ⟨i, j, e1, e2, hc, _, rfl, r⟩))
theorem e_mod (h : EvE c a ρ fun x => EvE c b ρ fun y => I2 (fun i j => Sd (0 < j) (R (.int (i % j)))) x y) : EvE c (.BinOp a .Mod b pos) ρ R :=
  e_ofx (x_op op_mod opd_I (h.imp fun x hx => hx.imp fun y ⟨i, j, e1, e2, ⟨hc, r⟩⟩ => ⟨i, j, e1, e2, hc, _, rfl, r⟩))
theorem e_pow (h : EvE c a ρ fun x => EvE c b ρ fun y => I2 (fun i j => Sd (CPow i j) (R (.int (i ^ j.toNat)))) x y) : EvE c (.BinOp a .Pow b pos) ρ R :=
  e_ofx (x_op op_pow opd_I (h.imp fun x hx => hx.imp fun y ⟨i, j, e1, e2, ⟨hc, r⟩⟩ => ⟨i, j, e1, e2, hc, _, rfl, r⟩))
theorem e_neg (h : EvE c a ρ (I1 fun i => R (.int (-i)))) : EvE c (.UnaryOp .USub a pos) ρ R := fun σ H Hf Q S q =>
  bE_of (pe_un un_neg pbE) (h σ H Hf _ S fun x v H' Hf' hx r g => by
    obtain ⟨i, rfl, hR⟩ := hx
    rw [rep_int] at r
    exact ⟨i, r, q _ _ H' Hf' hR (rep_int.mpr rfl) g⟩)
/-- a comparison by values, a bool out -/
def CmpD (K : PySem.W.Frag) (r : R2) (p : D → D → (Bool → Prop) → Prop) : Prop :=
  ∀ (x y : D) (v u : V) (H Hf : Hp) (Q : VK) (R : Bool → Prop), Same Hf H → Rep K Hf x v → Rep K Hf y u → p x y R → (∀ b, R b → Q (.bl b) H) → r v u H Q
theorem e_cmp {op : CmpOp} {r : R2} {p : D → D → (Bool → Prop) → Prop} (ho : OpR c.X (compareOp op) r) (hd : CmpD c.X.K r p) (h : EvE c a ρ fun x => EvE c b ρ fun y => p x y fun z => R (.bl z))
    (hm : behindInMarks op b = false) : EvE c (.Compare a [op] [b] pos) ρ R := fun σ H Hf Q S q =>
  bE_of (pe_cmpR ho pbE pbE hm) (h σ H Hf _ S fun x v1 H1 Hf1 h1 r1 g1 => h1 σ H1 Hf1 _ (S.grw g1) fun y v2 H2 Hf2 h2 r2 g2 =>
    hd x y v1 v2 H2 Hf2 Q _ g2.b (Rep.mono g2.f x r1) r2 h2 fun z hz => q _ _ H2 Hf2 hz (rep_bl.mpr rfl) (g1.trans g2))
theorem t_cmp {op : CmpOp} {r : R2} {p : D → D → (Bool → Prop) → Prop} {T : Bool → Prop} (ho : OpR c.X (compareOp op) r) (hd : CmpD c.X.K r p) (h : EvE c a ρ fun x => EvE c b ρ fun y => p x y T)
    (hm : behindInMarks op b = false) : EvT c (.Compare a [op] [b] pos) ρ T := fun σ H Hf Q S q =>
  bT_of (pt_cmpR ho pbE pbE hm) (h σ H Hf _ S fun x v1 H1 Hf1 h1 r1 g1 => h1 σ H1 Hf1 _ (S.grw g1) fun y v2 H2 Hf2 h2 r2 g2 =>
    hd x y v1 v2 H2 Hf2 _ T g2.b (Rep.mono g2.f x r1) r2 h2 fun z hz => ⟨z, rfl, q _ H2 Hf2 hz (g1.trans g2)⟩)
theorem cmp_I {K : PySem.W.Frag} {f : Int → Int → Bool} : CmpD K (rI0 fun i j => .bl (f i j)) fun x y R => I2 (fun i j => R (f i j)) x y := by
  rintro x y v u H Hf Q R s rx ry ⟨i, j, rfl, rfl, hR⟩ q
  rw [rep_int] at rx ry
  exact ⟨i, j, rx, ry, q _ hR⟩
theorem scal_of {x y : D} {v u : V} {K : PySem.W.Frag} {H : Hp} (h : scalD x y = true) (rx : Rep K H x v) (ry : Rep K H y u) : scal v u = true ∧ decide (v = u) = decide (x = y) := by
  cases x <;> cases y <;> simp [scalD] at h <;> simp only [rep_int, rep_bl, rep_non, rep_str] at rx ry <;> subst rx <;> subst ry <;> simp [scal]
variable {T : Bool → Prop}
theorem t_lt (h : EvE c a ρ fun x => EvE c b ρ fun y => I2 (fun i j => T (decide (i < j))) x y) : EvT c (.Compare a [.Lt] [b] pos) ρ T := t_cmp op_lt cmp_I h (nomark b)
theorem t_le (h : EvE c a ρ fun x => EvE c b ρ fun y => I2 (fun i j => T (decide (i ≤ j))) x y) : EvT c (.Compare a [.LtE] [b] pos) ρ T := t_cmp op_le cmp_I h (nomark b)
theorem t_gt (h : EvE c a ρ fun x => EvE c b ρ fun y => I2 (fun i j => T (decide (j < i))) x y) : EvT c (.Compare a [.Gt] [b] pos) ρ T := t_cmp op_gt cmp_I h (nomark b)
theorem t_ge (h : EvE c a ρ fun x => EvE c b ρ fun y => I2 (fun i j => T (decide (j ≤ i))) x y) : EvT c (.Compare a [.GtE] [b] pos) ρ T := t_cmp op_ge cmp_I h (nomark b)
theorem e_lt (h : EvE c a ρ fun x => EvE c b ρ fun y => I2 (fun i j => R (.bl (decide (i < j)))) x y) : EvE c (.Compare a [.Lt] [b] pos) ρ R := e_cmp op_lt cmp_I h (nomark b)
end
end
end EV

set_option Elab.async false
set_option linter.all false
set_option maxRecDepth 100000
namespace EV
open PySem PySem.Spec PyProof.Rows L2
section
variable {P : Program} {w : World} {K : PySem.W.Frag} {mg : Str → Option Value} {base : Heap} {k : Nat} {N : List Str} {sc : Scope} {c : Ctx P w K mg base k N sc}
variable {a b e : Expr} {es rest : List Expr} {pos : Pos} {ρ : List Sl} {R : D → Prop} {T : Bool → Prop}

/-! ## and, or, not, if-else -/
def bW (X : Cx) (e : Expr) : TT := fun σ H Q => ∀ whole pins s, Inv X pins σ H s → wpAny (model X.prog X.w) X.A (isTrue e X.env whole) (TP X pins σ Q) X.xe s
theorem pbW {X : Cx} {e : Expr} : PW X e (bW X e) := fun whole pins s σ H Q I h => h whole pins s I
theorem bW_of {X : Cx} {e : Expr} {t : TT} (h : PW X e t) {σ : L2.St} {H : Hp} {Q : Bool → Hp → Prop} (q : t σ H Q) : bW X e σ H Q := fun whole pins s I => h whole pins s σ H Q I q
def EvW (c : Ctx P w K mg base k N sc) (e : Expr) (ρ : List Sl) (R : Bool → Prop) : Prop :=
  ∀ (σ : L2.St) (H Hf : Hp) (Q : Bool → Hp → Prop), StRep c σ H Hf ρ → (∀ b H' Hf', R b → Grw H Hf H' Hf' → Q b H') → bW c.X e σ H Q
theorem t_w (h : EvW c e ρ T) : EvT c e ρ T := fun σ H Hf Q S q pins s I => h σ H Hf Q S q _ pins s I
theorem w_and1 (h : EvT c a ρ T) : EvW c (.BoolOp .And [a] pos) ρ T := fun σ H Hf Q S q => bW_of (pw_and1 pbT) (h σ H Hf Q S q)
theorem w_or1 (h : EvT c a ρ T) : EvW c (.BoolOp .Or [a] pos) ρ T := fun σ H Hf Q S q => bW_of (pw_or1 pbT) (h σ H Hf Q S q)
theorem w_and (h : EvT c a ρ (If2 (EvW c (.BoolOp .And (b :: rest) pos) ρ T) (T false))) : EvW c (.BoolOp .And (a :: b :: rest) pos) ρ T := fun σ H Hf Q S q =>
  bW_of (pw_and pbT pbW) (h σ H Hf _ S fun x H' Hf' hx g => by
    cases x with
    | true => exact hx.t rfl σ H' Hf' Q (S.grw g) fun y H2 Hf2 hy g2 => q y H2 Hf2 hy (g.trans g2)
    | false => exact q false H' Hf' (hx.f rfl) g)
theorem w_or (h : EvT c a ρ (If2 (T true) (EvW c (.BoolOp .Or (b :: rest) pos) ρ T))) : EvW c (.BoolOp .Or (a :: b :: rest) pos) ρ T := fun σ H Hf Q S q =>
  bW_of (pw_or pbT pbW) (h σ H Hf _ S fun x H' Hf' hx g => by
    cases x with
    | false => exact hx.f rfl σ H' Hf' Q (S.grw g) fun y H2 Hf2 hy g2 => q y H2 Hf2 hy (g.trans g2)
    | true => exact q true H' Hf' (hx.t rfl) g)
theorem t_not (h : EvT c a ρ fun x => T (!x)) : EvT c (.UnaryOp .Not a pos) ρ T := fun σ H Hf Q S q =>
  bT_of (pt_not pbT) (h σ H Hf _ S fun x H' Hf' hx g => q _ H' Hf' hx g)
theorem e_one {op : BoolOp} (h : EvE c a ρ R) : EvE c (.BoolOp op [a] pos) ρ R := fun σ H Hf Q S q => bE_of (pe_one pbE) (h σ H Hf Q S q)
theorem e_and (h : EvE c a ρ (B1 (If2 (EvE c (.BoolOp .And (b :: rest) pos) ρ R) (R (.bl false))))) : EvE c (.BoolOp .And (a :: b :: rest) pos) ρ R := fun σ H Hf Q S q =>
  bE_of (pe_and pbE pbE) (h σ H Hf _ S fun x v H' Hf' ⟨k, e, h1⟩ r g => by
    subst e
    rw [rep_bl] at r
    refine ⟨k, r, ?_⟩
    cases k with
    | true => rw [if_pos rfl]; exact h1.t rfl σ H' Hf' Q (S.grw g) fun y v2 H2 Hf2 hy r2 g2 => q y v2 H2 Hf2 hy r2 (g.trans g2)
    | false => rw [if_neg Bool.false_ne_true]; exact q _ _ H' Hf' (h1.f rfl) (rep_bl.mpr rfl) g)
theorem e_or (h : EvE c a ρ (B1 (If2 (R (.bl true)) (EvE c (.BoolOp .Or (b :: rest) pos) ρ R)))) : EvE c (.BoolOp .Or (a :: b :: rest) pos) ρ R := fun σ H Hf Q S q =>
  bE_of (pe_or pbE pbE) (h σ H Hf _ S fun x v H' Hf' ⟨k, e, h1⟩ r g => by
    subst e
    rw [rep_bl] at r
    refine ⟨k, r, ?_⟩
    cases k with
    | false => rw [if_neg Bool.false_ne_true]; exact h1.f rfl σ H' Hf' Q (S.grw g) fun y v2 H2 Hf2 hy r2 g2 => q y v2 H2 Hf2 hy r2 (g.trans g2)
    | true => rw [if_pos rfl]; exact q _ _ H' Hf' (h1.t rfl) (rep_bl.mpr rfl) g)
theorem e_not (h : EvE c a ρ (B1 fun k => R (.bl (!k)))) : EvE c (.UnaryOp .Not a pos) ρ R := fun σ H Hf Q S q =>
  bE_of (pe_not pbE) (h σ H Hf _ S fun x v H' Hf' ⟨k, e, h1⟩ r g => by
    subst e; rw [rep_bl] at r
    exact ⟨k, r, q _ _ H' Hf' h1 (rep_bl.mpr rfl) g⟩)
theorem x_ifExp {t : Expr} {R : Sl → Prop} (h : EvT c t ρ (If2 (EvX c a ρ R) (EvX c b ρ R))) : EvX c (.IfExp t a b pos) ρ R := fun σ H Hf Q S q =>
  bE_of (pe_ifExp pbT pbE pbE) (h σ H Hf _ S fun x H' Hf' hx g => by
    cases x with
    | true => rw [if_pos rfl]; exact hx.t rfl σ H' Hf' Q (S.grw g) fun y v2 H2 Hf2 hy r2 g2 => q y v2 H2 Hf2 hy (r2.weak fun p hp => g.s.free hp) (g.trans g2)
    | false => rw [if_neg Bool.false_ne_true]; exact hx.f rfl σ H' Hf' Q (S.grw g) fun y v2 H2 Hf2 hy r2 g2 => q y v2 H2 Hf2 hy (r2.weak fun p hp => g.s.free hp) (g.trans g2))
theorem e_ifExp {t : Expr} (h : EvT c t ρ (If2 (EvE c a ρ R) (EvE c b ρ R))) : EvE c (.IfExp t a b pos) ρ R :=
  e_ofx (x_ifExp (h.imp fun x hx => ⟨fun e => x_e ((hx.t e).imp fun d h => ⟨d, rfl, h⟩), fun e => x_e ((hx.f e).imp fun d h => ⟨d, rfl, h⟩)⟩))
/-- an expression as a test: its value a bool -/
theorem t_val (h : EvE c e ρ (B1 T)) (he : ∀ (env : Env) whole, isTrue e env whole = (do let v ← whole; standAt e.pos; holding [v] (truthy v)) := by intro _ _; with_unfolding_all rfl) : EvT c e ρ T := fun σ H Hf Q S q =>
  bT_of (pt_val pbE (he _)) (h σ H Hf _ S fun x v H' Hf' ⟨k, e, h1⟩ r g => by
    subst e; rw [rep_bl] at r
    exact ⟨k, r, q k H' Hf' h1 g⟩)

/-! ## argument lists, displays -/
theorem a_nil {R : List D → Prop} (h : R []) : EvA c [] ρ R := fun σ H Hf Q S q => bA_of pa_nil (q [] [] H Hf h (reps_nil.mpr rfl) (.refl S.sb))
theorem a_cons {R : List D → Prop} (h : EvE c e ρ fun d => EvA c es ρ fun ds => R (d :: ds)) (hs : ∀ env, starEach (e :: es) env = (false, eval e env) :: starEach es env := by intro _; with_unfolding_all rfl) : EvA c (e :: es) ρ R := fun σ H Hf Q S q =>
  bA_of (pa_cons pbE pbA (hs _)) (h σ H Hf _ S fun d v H1 Hf1 h1 r1 g1 => h1 σ H1 Hf1 _ (S.grw g1) fun ds vs H2 Hf2 h2 r2 g2 => q _ _ H2 Hf2 h2 (.cons (Rep.mono g2.f d r1) r2) (g1.trans g2))
theorem e_tup {j : Nat} (h : EvA c es ρ fun ds => Sd (ds.length ≤ sizeLine) (R (.tup ds))) : EvE c (.Tuple es j pos) ρ R := fun σ H Hf Q S q =>
  bE_of (pe_tup pbA) (h σ H Hf _ S fun ds vs H' Hf' ⟨hl, hR⟩ r g => ⟨by rw [← r.length]; exact hl, fun p hp => by
    have g2 := Grw.new g.b hp (o := .tup vs)
    exact q _ _ _ _ hR (rep_tup.mpr ⟨p, vs, rfl, .inl (.inl upd_same), r.mono g2.f⟩) (g.trans g2)⟩)
theorem x_lst {R : Sl → Prop} (h : EvA c es ρ fun ds => Sd (ds.length ≤ sizeLine) (R (.ow ds))) : EvX c (.List es pos) ρ R := fun σ H Hf Q S q =>
  bE_of (pe_lst pbA) (h σ H Hf _ S fun ds vs H' Hf' ⟨hl, hR⟩ r g => ⟨by rw [← r.length]; exact hl, fun p hp => by
    have g2 := Grw.newO g.b hp (o := .lst vs)
    exact q _ _ _ _ hR ⟨p, vs, rfl, g.s.free hp, upd_same, g.b.free hp, r⟩ (g.trans g2)⟩)

/-! ## statements -/
variable {st : Stmt} {sts : List Stmt} {nx : List Sl → Prop} {p : Pt}
theorem ss_nil (h : nx ρ) : EvSs c [] ρ nx p := fun σ H Hf D S o => bSs_of pss_nil (o.nx σ H Hf ρ S h)
theorem ss_cons (h : EvS c st ρ (fun ρ' => EvSs c sts ρ' nx p) p) : EvSs c (st :: sts) ρ nx p := fun σ H Hf D S o =>
  bSs_of (pss_cons pbS pbSs) (h σ H Hf { D with nx := bSs c.X sts D } S ⟨fun σ' H' Hf' ρ' S' q => q σ' H' Hf' D S' o, o.rt, o.bk, o.ct⟩)
theorem s_pass (h : nx ρ) : EvS c (.Pass pos) ρ nx p := fun σ H Hf D S o => bS_of ps_pass (o.nx σ H Hf ρ S h)
theorem s_break (h : p.bk ρ) : EvS c (.Break pos) ρ nx p := fun σ H Hf D S o => bS_of ps_break (o.bk σ H Hf ρ S h)
theorem s_continue (h : p.ct ρ) : EvS c (.Continue pos) ρ nx p := fun σ H Hf D S o => bS_of ps_continue (o.ct σ H Hf ρ S h)
theorem StRep.bas' {σ : L2.St} {H Hf H' Hf' : Hp} (S : StRep c σ H Hf ρ) (g : Grw H Hf H' Hf') : Grw c.X.H₀ c.Hf H' Hf' := S.bas.trans g
theorem s_ret (h : EvX c e ρ p.rt) : EvS c (.Return (some e) pos) ρ nx p := fun σ H Hf D S o =>
  bS_of (ps_ret pbE) (h σ H Hf _ S fun r v H' Hf' hr rs g => o.rt r v H' Hf' (S.bas.trans g) (rs.weak fun p hp => S.bas.s.free hp) hr)
theorem s_retN (h : p.rt (.va .non)) : EvS c (.Return none pos) ρ nx p := fun σ H Hf D S o =>
  bS_of ps_retN (o.rt (.va .non) .non H Hf S.bas (show Rep c.X.K Hf .non .non from rep_non.mpr rfl) h)
/-- an owned thing is handed back -/
theorem s_ret_ow {x : Str} {pos2 : Pos} {i : Nat} {r : Sl} (hN : At N i x) (hi : At ρ i r) (hu : r.owned = true) (h : p.rt r)
    (hd : (x == ("__debug__" : Str)) = false := by decide) (hcd : (x == ("__classdict__" : Str)) = false := by decide) :
    EvS c (.Return (some (.Name x pos2)) pos) ρ nx p := fun σ H Hf D S o => by
  obtain ⟨v, e, rs⟩ := S.at_ i r hi.get (by rintro rfl; cases hu)
  exact bS_of (ps_ret (pe_var (X := c.X) (i := i) (by rw [c.eN]; exact hN.get) (by rw [c.esc]; rcases c.vis x hN.mem with h | h; exact .inl h; exact .inr (.inl h)) hd hcd)) ⟨v, e, o.rt r v H Hf S.bas rs h⟩
theorem s_if {A B : List Stmt} {t : Expr} (h : EvT c t ρ (If2 (EvSs c A ρ nx p) (EvSs c B ρ nx p))) : EvS c (.If t A B pos) ρ nx p := fun σ H Hf D S o =>
  bS_of (ps_if pbT pbSs pbSs) (h σ H Hf _ S fun x H' Hf' hx g => by
    cases x with
    | true => rw [if_pos rfl]; exact hx.t rfl σ H' Hf' D (S.grw g) o
    | false => rw [if_neg Bool.false_ne_true]; exact hx.f rfl σ H' Hf' D (S.grw g) o)
theorem s_expr (h : EvE c e ρ fun _ => nx ρ) (hs : ∀ env, swapsWith e none pos.line env = pure false := by intro _; with_unfolding_all rfl) : EvS c (.Expr e pos) ρ nx p := fun σ H Hf D S o =>
  bS_of (ps_expr pbE (hs _)) (h σ H Hf _ S fun d v H' Hf' hx r g => o.nx σ H' Hf' ρ (S.grw g) hx)
/-- what is wanted of the slots behind a store -/
def Nx (ρ : List Sl) (i : Nat) (R : List Sl → Prop) (r : Sl) : Prop := ∃ ρ', SSet ρ i r ρ' ∧ R ρ'
theorem nxt {ρ ρ' : List Sl} {i : Nat} {R : List Sl → Prop} {r : Sl} (h : SSet ρ i r ρ') (hr : R ρ') : Nx ρ i R r := ⟨ρ', h, hr⟩
theorem s_set {x : Str} {pos2 : Pos} {i : Nat} (hN : At N i x) (h : EvX c e ρ (Nx ρ i nx))
    (hs : ∀ env, swapsWith e (some (.Name x pos2)) pos.line env = pure false := by intro _; with_unfolding_all rfl) : EvS c (.Assign [.Name x pos2] e pos) ρ nx p := fun σ H Hf D S o =>
  bS_of (ps_set (X := c.X) (i := i) (by rw [c.eN]; exact c.nd) (by rw [c.eN]; exact hN.get) (by rw [c.esc]; exact c.vis x hN.mem) pbE (hs _) (c.fn x)) (h σ H Hf _ S fun r v H' Hf' ⟨ρ', hs, hx⟩ rs g => o.nx _ H' Hf' _ (hs.eq ▸ S.set g rs) hx)

/-! ## targets -/
theorem g_name {x : Str} {d : D} {R : List Sl → Prop} {i : Nat} (hN : At N i x) (h : Nx ρ i R (.va d)) : EvG c (.Name x pos) d ρ R := fun σ H Hf v Q S r q => by
  obtain ⟨ρ', hs, h⟩ := h
  exact bG_of (pg_name (X := c.X) (i := i) (by rw [c.eN]; exact c.nd) (by rw [c.eN]; exact hN.get) (by rw [c.esc]; exact c.vis x hN.mem) (c.fn x)) (q _ H Hf _ (hs.eq ▸ S.set (.refl S.sb) (r := .va d) r) h)
/-- several targets at once -/
def EvGs (c : Ctx P w K mg base k N sc) (ts : List Expr) (ds : List D) (ρ : List Sl) (R : List Sl → Prop) : Prop :=
  ∀ (σ : L2.St) (H Hf : Hp) (vs : List V) (Q : L2.St → Hp → Prop), StRep c σ H Hf ρ → Reps c.X.K Hf ds vs → (∀ σ' H' Hf' ρ', StRep c σ' H' Hf' ρ' → Same Hf Hf' → R ρ' → Q σ' H') →
    ∀ pins s us, Inv c.X pins σ H s → Vals vs us → wpAny (model c.X.prog c.X.w) c.X.A (assignInOrder ((assignEach ts c.X.env).map (·.2)) us) (fun _ s' => ∃ σ' H', Inv c.X pins σ' H' s' ∧ Q σ' H') c.X.xe s
theorem gs_nil {R : List Sl → Prop} (h : R ρ) : EvGs c [] [] ρ R := fun σ H Hf vs Q S r q pins s us I rv => by
  rw [reps_nil] at r; subst r
  exact pgs_nil pins s σ H [] us Q I rv ⟨rfl, q σ H Hf ρ S (.refl _) h⟩
/-- names alone as targets keep what is frozen -/
theorem gs_name {x : Str} {d : D} {ds : List D} {ts : List Expr} {R : List Sl → Prop} {i : Nat} (hN : At N i x) (h : Nx ρ i (fun ρ' => EvGs c ts ds ρ' R) (.va d))
    (hs : ∀ env, (assignEach (.Name x pos :: ts) env).map (·.2) = assign (.Name x pos) env :: (assignEach ts env).map (·.2) := by intro _; with_unfolding_all rfl) : EvGs c (.Name x pos :: ts) (d :: ds) ρ R := fun σ H Hf vs Q S r q pins s us I rv => by
  obtain ⟨ρ', hs', h⟩ := h
  rw [reps_cons] at r
  obtain ⟨v, vr, rfl, r1, r2⟩ := r
  have hp : PGs c.X ts (fun vs' σ' H' Q' => ∀ pins s us, Inv c.X pins σ' H' s → Vals vs' us → wpAny (model c.X.prog c.X.w) c.X.A (assignInOrder ((assignEach ts c.X.env).map (·.2)) us) (fun _ s' => ∃ σ'' H'', Inv c.X pins σ'' H'' s' ∧ Q' σ'' H'') c.X.xe s) :=
    fun pins s σ H vs us Q I r h => h pins s us I r
  refine pgs_cons (pg_name (X := c.X) (i := i) (by rw [c.eN]; exact c.nd) (by rw [c.eN]; exact hN.get) (by rw [c.esc]; exact c.vis x hN.mem) (c.fn x)) hp (hs _) pins s σ H _ us Q I rv ⟨v, vr, rfl, ?_⟩
  have S1 := S.set (i := i) (.refl S.sb) (r := .va d) (v := v) r1
  rw [← hs'.eq] at S1
  exact h _ H Hf vr Q S1 r2 q
theorem g_tup {ts : List Expr} {j : Nat} {d : D} {ds : List D} {R : List Sl → Prop} (he : d = .tup ds) (hl : ds.length = ts.length) (h : EvGs c ts ds ρ R)
    (hn : ∀ env, (assignEach ts env).length = ts.length := by intro _; with_unfolding_all rfl) (hst : ∀ env, (assignEach ts env).findIdx? (·.1) = none := by intro _; with_unfolding_all rfl) : EvG c (.Tuple ts j pos) d ρ R := fun σ H Hf v Q S r q => by
  subst he
  rw [rep_tup] at r
  obtain ⟨a, xs, rfl, h1, h2⟩ := r
  have hp : PGs c.X ts (fun vs' σ' H' Q' => ∀ pins s us, Inv c.X pins σ' H' s → Vals vs' us → wpAny (model c.X.prog c.X.w) c.X.A (assignInOrder ((assignEach ts c.X.env).map (·.2)) us) (fun _ s' => ∃ σ'' H'', Inv c.X pins σ'' H'' s' ∧ Q' σ'' H'') c.X.xe s) :=
    fun pins s σ H vs us Q I r h => h pins s us I r
  refine bG_of (pg_tup (X := c.X) (k := j) (n := ts.length) c.calm hp (hn _) (hst _)) ⟨a, xs, rfl, same_tup S.sb h1, by rw [← h2.length, hl], ?_⟩
  exact h σ H Hf xs Q S h2 fun σ' H' Hf' ρ' S' _ hR => q σ' H' Hf' ρ' S' hR
theorem s_asg {tg : Expr} (h : EvE c e ρ fun d => EvG c tg d ρ nx) (hs : ∀ env, swapsWithSole [tg] e pos.line env = pure false := by intro _; with_unfolding_all rfl) (hw : ∀ env, swappedStores [tg] e env = pure none := by intro _; with_unfolding_all rfl) (h1 : ∀ env, (assignEach [tg] env).map (·.2) = [assign tg env] := by intro _; with_unfolding_all rfl) : EvS c (.Assign [tg] e pos) ρ nx p := fun σ H Hf D S o =>
  bS_of (ps_asg pbE pbG (hs _) (hw _) (h1 _)) (h σ H Hf _ S fun d v H' Hf' hx r g => hx σ H' Hf' v _ (S.grw g) r fun σ' H2 Hf2 ρ' S' hR => o.nx σ' H2 Hf2 ρ' S' hR)
/-- a, b = x, y -/
theorem s_par {x y : Str} {px py pt : Pos} {kt k2 : Nat} {pt2 : Pos} {i j : Nat} (hNi : At N i x) (hNj : At N j y) (hij : i ≠ j) (h : EvE c a ρ fun d1 => EvE c b ρ fun d2 => Nx ρ i (fun ρ' => Nx ρ' j nx (.va d2)) (.va d1))
    (hx : sc.names.lookup x = some .local := by with_unfolding_all rfl) (hy : sc.names.lookup y = some .local := by with_unfolding_all rfl)
    (hw : ∀ env : Env, env.scope = sc → swappedStores [.Tuple [.Name x px, .Name y py] kt pt] (.Tuple [a, b] k2 pt2) env = pure (some [x, y]) := by (intro env he; cases env; cases he; with_unfolding_all rfl))
    (hs : ∀ env, swapsWithSole [.Tuple [.Name x px, .Name y py] kt pt] (.Tuple [a, b] k2 pt2) pos.line env = pure false := by intro _; with_unfolding_all rfl)
    (hst : ∀ env, starEach [a, b] env = (false, eval a env) :: starEach [b] env := by intro _; with_unfolding_all rfl) (hst2 : ∀ env, starEach [b] env = [(false, eval b env)] := by intro _; with_unfolding_all rfl) :
    EvS c (.Assign [.Tuple [.Name x px, .Name y py] kt pt] (.Tuple [a, b] k2 pt2) pos) ρ nx p := fun σ H Hf D S o =>
  bS_of (ps_par (X := c.X) (i := i) (j := j) c.calm (by rw [c.eN]; exact c.nd) (by rw [c.eN]; exact hNi.get) (by rw [c.eN]; exact hNj.get) hij (by rw [c.esc]; exact hx) (by rw [c.esc]; exact hy) (pa_cons pbE (pa_cons pbE pa_nil (hst2 _)) (hst _)) (hw _ c.esc) (hs _))
    (h σ H Hf _ S fun d1 v1 H1 Hf1 h1 r1 g1 => h1 σ H1 Hf1 _ (S.grw g1) fun d2 v2 H2 Hf2 ⟨ρ1, hs1, ρ2, hs2, h2⟩ r2 g2 => ⟨v1, v2, rfl, by
      have S2 := (S.grw (g1.trans g2)).set (i := i) (.refl g2.b) (r := .va d1) (v := v1) (Rep.mono g2.f d1 r1)
      rw [← hs1.eq] at S2
      have S3 := S2.set (i := j) (.refl g2.b) (r := .va d2) (v := v2) r2
      rw [← hs2.eq] at S3
      exact o.nx _ H2 Hf2 _ S3 h2⟩)
/-- name op= e, ints -/
theorem s_aug {x : Str} {pos2 : Pos} {op : Operator} {f : Int → Int → Int} {C : Int → Int → Prop} (ho : OpR c.X (inplaceOp op) (rI C fun i j => .int (f i j))) {i : Nat} {m : Int} (hN : At N i x) (hi : At ρ i (.va (.int m)))
    (h : EvE c e ρ (I1 fun j => Sd (C m j) (Nx ρ i nx (.va (.int (f m j)))))) : EvS c (.AugAssign (.Name x pos2) op e pos) ρ nx p := fun σ H Hf D S o => by
  obtain ⟨v, e1, r1⟩ := S.va hi.get
  rw [rep_int] at r1; subst r1
  have hip : PIp c.X op (rI C fun i j => .int (f i j)) := fun pins s σ H x y v u Q I rx ry h => ho pins s σ H x y v u Q I rx ry h
  refine bS_of (ps_aug (X := c.X) (i := i) (by rw [c.eN]; exact c.nd) (by rw [c.eN]; exact hN.get) (by rw [c.esc]; exact c.vis x hN.mem) pbE hip (c.fn x)) ⟨_, e1, h σ H Hf _ S fun d v H' Hf' ⟨j, ed, ⟨hC, ρ', hs, hn⟩⟩ r g => ?_⟩
  subst ed; rw [rep_int] at r
  have S2 := S.set g (i := i) (r := .va (.int (f m j))) (show Rep c.X.K Hf' (.int (f m j)) (.int (f m j)) from rep_int.mpr rfl)
  rw [← hs.eq] at S2
  exact ⟨m, j, rfl, r, hC, o.nx _ H' Hf' _ S2 hn⟩
theorem s_addq {x : Str} {pos2 : Pos} {i : Nat} {m : Int} (hN : At N i x) (hi : At ρ i (.va (.int m))) (h : EvE c e ρ (I1 fun j => Nx ρ i nx (.va (.int (m + j))))) :
    EvS c (.AugAssign (.Name x pos2) .Add e pos) ρ nx p :=
  s_aug (C := fun _ _ => True) (f := fun i j => i + j) (fun pins s σ H x y v u Q I rx ry ⟨i, j, e1, e2, _, q⟩ => iop_add pins s σ H x y v u Q I rx ry ⟨i, j, e1, e2, q⟩) hN hi (h.imp fun d ⟨j, e, q⟩ => ⟨j, e, trivial, q⟩)
theorem s_subq {x : Str} {pos2 : Pos} {i : Nat} {m : Int} (hN : At N i x) (hi : At ρ i (.va (.int m))) (h : EvE c e ρ (I1 fun j => Nx ρ i nx (.va (.int (m - j))))) :
    EvS c (.AugAssign (.Name x pos2) .Sub e pos) ρ nx p :=
  s_aug (C := fun _ _ => True) (f := fun i j => i - j) (fun pins s σ H x y v u Q I rx ry ⟨i, j, e1, e2, _, q⟩ => iop_sub pins s σ H x y v u Q I rx ry ⟨i, j, e1, e2, q⟩) hN hi (h.imp fun d ⟨j, e, q⟩ => ⟨j, e, trivial, q⟩)

/-! ## while -/
theorem s_while {t : Expr} {body : List Stmt} (hq : c.X.xe = fun _ _ => False) (I : Nat → List Sl → Prop) {m₀ : Nat} (h0 : I m₀ ρ)
    (h : ∀ m ρ', I m ρ' → EvT c t ρ' (If2 (EvSs c body ρ' (fun r => ∃ m', m' < m ∧ I m' r) { ct := fun r => ∃ m', m' < m ∧ I m' r, bk := nx, rt := p.rt }) (nx ρ'))) :
    EvS c (.While t body [] pos) ρ nx p := fun σ H Hf D S o =>
  bS_of (ps_while (by rw [hq]; exact PassesOwn.never) pbT pbSs) ⟨fun m σ H => ∃ Hf ρ', StRep c σ H Hf ρ' ∧ I m ρ', ⟨m₀, Hf, ρ, S, h0⟩, fun m σ H ⟨Hf, ρ', S, hI⟩ => h m ρ' hI σ H Hf _ S fun x H' Hf' hx g => by
    cases x with
    | false => rw [if_neg Bool.false_ne_true]; exact o.nx σ H' Hf' ρ' (S.grw g) (hx.f rfl)
    | true =>
      rw [if_pos rfl]
      refine ⟨fun σ' H' => ∃ m', m' < m ∧ ∃ Hf ρ', StRep c σ' H' Hf ρ' ∧ I m' ρ', fun σ' H' ⟨m', hl, hh⟩ => ⟨m', hl, hh⟩, ?_⟩
      exact hx.t rfl σ H' Hf' _ (S.grw g) ⟨fun σ H Hf ρ S ⟨m', hl, hi⟩ => ⟨m', hl, Hf, ρ, S, hi⟩, o.rt, fun σ H Hf ρ S q => o.nx σ H Hf ρ S q, fun σ H Hf ρ S ⟨m', hl, hi⟩ => ⟨m', hl, Hf, ρ, S, hi⟩⟩⟩
end
end EV

set_option Elab.async false
set_option linter.all false
set_option maxRecDepth 100000
namespace EV
open PySem PySem.Spec PyProof.Rows L2

theorem sz_small {n : Nat} (h : n ≤ 1000) : n ≤ sizeLine := Nat.le_of_lt (small1000 h)
theorem dv_small {j : Int} (h : 0 < j) (h2 : j.natAbs.log2 < 9000) : DivOk j := ⟨h, h2⟩
/-! ## contracts -/
inductive Res where
  | ok (r : Sl)
  | ex (C : Addr)
/-- what a def tells of data handed in; all that stood stays -/
abbrev Fn := List D → Res → Prop
def spF (K : PySem.W.Frag) (F : Fn) : Sp := fun vs H Q E => ∃ Hf ds r, Same Hf H ∧ Reps K Hf ds vs ∧ F ds r ∧ match r with
  | .ok sl => ∀ v H' Hf', Grw H Hf H' Hf' → RepS K (fun p => H p = none) H' Hf' sl v → Q v H'
  | .ex C => ∀ a H', Same H H' → E (.ref C) (some a) H'
structure Cal (P : Program) (w : World) (K : PySem.W.Frag) (mg : Str → Option Value) (base : Heap) (k : Nat) (x : Str) (F : Fn) : Prop where
  ex : ∃ f fd ps, mg x = some (.ref f) ∧ PySem.W.keepIn K (.ref f) = true ∧ Binds K fd ps [] ∧ FnOk P w K mg base (CXE P w) k f fd ps (spF K F)
theorem Cal.mono {P : Program} {w : World} {K : PySem.W.Frag} {mg : Str → Option Value} {base : Heap} {j k : Nat} {x : Str} {F : Fn} (h : Cal P w K mg base j x F) (hl : j ≤ k) : Cal P w K mg base k x F := by
  obtain ⟨f, fd, ps, a, b, c, d⟩ := h.ex
  exact ⟨f, fd, ps, a, b, c, d.mono hl⟩

section
variable {P : Program} {w : World} {K : PySem.W.Frag} {mg : Str → Option Value} {base : Heap} {k : Nat} {N : List Str} {sc : Scope} {c : Ctx P w K mg base k N sc}
variable {a b e : Expr} {es rest : List Expr} {pos : Pos} {ρ : List Sl} {R : D → Prop} {T : Bool → Prop}

/-- what comes back of a call, as the caller wants it -/
def RsP (c : Ctx P w K mg base k N sc) (ρ : List Sl) (R : Sl → Prop) : Res → Prop
  | .ok sl => R sl
  | .ex C => c.RX C ρ
theorem run_cal {x : Str} {F : Fn} {j : Nat} (h : Cal P w K mg base j x F) (hj : j ≤ k) : ∃ f, mg x = some (.ref f) ∧ PySem.W.keepIn K (.ref f) = true ∧
    ∀ (pins : List (Addr × Obj)) (σ : L2.St) (H Hf : Hp) (s : Shared) (us : List Value) (vs : List V) (ds : List D) (r : Res) (Q : VK), Inv c.X pins σ H s → StRep c σ H Hf ρ → Vals vs us → Reps c.X.K Hf ds vs → F ds r →
      (∀ sl v H' Hf', r = .ok sl → RepS c.X.K (fun p => H p = none) H' Hf' sl v → Grw H Hf H' Hf' → Q v H') → (∀ C, r = .ex C → c.RX C ρ) → wpAny (model c.X.prog c.X.w) c.X.A (call (.ref f) us) (EP c.X pins σ Q) c.X.xe s := by
  obtain ⟨f, fd, ps, hm, hk, hb, hF⟩ := h.ex
  refine ⟨f, hm, hk, fun pins σ H Hf s us vs ds r Q I S rv rs hr q hx => ?_⟩
  have hF' : FnOk c.X.prog c.X.w c.X.K c.X.mg c.X.base (CXE c.X.prog c.X.w) k f fd ps (spF c.X.K F) := by rw [c.eP, c.ew, c.eK, c.emg, c.eb]; exact hF.mono hj
  have hsp : spF c.X.K F vs H Q (fun cv ao H' => ∃ C, r = .ex C ∧ cv = .ref C ∧ Same H H') := by
    refine ⟨Hf, ds, r, S.bas.b, rs, hr, ?_⟩
    cases r with
    | ok sl => exact fun v H' Hf' g rs2 => q sl v H' Hf' rfl rs2 g
    | ex C => exact fun a H' s2 => ⟨C, rfl, rfl, s2⟩
  have hl : us.length = ps.length := by rw [← rv.length]; exact hF'.len _ _ _ _ hsp
  have hb' : Binds c.X.K fd ps [] := by rw [c.eK]; exact hb
  have hb2 := hb' s us I.kIn (by simpa using hl)
  rw [List.append_nil] at hb2
  refine wpAny_call (codeAny_mono (hF'.run c.X.A c.X.stack s H ⟨us, []⟩ us vs Q _ c.room I.env0 hb2 rv hsp) fun r' s' hq => ?_)
  cases r' with
  | error e =>
    obtain ⟨a, C, H', rfl, hE, C', e1, e2, sm⟩ := hq
    cases e2
    exact c.exc C a pins σ H Hf ρ s H' s' I S (hx C e1) hE sm
  | ok fl =>
    cases fl with
    | ret u => exact I.after hq
    | next => exact False.elim hq
    | brk => exact False.elim hq
    | cont => exact False.elim hq
theorem x_call {x : Str} {p : Pos} {F : Fn} {j : Nat} {R : Sl → Prop} (h : Cal P w K mg base j x F) (hj : j ≤ k)
    (ha : EvA c (e :: es) ρ fun ds => ∃ r, F ds r ∧ RsP c ρ R r)
    (hg : sc.names.lookup x = some .globalImplicit := by with_unfolding_all rfl) (hdb : (x == ("__debug__" : Str)) = false := by decide) (he : ∀ env, starEach (e :: es) env = (false, eval e env) :: starEach es env := by intro _; with_unfolding_all rfl)
    (hpl : ∀ env, (backTo pos (starEach es env)).any (·.1) = false := by intro _; with_unfolding_all rfl) : EvX c (.Call (.Name x p) (e :: es) [] pos) ρ R := fun σ H Hf Q S q pins s I => by
  obtain ⟨f, hm, hk, run⟩ := run_cal (c := c) (ρ := ρ) h hj
  refine wpAny_Call_Name_kw (ld_glob I (by unfold Gl Env.kindOf; rw [c.esc]; exact hg) (by rw [c.emg]; exact hm) ?_ hdb)
  refine PySem.W.callWith_K (h₀ := c.X.base) I.ok.mod.kin (by rw [c.eK]; exact hk) (thn (ha σ H Hf (fun vs H1 => ∃ Hf1 ds, (∃ r, F ds r ∧ RsP c ρ R r) ∧ Reps c.X.K Hf1 ds vs ∧ Grw H Hf H1 Hf1) S (fun ds vs H1 Hf1 hr rs g => ⟨Hf1, ds, hr, rs, g⟩) pos pins s I) fun us s1 ⟨vs, H1, I1, rv, Hf1, ds, ⟨r, hF, hR⟩, rs, g⟩ => ⟨I1.kIn, ?_⟩) (he _) (hpl _)
  refine run pins σ H1 Hf1 s1 us vs ds r Q I1 (S.grw g) rv rs hF (fun sl v H' Hf' e1 rs2 g2 => ?_) fun C e1 => ?_
  · subst e1
    exact q sl v H' Hf' hR (rs2.weak fun p hp => g.s.free hp) (g.trans g2)
  · subst e1
    exact hR
theorem x_call0 {x : Str} {p : Pos} {F : Fn} {j : Nat} {R : Sl → Prop} (h : Cal P w K mg base j x F) (hj : j ≤ k) (ha : ∃ r, F [] r ∧ RsP c ρ R r)
    (hg : sc.names.lookup x = some .globalImplicit := by with_unfolding_all rfl) (hdb : (x == ("__debug__" : Str)) = false := by decide) : EvX c (.Call (.Name x p) [] [] pos) ρ R := fun σ H Hf Q S q pins s I => by
  obtain ⟨f, hm, hk, run⟩ := run_cal (c := c) (ρ := ρ) h hj
  refine wpAny_Call_Name_kw (ld_glob I (by unfold Gl Env.kindOf; rw [c.esc]; exact hg) (by rw [c.emg]; exact hm) ?_ hdb)
  obtain ⟨r, hF, hR⟩ := ha
  refine PySem.W.callWith_K0 I.kIn (by rw [c.eK]; exact hk) ?_
  refine run pins σ H Hf s [] [] [] r Q I S .nil (reps_nil.mpr rfl) hF (fun sl v H' Hf' e1 rs2 g2 => ?_) fun C e1 => ?_
  · subst e1
    exact q sl v H' Hf' hR rs2 g2
  · subst e1
    exact hR
/-- a def that tells a frozen value f of its arguments -/
theorem e_call {x : Str} {p : Pos} {F : Fn} {j : Nat} (h : Cal P w K mg base j x F) (hj : j ≤ k)
    (ha : EvA c (e :: es) ρ fun ds => ∃ r, F ds r ∧ RsP c ρ (FzP R) r)
    (hg : sc.names.lookup x = some .globalImplicit := by with_unfolding_all rfl) (hdb : (x == ("__debug__" : Str)) = false := by decide) (he : ∀ env, starEach (e :: es) env = (false, eval e env) :: starEach es env := by intro _; with_unfolding_all rfl)
    (hpl : ∀ env, (backTo pos (starEach es env)).any (·.1) = false := by intro _; with_unfolding_all rfl) : EvE c (.Call (.Name x p) (e :: es) [] pos) ρ R := e_x (x_call h hj ha hg hdb he hpl)

/-! ## the slots at the entry -/
def start0 (N : List Str) (ds : List D) : List Sl := ds.map .va ++ List.replicate (N.length - ds.length) .un
theorem st_start {K : PySem.W.Frag} {H₀ Hf₀ : Hp} {N : List Str} {vs : List V} {ds : List D} (r : Reps K Hf₀ ds vs) (sb : Same Hf₀ H₀) : StR K H₀ Hf₀ (L2.start N vs) H₀ Hf₀ (start0 N ds) := by
  have hl := r.length
  refine ⟨.refl sb, by simp [L2.start, start0, hl], fun i r' h hu => ?_, fun i j r1 r2 p hne h1 h2 o1 o2 => ?_⟩
  · by_cases q : i < ds.length
    · have e : (start0 N ds)[i]? = some (.va ds[i]) := by
        unfold start0
        rw [List.getElem?_append_left (by simpa using q)]; simp [q]
      rw [e] at h; cases h
      obtain ⟨x, e2, rx⟩ := r.get (i := i) (d := ds[i]) (by simp)
      refine ⟨x, ?_, rx⟩
      unfold L2.start
      rw [List.getElem?_append_left (by simp; omega)]
      simp [e2]
    · unfold start0 at h
      rw [List.getElem?_append_right (by simp; omega)] at h
      have := List.mem_of_getElem? h
      exact absurd (List.eq_of_mem_replicate this) hu
  · exfalso
    unfold start0 at h1
    by_cases q : i < (ds.map Sl.va).length
    · rw [List.getElem?_append_left q] at h1
      rw [List.getElem?_map] at h1
      cases z : ds[i]? with
      | none => rw [z] at h1; cases h1
      | some d => rw [z] at h1; cases h1; cases o1
    · rw [List.getElem?_append_right (by omega)] at h1
      have e3 := List.eq_of_mem_replicate (List.mem_of_getElem? h1)
      subst e3; cases o1

/-- THE RULE for a def that raises nothing -/
theorem fn_q {x qual : Str} {st : Stmt} {f : Addr} {fd : FuncData} {ps : List Str} {k : Nat} {F : Fn} (Fu : Fun K x qual st f fd) (Sc : FnScope N ps (defScope st)) (Vi : ∀ x ∈ N, Loc (defScope st) x) (ar : ∀ ds r, F ds r → ds.length = ps.length)
    (hok : ∀ ds r, F ds r → ∃ sl, r = .ok sl)
    (body : ∀ (c : Ctx P w K mg base k N (defScope st)), c.X.xe = (fun _ _ => False) → ∀ ds sl, F ds (.ok sl) → EvSs c (defBody st) (start0 N ds) (fun _ => sl = .va .non) { rt := fun r => r = sl }) :
    FnOk P w K mg base (CXE P w) (k + 1) f fd ps (spF K F) := by
  obtain ⟨oc, od, kV, doc, pm, an, cdv, ct, osl, rfl, lk, hcd⟩ := Fu.ex
  refine fn_of lk hcd Sc (fun vs H Q E ⟨Hf, ds, r, _, rs, hF, _⟩ => by rw [← rs.length]; exact ar _ _ hF) fun A outer s H vs Q E hr ⟨Hf, ds, r, sb, rs, hF, hq⟩ => ?_
  obtain ⟨sl, rfl⟩ := hok _ _ hF
  let X : Cx := (cxOf (CXE P w) P w K mg base N qual (defScope st) f cdv A outer s H E).nox
  let c : Ctx P w K mg base k N (defScope st) :=
    { X := X, eP := rfl, ew := rfl, eK := rfl, emg := rfl, eb := rfl, eN := rfl, esc := rfl, calm := rfl, top := ⟨rfl, rfl, rfl⟩, cb := fun _ _ _ _ I x c h => I.ok.cab x c rfl h, fn := fun _ => .inl rfl, room := hr, nd := Sc.nd, vis := Vi, Hf := Hf, RX := fun _ _ => False,
      exc := fun _ _ _ _ _ _ _ _ _ _ _ _ h _ _ => h.elim, RM := fun _ _ => False, mde := fun _ _ _ _ _ _ _ _ _ _ _ _ h _ => h.elim }
  refine ⟨_, PSs.nox (t := bSs X (defBody st)) (pbSs (X := X)), ?_⟩
  refine body c rfl ds sl hF (L2.start N vs) H Hf _ (st_start rs sb) ⟨fun σ H' Hf' ρ S e => ?_, fun r v H' Hf' g rv e => ?_, fun _ _ _ _ _ h => h.elim, fun _ _ _ _ _ h => h.elim⟩
  · subst e
    exact hq .non H' Hf' S.bas (show Rep K Hf' .non .non from rep_non.mpr rfl)
  · have e : r = sl := e
    subst e
    exact hq v H' Hf' g rv

/-! ## built-in functions -/
def CalD (K : PySem.W.Frag) (r : List V → Hp → VK → Prop) (p : List D → (Sl → Prop) → Prop) : Prop :=
  ∀ (ds : List D) (vs : List V) (H Hf : Hp) (Q : VK) (R : Sl → Prop), Same Hf H → Reps K Hf ds vs → p ds R → (∀ z v' H' Hf', R z → RepS K (fun p => H p = none) H' Hf' z v' → Grw H Hf H' Hf' → Q v' H') → r vs H Q
theorem x_blt {x : Str} {id : String} {p : Pos} {r : List V → Hp → VK → Prop} {q : List D → (Sl → Prop) → Prop} {R : Sl → Prop} (hc : CallR c.X (.builtin id) r) (hd : CalD c.X.K r q) (hm : mg x = none) (hv : bootBuiltins x = some (.builtin id))
    (ha : EvA c (e :: es) ρ fun ds => q ds R) (hg : sc.names.lookup x = some .globalImplicit := by with_unfolding_all rfl) (hn : x ≠ "__name__" := by decide) (hdb : (x == ("__debug__" : Str)) = false := by decide)
    (he : ∀ env, starEach (e :: es) env = (false, eval e env) :: starEach es env := by intro _; with_unfolding_all rfl) (hpl : ∀ env, (backTo pos (starEach es env)).any (·.1) = false := by intro _; with_unfolding_all rfl) : EvX c (.Call (.Name x p) (e :: es) [] pos) ρ R := fun σ H Hf Q S qq =>
  bE_of (pe_callB hc (by unfold Gl Env.kindOf; rw [c.esc]; exact hg) (by rw [c.emg]; exact hm) hv pbA hn hdb (he _) (hpl _))
    (ha σ H Hf _ S fun ds vs H1 Hf1 h1 rs g => hd ds vs H1 Hf1 Q R g.b rs h1 fun z v' H' Hf' hz rz g2 => qq z v' H' Hf' hz (rz.weak fun p hp => g.s.free hp) (g.trans g2))
theorem x_bty {x : Str} {id : String} {p : Pos} {r : List V → Hp → VK → Prop} {q : List D → (Sl → Prop) → Prop} {R : Sl → Prop} (hc : CallR c.X (.type id) r) (hd : CalD c.X.K r q) (hm : mg x = none) (hv : bootBuiltins x = some (.type id))
    (ha : EvA c (e :: es) ρ fun ds => q ds R) (hg : sc.names.lookup x = some .globalImplicit := by with_unfolding_all rfl) (hn : x ≠ "__name__" := by decide) (hdb : (x == ("__debug__" : Str)) = false := by decide)
    (he : ∀ env, starEach (e :: es) env = (false, eval e env) :: starEach es env := by intro _; with_unfolding_all rfl) (hpl : ∀ env, (backTo pos (starEach es env)).any (·.1) = false := by intro _; with_unfolding_all rfl) : EvX c (.Call (.Name x p) (e :: es) [] pos) ρ R := fun σ H Hf Q S qq =>
  bE_of (pe_callTy hc (by unfold Gl Env.kindOf; rw [c.esc]; exact hg) (by rw [c.emg]; exact hm) hv pbA hn hdb (he _) (hpl _))
    (ha σ H Hf _ S fun ds vs H1 Hf1 h1 rs g => hd ds vs H1 Hf1 Q R g.b rs h1 fun z v' H' Hf' hz rz g2 => qq z v' H' Hf' hz (rz.weak fun p hp => g.s.free hp) (g.trans g2))
theorem reps1 {K : PySem.W.Frag} {H : Hp} {d : D} {vs : List V} (h : Reps K H [d] vs) : ∃ v, vs = [v] ∧ Rep K H d v := by
  rw [reps_cons] at h
  obtain ⟨x, r, rfl, h1, h2⟩ := h
  rw [reps_nil] at h2; subst h2
  exact ⟨x, rfl, h1⟩
theorem reps2 {K : PySem.W.Frag} {H : Hp} {d d' : D} {vs : List V} (h : Reps K H [d, d'] vs) : ∃ v v', vs = [v, v'] ∧ Rep K H d v ∧ Rep K H d' v' := by
  rw [reps_cons] at h
  obtain ⟨x, r, rfl, h1, h2⟩ := h
  obtain ⟨y, rfl, h3⟩ := reps1 h2
  exact ⟨x, y, rfl, h1, h3⟩
/-- .. a frozen value out -/
def CalE (K : PySem.W.Frag) (r : List V → Hp → VK → Prop) (p : List D → (D → Prop) → Prop) : Prop :=
  ∀ (ds : List D) (vs : List V) (H Hf : Hp) (Q : VK) (R : D → Prop), Same Hf H → Reps K Hf ds vs → p ds R → (∀ d v H' Hf', R d → Rep K Hf' d v → Grw H Hf H' Hf' → Q v H') → r vs H Q
theorem e_blt {x : Str} {id : String} {p : Pos} {r : List V → Hp → VK → Prop} {q : List D → (D → Prop) → Prop} (hc : CallR c.X (.builtin id) r) (hd : CalE c.X.K r q) (hm : mg x = none) (hv : bootBuiltins x = some (.builtin id))
    (ha : EvA c (e :: es) ρ fun ds => q ds R) (hg : sc.names.lookup x = some .globalImplicit) (hn : x ≠ "__name__") (hdb : (x == ("__debug__" : Str)) = false)
    (he : ∀ env, starEach (e :: es) env = (false, eval e env) :: starEach es env) (hpl : ∀ env, (backTo pos (starEach es env)).any (·.1) = false) : EvE c (.Call (.Name x p) (e :: es) [] pos) ρ R := fun σ H Hf Q S qq =>
  bE_of (pe_callB hc (by unfold Gl Env.kindOf; rw [c.esc]; exact hg) (by rw [c.emg]; exact hm) hv pbA hn hdb (he _) (hpl _))
    (ha σ H Hf _ S fun ds vs H1 Hf1 h1 rs g => hd ds vs H1 Hf1 Q R g.b rs h1 fun z v' H' Hf' hz rz g2 => qq z v' H' Hf' hz rz (g.trans g2))
theorem e_bty {x : Str} {id : String} {p : Pos} {r : List V → Hp → VK → Prop} {q : List D → (D → Prop) → Prop} (hc : CallR c.X (.type id) r) (hd : CalE c.X.K r q) (hm : mg x = none) (hv : bootBuiltins x = some (.type id))
    (ha : EvA c (e :: es) ρ fun ds => q ds R) (hg : sc.names.lookup x = some .globalImplicit) (hn : x ≠ "__name__") (hdb : (x == ("__debug__" : Str)) = false)
    (he : ∀ env, starEach (e :: es) env = (false, eval e env) :: starEach es env) (hpl : ∀ env, (backTo pos (starEach es env)).any (·.1) = false) : EvE c (.Call (.Name x p) (e :: es) [] pos) ρ R := fun σ H Hf Q S qq =>
  bE_of (pe_callTy hc (by unfold Gl Env.kindOf; rw [c.esc]; exact hg) (by rw [c.emg]; exact hm) hv pbA hn hdb (he _) (hpl _))
    (ha σ H Hf _ S fun ds vs H1 Hf1 h1 rs g => hd ds vs H1 Hf1 Q R g.b rs h1 fun z v' H' Hf' hz rz g2 => qq z v' H' Hf' hz rz (g.trans g2))
/-- one int in, a plain value out -/
theorem calE_1 {K : PySem.W.Frag} {f : Int → D} {g : Int → V} (hf : ∀ i H, Rep K H (f i) (g i)) : CalE K (fun xs H Q => ∃ i, xs = [V.int i] ∧ Q (g i) H) (fun ds R => ∃ i, ds = [.int i] ∧ R (f i)) := by
  rintro ds vs H Hf Q R s rs ⟨i, rfl, hR⟩ q
  obtain ⟨v, rfl, rv⟩ := reps1 rs
  rw [rep_int] at rv; subst rv
  exact ⟨i, rfl, q _ _ H Hf hR (hf i Hf) (.refl s)⟩
theorem calE_2 {K : PySem.W.Frag} {f : Int → Int → D} {g : Int → Int → V} (hf : ∀ i j H, Rep K H (f i j) (g i j)) : CalE K (fun xs H Q => ∃ i j, xs = [V.int i, V.int j] ∧ Q (g i j) H) (fun ds R => ∃ i j, ds = [.int i, .int j] ∧ R (f i j)) := by
  rintro ds vs H Hf Q R s rs ⟨i, j, rfl, hR⟩ q
  obtain ⟨v, v', rfl, rv, rv'⟩ := reps2 rs
  rw [rep_int] at rv rv'; subst rv; subst rv'
  exact ⟨i, j, rfl, q _ _ H Hf hR (hf i j Hf) (.refl s)⟩
section
variable {p : Pos}
theorem e_abs (hm : mg (Str.ofString "abs") = none) (h : EvE c e ρ (I1 fun i => R (.int (if i < 0 then -i else i)))) (hg : sc.names.lookup (Str.ofString "abs") = some .globalImplicit := by with_unfolding_all rfl)
    (he : ∀ env, starEach [e] env = (false, eval e env) :: starEach [] env := by intro _; with_unfolding_all rfl) : EvE c (.Call (.Name (Str.ofString "abs") p) [e] [] pos) ρ R :=
  e_blt call_abs (calE_1 (f := fun i => .int (if i < 0 then -i else i)) fun i H => rep_int.mpr rfl) hm PyProof.Rows.boot_abs (a_cons (h.imp fun d ⟨i, e, r⟩ => a_nil ⟨i, by rw [e], r⟩) he) hg (by decide) (by decide) he (by intro _; rfl)
end
end
end EV

set_option Elab.async false
set_option linter.all false
set_option maxRecDepth 100000
namespace EV
open PySem PySem.Spec PySem.Calls PyProof.Rows L2

theorem obj_ex {P : Program} {w : World} {H : Hp} {h : Heap} {a : Addr} {o : HO} (x : ObjOk P w H h a o) : ∃ u, h.get? a = some u := by
  cases o with
  | lst xs => obtain ⟨_, _, _, _, e⟩ := x; exact ⟨_, e⟩
  | tup xs => obtain ⟨_, _, _, ob, e, _⟩ := x; exact ⟨_, e⟩
  | dK kvs => obtain ⟨_, _, _, _, o, _, _, e, _⟩ := x; exact ⟨_, e⟩
  | dT kvs => obtain ⟨_, _, _, _, o, _, _, e, _⟩ := x; exact ⟨_, e⟩
  | set S n => obtain ⟨o, _, _, _, e, _⟩ := x; exact ⟨_, e⟩
  | ins C dx fs => obtain ⟨_, _, _, e, _⟩ := x; exact ⟨_, e⟩
  | own y => exact x
  | xd fs => obtain ⟨_, ⟨_, _, _, e, _⟩, _⟩ := x; exact ⟨_, e⟩
  | rng lo hi => obtain ⟨_, _, _, e⟩ := x; exact ⟨_, e⟩
  | frz ob u => obtain ⟨e, _⟩ := x; exact ⟨_, e⟩
  | tbl ps => exact ⟨_, x⟩
  | met f y => exact ⟨_, x⟩
  | ext φ => exact x.2.1
/-! ## exceptions of classes of one's own: an exception leaves a def's frame -/
section
variable {P : Program} {w : World} {K : PySem.W.Frag} {mg : Str → Option Value} {base : Heap} {N : List Str} {qual : Str} {scope : Scope} {f : Addr} {cd : Value} {A : Around} {outer : List Env} {s : Shared} {H : Hp} {E : XK}
abbrev xOf (P : Program) (w : World) (K : PySem.W.Frag) (mg : Str → Option Value) (base : Heap) (N : List Str) (qual : Str) (scope : Scope) (f : Addr) (cd : Value) (A : Around) (outer : List Env) (s : Shared) (H : Hp) (E : XK) : Cx :=
  cxOf (CXE P w) P w K mg base N qual scope f cd A outer s H E

theorem frs_mem {env : Env} {l : List Env} {a : Addr} (he : env ∈ l) (hf : env.frame = some a) : a ∈ frs l := List.mem_filterMap.mpr ⟨env, he, hf⟩
/-- what stands at the entry and is no caller's frame is no running frame -/
theorem not_frame {pins : List (Addr × Obj)} {σ : L2.St} {H1 : Hp} {s1 : Shared} (I : Inv (xOf P w K mg base N qual scope f cd A outer s H E) pins σ H1 s1) {b : Addr} {o : Obj} (e : s.heap.get? b = some o) (hb : b ∉ frs outer) :
    b ∉ frs (envOfC qual scope s.heap.objs.size f cd :: outer) := fun m => by
  rcases List.mem_filterMap.mp m with ⟨env, he, hf⟩
  rcases List.mem_cons.mp he with rfl | he
  · have : b = s.heap.objs.size := (Option.some.inj hf).symm
    subst this
    exact absurd (Heap.lt_size e) (Nat.lt_irrefl _)
  · exact hb (frs_mem he hf)
theorem ObjOk.stayB {P : Program} {w : World} {H : Hp} {h h' : Heap} (hok : HOk P w H h) (k : ∀ b o, H b ≠ none → h.get? b = some o → h'.get? b = some o) : HOk P w H h' := fun a o e =>
  (hok a o e).stay (fun b u hb q => by
    rcases hb with rfl | hb
    · exact k _ _ (by rw [e]; simp) q
    · exact k _ _ (by rw [hb]; simp) q) (fun _ q => q) fun _ _ q => q

/-- the exception just made leaves the frame of the def that raises it -/
theorem made_leaves {pins : List (Addr × Obj)} {σ : L2.St} {H1 : Hp} {s1 : Shared} {h' : Heap} {a C : Addr} {us : List Value} (I : Inv (xOf P w K mg base N qual scope f cd A outer s H E) pins σ H1 s1)
    (hx : Heap.MadeExcOf s1.heap h' a (.ref C) us) (hE : E (.ref C) (some a) H1) : (xOf P w K mg base N qual scope f cd A outer s H E).xe (.ref a) { s1 with heap := h' } := by
  have hb0 : I.ok.mod = I.ok.mod := rfl
  let env : Env := envOfC qual scope s.heap.objs.size f cd
  have hst : (xOf P w K mg base N qual scope f cd A outer s H E).stack = env :: outer := rfl
  have FF : s1.heap.FunFrames base (env :: outer) := I.stack
  have hin : ∀ e ∈ (env :: outer), ∀ b, e.frame = some b → b ∈ frs (env :: outer) := fun e he b hb => frs_mem he hb
  let B : Heap := PySem.W.hideAll s1.heap (frs (env :: outer))
  have hkb : B.StaysIn s1.heap := fun b o q => PySem.W.of_hideAll _ q
  have inB : ∀ b o, s1.heap.get? b = some o → b ∉ frs (env :: outer) → B.get? b = some o := fun b o e hb => PySem.W.hideAll_get _ e hb
  show wpAny (model P w) (A.deeper env) (leaving env (.ref a)) (fun _ s'' => CXE P w outer H s E (.ref a) s'') (fun e' s'' => CXE P w outer H s E e' s'') { s1 with heap := h' }
  refine wpAny_leaves_madeW (base := B) (h := s1.heap) (outer := outer) (L := s.heap.objs.size) I.ok.frames rfl hkb (PySem.W.funFrames_hide FF hin) hx fun h2 t fl tup tn up => ?_
  have old : ∀ b o, s.heap.get? b = some o → ∃ o', s1.heap.get? b = some o' := fun b o e => I.base.there b o e (by intro z; cases z)
  have tr : ∀ b o, H1 b ≠ none → s1.heap.get? b = some o → B.get? b = some o := fun b o hn e => inB b o e fun m => hn (I.stkFree b m)
  refine ⟨a, C, H1, rfl, ⟨I.os, I.bare, ⟨fun b o e n hb hx' => ?_, fun b o e n hb hx' => ?_, fun b o e n hx' => I.base.free b o e n hx', fun b o e hx' => ?_, I.base.tups, I.base.frzs, I.base.tbls⟩, ?_, ?_, ?_, t, B, fl, fun b o e hb => ?_, fun b o hn e => ?_⟩, hE⟩
  · exact fl.1 b o (inB b o (I.base.keep b o e n hb hx') (not_frame I e hb))
  · obtain ⟨sl, e1⟩ := I.base.slot b o e n hb hx'
    have hm : b ∈ frs (env :: outer) := by
      obtain ⟨e', he, hf⟩ := List.mem_filterMap.mp hb
      exact frs_mem (List.mem_cons_of_mem _ he) hf
    obtain ⟨_, o3, e3, nf⟩ := FF.mem hm
    obtain ⟨sl2, e2⟩ := up b _ (hx.keeps b _ e1) (by rw [e1] at e3; cases e3; exact nf)
    exact ⟨sl2, e2⟩
  · obtain ⟨o', e1⟩ := old b o e
    by_cases hb : b ∈ frs (env :: outer)
    · obtain ⟨_, o3, e3, nf⟩ := FF.mem hb
      rw [e1] at e3; cases e3
      obtain ⟨sl2, e2⟩ := up b _ (hx.keeps b _ e1) nf
      exact ⟨_, e2⟩
    · exact ⟨o', fl.1 b o' (inB b o' e1 hb)⟩
  · exact ObjOk.stayB I.hok fun b o hn e => fl.1 b o (tr b o hn e)
  · cases q : s.heap.get? a with
    | none => rfl
    | some o => obtain ⟨o', e1⟩ := old a o q; rw [hx.new] at e1; cases e1
  · cases q : H1 a with
    | none => rfl
    | some o =>
      obtain ⟨o', e⟩ := obj_ex (I.hok a o q)
      rw [hx.new] at e; cases e
  · obtain ⟨o', e1⟩ := old b o e
    have e2 := inB b o' e1 (not_frame I e hb)
    exact ⟨o', fl.1 b o' e2, e2⟩
  · cases z : s1.heap.get? b with
    | none =>
      cases q : H1 b with
      | none => exact absurd q hn
      | some u =>
        obtain ⟨o', e'⟩ := obj_ex (I.hok b u q)
        rw [z] at e'; cases e'
    | some o' =>
      have e1 := tr b o' hn z
      have e2 := fl.1 b o' e1
      rw [e] at e2; cases e2
      exact e1
/-- an exception that a callee raised leaves the frame of a def that lets it pass -/
theorem pass_leaves {pins : List (Addr × Obj)} {σ : L2.St} {H1 H' : Hp} {s1 s' : Shared} {a C : Addr} (I : Inv (xOf P w K mg base N qual scope f cd A outer s H E) pins σ H1 s1)
    (X : ExcS P w (xOf P w K mg base N qual scope f cd A outer s H E).stack H1 s1 a C H' s') (hE : E (.ref C) (some a) H') : (xOf P w K mg base N qual scope f cd A outer s H E).xe (.ref a) s' := by
  let env : Env := envOfC qual scope s.heap.objs.size f cd
  obtain ⟨os, bare, un, hok, new, free, t, B, fl, cov, tr⟩ := X
  show wpAny (model P w) (A.deeper env) (leaving env (.ref a)) (fun _ s'' => CXE P w outer H s E (.ref a) s'') (fun e' s'' => CXE P w outer H s E e' s'') s'
  have FF : s'.heap.FunFrames B (env :: outer) := fl.2.2.1
  refine wpAny_leaves_onW (outer := outer) (L := s.heap.objs.size) I.ok.frames rfl fl fun h2 fl2 up => ?_
  have old : ∀ b o, s.heap.get? b = some o → ∃ o', s1.heap.get? b = some o' := fun b o e => I.base.there b o e (by intro z; cases z)
  refine ⟨a, C, H', rfl, ⟨os.trans I.os, bare, ⟨fun b o e n hb hx' => ?_, fun b o e n hb hx' => ?_, fun b o e n hx' => ?_, fun b o e hx' => ?_, fun b xs q => un.tups b xs (I.base.tups b xs q), fun b o u q => un.frzs b o u (I.base.frzs b o u q), fun b ps q => ?_⟩, ?_, ?_, free, t, B, fl2, fun b o e hb => ?_, fun b o hn e => ?_⟩, hE⟩
  · have e1 := I.base.keep b o e n hb hx'
    have nf := not_frame I e hb
    have e2 := un.keep b o e1 (I.base.free b o e n hx') nf (by intro z; cases z)
    obtain ⟨o', e3, e4⟩ := cov b o e1 nf
    rw [e2] at e3; cases e3
    exact fl2.1 b o e4
  · obtain ⟨sl, e1⟩ := I.base.slot b o e n hb hx'
    have hm : b ∈ frs (env :: outer) := by
      obtain ⟨e', he, hf⟩ := List.mem_filterMap.mp hb
      exact frs_mem (List.mem_cons_of_mem _ he) hf
    obtain ⟨sl1, e2⟩ := un.slot b _ e1 (I.base.free b o e n hx') hm (by intro z; cases z)
    obtain ⟨_, o3, e3, nf⟩ := FF.mem hm
    obtain ⟨sl2, e4⟩ := up b _ e2 (by rw [e2] at e3; cases e3; exact nf)
    exact ⟨sl2, e4⟩
  · obtain ⟨o', e1⟩ := old b o e
    exact un.free b o' e1 (I.base.free b o e n hx') (by intro z; cases z)
  · obtain ⟨o', e1⟩ := old b o e
    by_cases hb : b ∈ frs (env :: outer)
    · obtain ⟨o2, e2⟩ := un.there b o' e1 (by intro z; cases z)
      obtain ⟨_, o3, e3, nf⟩ := FF.mem hb
      rw [e2] at e3; cases e3
      obtain ⟨sl2, e4⟩ := up b _ e2 nf
      exact ⟨_, e4⟩
    · obtain ⟨o2, e2, e3⟩ := cov b o' e1 hb
      exact ⟨o2, fl2.1 b o2 e3⟩
  · obtain ⟨m1, e1⟩ := I.base.tbls b ps q
    obtain ⟨m2, e2⟩ := un.tbls b _ e1
    exact ⟨m1 ++ m2, by rw [e2, Array.append_assoc]⟩
  · exact ObjOk.stayB hok fun b o hn e => fl2.1 b o (tr b o hn e)
  · cases q : s.heap.get? a with
    | none => rfl
    | some o => obtain ⟨o', e1⟩ := old a o q; rw [new] at e1; cases e1
  · obtain ⟨o', e1⟩ := old b o e
    obtain ⟨o2, e2, e3⟩ := cov b o' e1 (not_frame I e hb)
    exact ⟨o2, fl2.1 b o2 e3, e3⟩
  · cases q : H' b with
    | none => exact absurd q hn
    | some u =>
      obtain ⟨o', e'⟩ := obj_ex (hok b u q)
      have e1 := tr b o' hn e'
      have e2 := fl2.1 b o' e1
      rw [e] at e2; cases e2
      exact e1

/-- THE RULE for a def that may raise exceptions of classes of one's own -/
theorem fn_x {x qual : Str} {st : Stmt} {f : Addr} {fd : FuncData} {ps : List Str} {k : Nat} {F : Fn} (Fu : Fun K x qual st f fd) (Sc : FnScope N ps (defScope st)) (Vi : ∀ x ∈ N, L2.Loc (defScope st) x) (ar : ∀ ds r, F ds r → ds.length = ps.length)
    (body : ∀ (c : Ctx P w K mg base k N (defScope st)) ds r, F ds r → (∀ C ρ, r = .ex C → c.RX C ρ) → (∀ C ρ, r = .ex C → c.RM C ρ) → EvSs c (defBody st) (start0 N ds) (fun _ => r = .ok (.va .non)) { rt := fun sl => r = .ok sl }) :
    FnOk P w K mg base (CXE P w) (k + 1) f fd ps (spF K F) := by
  obtain ⟨oc, od, kV, doc, pm, an, cdv, ct, osl, rfl, lk, hcd⟩ := Fu.ex
  refine fn_of lk hcd Sc (fun vs H Q E ⟨Hf, ds, r, _, rs, hF, _⟩ => by rw [← rs.length]; exact ar _ _ hF) fun A outer s H vs Q E hr ⟨Hf, ds, r, sb, rs, hF, hq⟩ => ?_
  let X : Cx := xOf P w K mg base N qual (defScope st) f cdv A outer s H E
  have hEx : ∀ (C a : Addr) (H' : Hp), r = .ex C → Same H H' → E (.ref C) (some a) H' := fun C a H' e sm => by
    subst e
    exact hq a H' sm
  let c : Ctx P w K mg base k N (defScope st) :=
    { X := X, eP := rfl, ew := rfl, eK := rfl, emg := rfl, eb := rfl, eN := rfl, esc := rfl, calm := rfl, top := ⟨rfl, rfl, rfl⟩, cb := fun _ _ _ _ I x c h => I.ok.cab x c rfl h, fn := fun _ => .inl rfl, room := hr, nd := Sc.nd, vis := Vi, Hf := Hf, RX := fun C _ => r = .ex C, RM := fun C _ => r = .ex C,
      exc := fun C a pins σ H1 Hf1 ρ s1 H' s' I S h X sm => pass_leaves I X (hEx C a H' h (S.bas.s.trans sm))
      mde := fun C a pins σ H1 Hf1 ρ s1 h' us I S h hx => made_leaves I hx (hEx C a H1 h S.bas.s) }
  refine ⟨_, pbSs (X := X), ?_⟩
  refine body c ds r hF (fun C _ h => h) (fun C _ h => h) (L2.start N vs) H Hf _ (st_start rs sb) ⟨fun σ H' Hf' ρ S e => ?_, fun sl v H' Hf' g rv e => ?_, fun _ _ _ _ _ h => h.elim, fun _ _ _ _ _ h => h.elim⟩
  · subst e
    exact hq .non H' Hf' S.bas (show Rep K Hf' .non .non from rep_non.mpr rfl)
  · have e : r = .ok sl := e
    subst e
    exact hq v H' Hf' g rv

/-! ## a part that raises nothing, in a def that may -/
def Ctx.nox {k : Nat} {sc : Scope} (c : Ctx P w K mg base k N sc) : Ctx P w K mg base k N sc :=
  { X := c.X.nox, eP := c.eP, ew := c.ew, eK := c.eK, emg := c.emg, eb := c.eb, eN := c.eN, esc := c.esc, calm := c.calm, top := c.top, cb := fun pins σ H s I => c.cb pins σ H s I.unwish, fn := c.fn, room := c.room, nd := c.nd, vis := c.vis, Hf := c.Hf, RX := fun _ _ => False, RM := fun _ _ => False,
    exc := fun _ _ _ _ _ _ _ _ _ _ _ _ h _ _ => h.elim, mde := fun _ _ _ _ _ _ _ _ _ _ _ _ h _ => h.elim }
theorem ss_nox {k : Nat} {sc : Scope} {c : Ctx P w K mg base k N sc} {sts : List Stmt} {ρ : List Sl} {nx : List Sl → Prop} {p : Pt} (h : ∀ c' : Ctx P w K mg base k N sc, c'.X.xe = (fun _ _ => False) → EvSs c' sts ρ nx p) : EvSs c sts ρ nx p := fun σ H Hf D S o pins s I =>
  PSs.nox (X := c.X) (pbSs (X := c.X.nox)) pins s σ H D I (h c.nox rfl σ H Hf D S ⟨o.nx, o.rt, o.bk, o.ct⟩)
end

/-! ## raise C(..), C a class of one's own beneath ValueError -/
def vErr : List Value := [.type "ValueError", .type "Exception", .type "BaseException", .type "object"]
section
variable {P : Program} {w : World} {K : PySem.W.Frag} {mg : Str → Option Value} {base : Heap} {k : Nat} {N : List Str} {sc : Scope} {c : Ctx P w K mg base k N sc} {ρ : List Sl} {nx : List Sl → Prop} {p : Pt} {pos np cpos : Pos} {e : Expr}
theorem exc_obj {h : Heap} {C : Addr} (X : K.In h) (q : PySem.W.excIn K C vErr "ValueError.__new__" = true) :
    ∃ bm N nm q bs hdct sn sub ab col dd k0 k1 k2 k3 k5 mN, h.get? C = some (excClassObj nm q C N bs bm hdct sn sub ab col dd k0 k1 k2 k3 k5 "ValueError.__new__") ∧ h.Ns N mN ∧ mN "__init__" = none ∧ OwnTail h vErr bm := by
  unfold PySem.W.excIn at q
  split at q
  · rename_i dd cd sl ho
    split at q
    · rename_i C' bm k0 k1 k2 k3 n k5 hm hs
      simp only [Bool.and_eq_true, beq_iff_eq, Bool.not_eq_true'] at q
      obtain ⟨⟨⟨⟨⟨rfl, rfl⟩, hdel⟩, ht⟩, hok⟩, hni⟩ := q
      obtain ⟨nm, bs, mro, ns, qn, hd, sn, sub, ab, col, del⟩ := cd
      dsimp only at hm hdel hok hni
      subst hm hdel
      have hsl : sl = #[k0, k1, k2, k3, some (.builtin "ValueError.__new__"), k5] := by
        obtain ⟨l⟩ := sl
        simp only at hs
        rw [hs]
      subst hsl
      exact ⟨bm, ns, nm, qn, bs, hd, sn, sub, ab, col, dd, k0, k1, k2, k3, k5, _, X _ _ ho, .of_isNs (PySem.W.isNs_of_in X hok), PySem.W.nsMap_none_of_in X hok hni, PySem.W.tail_of_in X ht⟩
    · cases q
  · cases q
theorem s_raise {x : Str} {C : Addr} (hm : mg x = some (.ref C)) (q : PySem.W.excIn K C vErr "ValueError.__new__" = true) (h : EvE c e ρ fun _ => c.RM C ρ)
    (hg : sc.names.lookup x = some .globalImplicit := by with_unfolding_all rfl) (hdb : (x == ("__debug__" : Str)) = false := by decide)
    (he : ∀ env, starEach [e] env = (false, eval e env) :: starEach [] env := by intro _; with_unfolding_all rfl) (hpl : ∀ env, (backTo cpos (starEach [e] env)).any (·.1) = false := by intro _; with_unfolding_all rfl) :
    EvS c (.Raise (some (.Call (.Name x np) [e] [] cpos)) none pos) ρ nx p := fun σ H Hf D S o pins s I => by
  have KX : K.In c.X.base := by
    have z : c.X.K.In c.X.base := I.ok.mod.kin
    rw [c.eK] at z
    exact z
  obtain ⟨tl, Nn, nm, qq, bs, hdct, sn, sub, ab, col, dd, k0, k1, k2, k3, k5, mN, hC, hN, hni, T⟩ := exc_obj KX q
  refine wpAny_Raise_call_subT (C := C) (nm := nm) (q := qq) (N := Nn) (bs := bs) (bm := tl) (hdct := hdct) (sn := sn) (sub := sub) (ab := ab) (col := col) (dd := dd) (k0 := k0) (k1 := k1) (k2 := k2) (k3 := k3) (k5 := k5)
    PySem.F.excBase_ValueError (mN := mN) (T.hasType PySem.F.excBase_ValueError.hasBase) (I.ok.hd c.calm) (hpl _) hni (ld_glob I (by unfold Gl Env.kindOf; rw [c.esc]; exact hg) (by rw [c.emg]; exact hm) ⟨rfl, ?_⟩ hdb)
  have hs := bA_of (pa_cons pbE pa_nil (he _)) (Q := fun vs H1 => ∃ Hf1, c.RM C ρ ∧ Grw H Hf H1 Hf1 ∧ vs.length = 1) (h σ H Hf _ S fun d v H' Hf' hR r g => ⟨Hf', hR, g, rfl⟩) cpos pins s I
  rw [he] at hs ⊢
  refine Calls.evalArgs_plain (thn hs fun us s2 ⟨vs, H2, I2, rv, Hf2, hR, g, hl⟩ => ?_)
  have hlen : us.length = 1 := by rw [← rv.length]; exact hl
  exact ⟨rfl, by rw [hlen]; decide, I2.bk _ _ hC, hN.keeps I2.bk, T.keeps I2.bk, fun h' a hx => c.mde C a pins σ H2 Hf2 ρ s2 h' us I2 (S.grw g) hR hx⟩
end
end EV

set_option Elab.async false
set_option linter.all false
set_option maxRecDepth 100000
namespace EV
open PySem PySem.Spec PySem.Calls PyProof.Rows L2
open PySem.W Builtin Builtin.ObjectAttr Builtin.Getset_descriptor

/-! ## isinstance of an exception of a class of one's own -/
structure ExK (K : PySem.W.Frag) (C : Addr) : Prop where
  ga : PySem.W.findIn K (.ref C) "__getattribute__" = some (some (.builtin "BaseException.__getattribute__"))
  hk : PySem.W.findIn K (.ref C) "__getattr__" = some none
  ca : PySem.W.findIn K (.ref C) "__class__" = some (some (.builtin "object.__class__"))
  gt : PySem.W.specialIn K (.builtin "object.__class__") "__get__" = some (some (.builtin "getset_descriptor.__get__"))
  tk : PySem.W.takesIn K (.builtin "object.__class__") = some true
  mo : PySem.W.mroIn K C (.type "object") = some true
  mb : PySem.W.mroIn K C (.type "BaseException") = some true

section
variable {prog : Program} {w : World} {A : Around} {E : Value → Shared → Prop} {s : Shared} {K : PySem.W.Frag} {x C : Addr} {R : Result → Shared → Prop}
theorem ex_type {M : Model} {h : Heap} (p : excP x C h) : Looks M h (typeOf (.ref x)) (.ref C) := by
  obtain ⟨o, ho, hc, _⟩ := p
  rw [← hc]
  exact (Looks.ld ho).andThen .now
theorem exc_class_get {tp : Value} (X : K.In s.heap) (L : Looks (model prog w) s.heap (typeOf (.ref x)) (.ref C)) (hm : PySem.W.mroIn K C (.type "object") = some true)
    (h : R (.ok (.ret (.ref C))) s) : codeAny (model prog w) A (.call (.builtin "getset_descriptor.__get__") ⟨[.builtin "object.__class__", .ref x, tp], []⟩) R s := by
  obtain ⟨hh, g, dr, t, os⟩ := s
  have L0 := L
  have L1 := looks_mroIn (M := model prog w) X hm
  refine codeAny_call_builtin KF.slot_gs.plain KF.entry_gs (KF.slot_gs.check _ _ _ _ _ _ _ _ KF.type_class (KF.args_gs _ _ _) ?_)
  unfold Builtin.«getset_descriptor.__get__» descrGet
  rw [dga_obj]
  refine wpAny_bind (wpAny_pure ?_)
  unfold descrGetter descrCheckInstance descrNameAndClass isInstance
  simp only [KF.owner_class]
  repeat lk
  refine ⟨Code.quiet_builtin _ (by decide +kernel), codeAny_builtin KF.entry_class ?_⟩
  unfold Builtin.«object.__class__» shownTypeOf
  repeat lk
  exact h
theorem exc_find {M : Model} {h : Heap} (X : K.In h) (k : ExK K C) : Looks M h (find (.ref x) (.ref C) "__class__") (.bind (.builtin "getset_descriptor.__get__") (.builtin "object.__class__")) := by
  have L1 := looks_findIn (M := M) X k.ca
  have L2 : Looks M h (getOf (some (.builtin "object.__class__"))) (some (.builtin "getset_descriptor.__get__")) := looks_specialIn X k.gt
  have L3 := looks_takesIn (M := M) X k.tk
  unfold find
  refine L1.andThen (L2.andThen ?_)
  refine Looks.andThen (a := some (.builtin "getset_descriptor.__get__", .builtin "object.__class__")) ?_ (Looks.tag .now)
  unfold dataDescriptor?
  exact L3.andThen .now
theorem exc_class {Q : Option Value → Shared → Prop} (X : K.In s.heap) (p : excP x C s.heap) (k : ExK K C) (h : Q (some (.ref C)) { s with toks := s.toks + 1 }) : wpAny (model prog w) A (getAttr? (.ref x) "__class__") Q E s := by
  obtain ⟨hh, g, d, t, os⟩ := s
  have L0 : Looks (model prog w) hh (typeOf (.ref x)) (.ref C) := ex_type p
  have L1 := looks_findIn (M := model prog w) X k.ga
  have L2 := looks_findIn (M := model prog w) X k.hk
  have L3 := looks_mroIn (M := model prog w) X k.mb
  have L4 := exc_find (M := model prog w) (x := x) X k
  unfold getAttr? getAttrBy? getAttrBy
  refine wpAny_bind (wpAny_mkText (wpAny_bind (wpAny_attempt (wpAny_holding (wpAny_bind (L0.at (wpAny_bind (L1.at ?_))))))))
  dsimp only
  have hx2 : (Value.builtin "BaseException.__getattribute__" == Value.builtin "object.__getattribute__") = false := by decide +kernel
  rw [hx2, Bool.and_false, if_neg Bool.false_ne_true]
  unfold getAttrByItsOwn hookBefore
  rw [if_pos (by rfl)]
  refine wpAny_bind (L2.at ?_)
  refine wpAny_bind (wpAny_attempt (wpAny_holding ?_))
  unfold callGetattribute
  rw [if_neg (by simp)]
  unfold boundAndCalled
  have f3 := PySem.F.attrBase_ValueError.ga.bind (.ref x)
  rw [f3]
  refine wpAny_bind (wpAny_pure ?_)
  refine wpAny_call (codeAny_call_builtin PySem.F.attrBase_ValueError.ga.plain PySem.F.entry_bexc_ga ?_)
  have hk : builtinKind "BaseException.__getattribute__" = some .slot := by decide +kernel
  have hsplit : splitId "BaseException.__getattribute__" = some ("BaseException", "__getattribute__") := by decide +kernel
  have ha := PySem.F.args_bexc_ga (.ref x) (Value.str (Str.ofString "__class__") t)
  simp only [checkBuiltinCall, hk, hsplit]
  dsimp only [List.cons_append, List.nil_append]
  have LI : Looks (model prog w) hh (isInstance (.ref x) (.type "BaseException")) true := L0.andThen L3
  refine wpAny_bind (LI.at ?_)
  rw [if_neg (by decide)]
  refine wpAny_mono (Q := fun _ s1 => s1 = ⟨hh, g, d, t + 1, os⟩) (E := fun _ _ => False) ?_ (fun _ s1 e1 => ?_) (fun _ _ z => z.elim)
  · repeat (any_goals (first | assumption | rfl | wp_step))
  subst e1
  unfold «object.__getattribute__»
  repeat (first | with_reducible refine wpAny_call ?_ | lk)
  refine exc_class_get X L0 k.mo ?_
  repeat lk
  exact h
theorem kitx_exc (k : ExK K C) : PySem.W.KitX K (.ref x) (.ref C) (excP x C) where
  ty := fun _ _ _ p => ex_type p
  it := fun _ _ X _ => by
    have hdct : ∃ cd, PySem.W.clsIn K C = some cd := by
      obtain ⟨cd, h1, _⟩ := Option.bind_eq_some_iff.mp (show (PySem.W.clsIn K C).bind _ = some true from k.mo)
      exact ⟨cd, h1⟩
    obtain ⟨cdD, hcD⟩ := hdct
    unfold PySem.W.clsIn at hcD
    split at hcD
    · rename_i c' d' cd' sl' ho
      intro A' Q' E' s' k q
      unfold isType loadHead
      exact wpAny_bind (wpAny_loadPart (k _ _ (X _ _ ho)) (wpAny_pure q))
    · cases hcD
  ne := fun h tp dd its n sl X htp => by
    obtain ⟨cdD, hcD, _⟩ := Option.bind_eq_some_iff.mp (show (PySem.W.clsIn K C).bind _ = some true from k.mo)
    refine Bool.eq_false_iff.mpr fun q => ?_
    have e : C = tp := Value.ref.inj (beq_iff_eq.mp q)
    subst e
    unfold PySem.W.clsIn at hcD
    split at hcD
    · rename_i c' d' cd' sl' ho
      have z := (X _ _ ho).symm.trans htp
      cases z
    · cases hcD
  ca := fun X p h => exc_class X p k h
end

/-- the type of a datum -/
inductive TyD (K : PySem.W.Frag) : D → Value → Prop where
  | non : TyD K .non (.type "NoneType")
  | bl {x : Bool} : TyD K (.bl x) (.type "bool")
  | int {i : Int} : TyD K (.int i) (.type "int")
  | str {x : Str} : TyD K (.str x) (.type "str")
  | lst {ds : List EV.D} : TyD K (.lst ds) (.type "list")
  | tup {ds : List EV.D} : TyD K (.tup ds) (.type "tuple")
  | exc {C : Addr} (k : ExK K C) : TyD K (.exc C) (.ref C)
section
variable {X : Cx} {pins : List (Addr × Obj)} {σ : L2.St} {H Hf : Hp} {s : Shared} {A : Around} {E : Value → Shared → Prop} {Q : Value → Shared → Prop} {cv t : Value} {b : Bool}
theorem isin_ok {d : EV.D} {v : V} {u : Value} (I : Inv X pins σ H s) (sb : Same Hf H) (rx : RelV v u) (rd : Rep X.K Hf d v) (ty : TyD X.K d t) (e : PySem.W.kitOne X.K t cv = some b) (h : ∀ tk, Q (.bool b) { s with toks := tk }) :
    wpAny (model X.prog X.w) A (call (.builtin "isinstance") [u, cv]) Q E s := by
  cases ty with
  | non => rw [rep_non] at rd; subst rd; cases (show u = Value.none from rx); exact PySem.W.kia_one PySem.W.kitx_none I.kIn True.intro e (fun z => nomatch z) h
  | bl => rw [rep_bl] at rd; subst rd; cases (show u = Value.bool _ from rx); exact PySem.W.kia_one PySem.W.kitx_bool I.kIn True.intro e (fun z => nomatch z) h
  | int => rw [rep_int] at rd; subst rd; obtain ⟨t, q⟩ := (show ∃ t, u = Value.int _ t from rx); cases q; exact PySem.W.kia_one PySem.W.kitx_int I.kIn True.intro e (fun z => nomatch z) h
  | str => rw [rep_str] at rd; subst rd; obtain ⟨t, q⟩ := (show ∃ t, u = Value.str _ t from rx); cases q; exact PySem.W.kia_one PySem.W.kitx_str I.kIn True.intro e (fun z => nomatch z) h
  | lst =>
    rw [rep_lst] at rd
    obtain ⟨a, xs, rfl, h1, _⟩ := rd
    cases (show u = Value.ref a from rx)
    obtain ⟨its, _, p, _⟩ := I.list (sb.seq h1)
    obtain ⟨o, n1, p1, p2, _⟩ := p
    exact PySem.W.kia_one PySem.W.kitx_list I.kIn ⟨o, p1, p2⟩ e (fun z => nomatch z) h
  | tup =>
    rw [rep_tup] at rd
    obtain ⟨a, xs, rfl, h1, _⟩ := rd
    cases (show u = Value.ref a from rx)
    obtain ⟨its, _, p, _⟩ := I.tuple (same_tup sb h1)
    obtain ⟨o, p1, p2, _⟩ := p
    exact PySem.W.kia_one PySem.W.kitx_tuple I.kIn ⟨o, p1, p2⟩ e (fun z => nomatch z) h
  | @exc C k =>
    rw [rep_exc] at rd
    obtain ⟨a, rfl, h1⟩ := rd
    cases (show u = Value.ref a from rx)
    have p : excP a C s.heap := (show ObjOk X.prog X.w H s.heap a (.ext (excP a C)) from I.hok a _ (sb _ _ h1)).1
    exact PySem.W.kia_one (kitx_exc k) I.kIn p e (fun z => nomatch z) h
end
section
variable {P : Program} {w : World} {K : PySem.W.Frag} {mg : Str → Option Value} {base : Heap} {k : Nat} {N : List Str} {sc : Scope} {c : Ctx P w K mg base k N sc} {ρ : List Sl} {pos np cp : Pos} {e : Expr} {R : EV.D → Prop}
/-- a class by its name: one of one's own, or a built-in type -/
def ClsName (mg : Str → Option Value) (x : Str) (cv : Value) : Prop := (∃ C, cv = .ref C ∧ mg x = some (.ref C)) ∨ (∃ T, cv = .type T ∧ mg x = none ∧ bootBuiltins x = some (.type T) ∧ x ≠ "__name__")
theorem boot_isin : bootBuiltins (Str.ofString "isinstance") = some (.builtin "isinstance") := by decide +kernel
theorem e_isin {x : Str} {cv : Value} (hm : mg (Str.ofString "isinstance") = none) (hc : ClsName mg x cv) (h : EvE c e ρ fun d => ∃ t b, TyD K d t ∧ PySem.W.kitOne K t cv = some b ∧ R (.bl b))
    (hgi : sc.names.lookup (Str.ofString "isinstance") = some .globalImplicit := by with_unfolding_all rfl) (hgx : sc.names.lookup x = some .globalImplicit := by with_unfolding_all rfl) (hdx : (x == ("__debug__" : Str)) = false := by decide)
    (he : ∀ env, starEach [e, .Name x cp] env = (false, eval e env) :: starEach [.Name x cp] env := by intro _; with_unfolding_all rfl) (he2 : ∀ env, starEach [.Name x cp] env = [(false, eval (.Name x cp) env)] := by intro _; with_unfolding_all rfl)
    (hpl : ∀ env, (backTo pos (starEach [.Name x cp] env)).any (·.1) = false := by intro _; with_unfolding_all rfl) : EvE c (.Call (.Name (Str.ofString "isinstance") np) [e, .Name x cp] [] pos) ρ R := fun σ H Hf Q S q pins s I => by
  refine wpAny_Call_Name_kw (ld_blt I (by unfold Gl Env.kindOf; rw [c.esc]; exact hgi) (by rw [c.emg]; exact hm) boot_isin ?_ (by decide) (by decide))
  -- the class is read behind the value
  have hx : ∀ (s1 : Shared) (H1 : Hp) (Q' : Value → Shared → Prop), Inv c.X pins σ H1 s1 → Q' cv s1 → wpAny (model c.X.prog c.X.w) c.X.A (eval (.Name x cp) c.X.env) Q' c.X.xe s1 := fun s1 H1 Q' I1 q' => by
    rcases hc with ⟨C, rfl, hm'⟩ | ⟨T, rfl, hm', hb, hn⟩
    · exact ld_glob I1 (by unfold Gl Env.kindOf; rw [c.esc]; exact hgx) (by rw [c.emg]; exact hm') q' hdx
    · exact ld_blt I1 (by unfold Gl Env.kindOf; rw [c.esc]; exact hgx) (by rw [c.emg]; exact hm') hb q' hn hdx
  refine PyProof.Rows.callWith_builtin1 (spliced_more (h σ H Hf (fun v H1 => ∃ d Hf1, (∃ t b, TyD K d t ∧ PySem.W.kitOne K t cv = some b ∧ R (.bl b)) ∧ Rep c.X.K Hf1 d v ∧ Grw H Hf H1 Hf1) S (fun d v H' Hf' hR r g => ⟨d, Hf', hR, r, g⟩) pins s I |> (thn · fun u s1 ⟨v, H1, I1, rv, d, Hf1, ⟨t, b, ty, ek, hR⟩, rd, g⟩ => ?_)) (he _)) (he _) (hpl _)
  refine spliced_more (hx s1 H1 _ I1 (spliced_none ?_)) (he2 _)
  refine isin_ok I1 g.b rv rd (by rw [c.eK]; exact ty) (by rw [c.eK]; exact ek) fun tk => ?_
  exact ⟨.bl b, H1, I1.tok tk, rfl, q _ _ H1 Hf1 hR (rep_bl.mpr rfl) g⟩
end
end EV

set_option Elab.async false
set_option linter.all false
set_option maxRecDepth 100000
namespace EV
open PySem PySem.Spec PySem.Calls PyProof.Rows L2

/-! ## == and != of data, to any depth -/
section
variable {X : Cx} {pins : List (Addr × Obj)} {σ : L2.St} {H Hf : Hp} {s : Shared}
theorem eqo_inj (I : Inv X pins σ H s) (sb : Same Hf H) : ∀ (n : Nat) (d e : D) (v : V), EqO n d e → Rep X.K Hf d v → Rep X.K Hf e v → d = e := by
  intro n
  induction n with
  | zero =>
    intro d e v h r1 r2
    cases h with
    | sc h => cases d <;> cases e <;> simp [scalD] at h <;> simp_all [Rep]
    | ln => rw [rep_non] at r2; subst r2; rw [rep_lst] at r1; obtain ⟨_, _, e, _⟩ := r1; cases e
    | nl => rw [rep_non] at r1; subst r1; rw [rep_lst] at r2; obtain ⟨_, _, e, _⟩ := r2; cases e
    | tn => rw [rep_non] at r2; subst r2; rw [rep_tup] at r1; obtain ⟨_, _, e, _⟩ := r1; cases e
    | nt => rw [rep_non] at r1; subst r1; rw [rep_tup] at r2; obtain ⟨_, _, e, _⟩ := r2; cases e
  | succ n ih =>
    have els : ∀ (ds es : List D) (xs : List V), (∀ (i : Nat) (d e : D), ds[i]? = some d → es[i]? = some e → EqO n d e) → Reps X.K Hf ds xs → Reps X.K Hf es xs → ds = es := fun ds es xs h q1 q2 => by
      apply List.ext_getElem?
      intro i
      cases a : ds[i]? with
      | none =>
        have : ds.length ≤ i := by simpa using a
        symm
        rw [List.getElem?_eq_none_iff, q2.length, ← q1.length]; exact this
      | some d =>
        obtain ⟨x, ex, rx⟩ := q1.get a
        obtain ⟨e, ee, re⟩ := q2.get' ex
        rw [ee, ih d e x (h i d e a ee) rx re]
    intro d e v h r1 r2
    cases h with
    | sc h => cases d <;> cases e <;> simp [scalD] at h <;> simp_all [Rep]
    | ln => rw [rep_non] at r2; subst r2; rw [rep_lst] at r1; obtain ⟨_, _, e, _⟩ := r1; cases e
    | nl => rw [rep_non] at r1; subst r1; rw [rep_lst] at r2; obtain ⟨_, _, e, _⟩ := r2; cases e
    | tn => rw [rep_non] at r2; subst r2; rw [rep_tup] at r1; obtain ⟨_, _, e, _⟩ := r1; cases e
    | nt => rw [rep_non] at r1; subst r1; rw [rep_tup] at r2; obtain ⟨_, _, e, _⟩ := r2; cases e
    | tup h =>
      rw [rep_tup] at r1 r2
      obtain ⟨a, xs, rfl, p1, q1⟩ := r1
      obtain ⟨a', ys, e', p2, q2⟩ := r2
      cases e'
      have := I.tuple_inj (same_tup sb p1) (same_tup sb p2)
      subst this
      rw [els _ _ _ h q1 q2]
    | lst h =>
      rw [rep_lst] at r1 r2
      obtain ⟨a, xs, rfl, p1, q1⟩ := r1
      obtain ⟨a', ys, e', p2, q2⟩ := r2
      cases e'
      have := I.list_inj (sb.seq p1) (sb.seq p2)
      subst this
      rw [els _ _ _ h q1 q2]
theorem dec_beq {α : Type} [BEq α] [LawfulBEq α] {a b : α} {i : Decidable (a = b)} : (a == b) = @decide (a = b) i := by
  by_cases h : a = b
  · subst h; simp
  · simp [h]
theorem all_range {ds es : List D} {n m : Nat} (hn : ds.length = n) (hm : es.length = m) (h : n = m) : ((List.range n).all fun j => decide (ds[j]? = es[j]?)) = decide (ds = es) := by
  rw [Bool.eq_iff_iff, List.all_eq_true]
  simp only [List.mem_range, decide_eq_true_eq]
  constructor
  · intro q
    apply List.ext_getElem?
    intro i
    by_cases hi : i < n
    · exact q i hi
    · rw [List.getElem?_eq_none (by omega), List.getElem?_eq_none (by omega)]
  · rintro rfl; intro _ _; rfl
theorem eqAt_sc {x y : D} {v v' : V} {u u' : Value} {A : Around} (h : scalD x y = true) (r1 : Rep X.K Hf x v) (r2 : Rep X.K Hf y v') (e1 : RelV v u) (e2 : RelV v' u') : SeqAt.EqAt A s u u' (decide (x = y)) := by
  cases x <;> cases y <;> simp [scalD] at h <;> simp only [rep_int, rep_bl, rep_non, rep_str] at r1 r2 <;> subst r1 <;> subst r2
  case non.non => cases e1; cases e2; simpa using SeqAt.EqAt.same _
  case non.bl b => cases e1; cases e2; simpa using SeqAt.EqAt.none_bool (A := A) (s := s) b
  case non.int i => cases e1; obtain ⟨t, rfl⟩ := e2; simpa using SeqAt.EqAt.none_int (A := A) (s := s) i t
  case non.str i => cases e1; obtain ⟨t, rfl⟩ := e2; simpa using SeqAt.EqAt.none_str (A := A) (s := s) i t
  case bl.non b => cases e1; cases e2; simpa using SeqAt.EqAt.bool_none (A := A) (s := s) b
  case bl.bl a b => cases e1; cases e2; have q := SeqAt.EqAt.bool_bool (A := A) (s := s) a b; rw [dec_beq (i := inferInstance)] at q; simpa using q
  case bl.str a b => cases e1; obtain ⟨t, rfl⟩ := e2; simpa using SeqAt.EqAt.bool_str (A := A) (s := s) a b t
  case int.non a => obtain ⟨t, rfl⟩ := e1; cases e2; simpa using SeqAt.EqAt.int_none (A := A) (s := s) a t
  case int.int a b => obtain ⟨t, rfl⟩ := e1; obtain ⟨t', rfl⟩ := e2; have q := SeqAt.EqAt.int_int (A := A) (s := s) a t b t'; rw [dec_beq (i := inferInstance)] at q; simpa using q
  case int.str a b => obtain ⟨t, rfl⟩ := e1; obtain ⟨t', rfl⟩ := e2; simpa using SeqAt.EqAt.int_str (A := A) (s := s) a t b t'
  case str.non a => obtain ⟨t, rfl⟩ := e1; cases e2; simpa using SeqAt.EqAt.str_none (A := A) (s := s) a t
  case str.bl a b => obtain ⟨t, rfl⟩ := e1; cases e2; simpa using SeqAt.EqAt.str_bool (A := A) (s := s) a t b
  case str.int a b => obtain ⟨t, rfl⟩ := e1; obtain ⟨t', rfl⟩ := e2; simpa using SeqAt.EqAt.str_int (A := A) (s := s) a t b t'
  case str.str a b => obtain ⟨t, rfl⟩ := e1; obtain ⟨t', rfl⟩ := e2; have q := SeqAt.EqAt.str_str (A := A) (s := s) a t b t'; rw [dec_beq (i := inferInstance)] at q; simpa using q
theorem in1_units (A : Around) : A.in1.units = A.units + 1 := rfl
theorem dec_tup {ds es : List D} : decide (D.tup ds = D.tup es) = decide (ds = es) := by simp
theorem dec_lst {ds es : List D} : decide (D.lst ds = D.lst es) = decide (ds = es) := by simp
/-- the items' answers -/
theorem els_at (I : Inv X pins σ H s) {n : Nat} {A : Around} {ds es : List D} {xs ys : List V} {us ws : List Value} (h : ∀ (i : Nat) (d e : D), ds[i]? = some d → es[i]? = some e → EqO n d e)
    (ih : ∀ (d e : D) (v v' : V) (u u' : Value) (A : Around), EqO n d e → Rep X.K Hf d v → Rep X.K Hf e v' → RelV v u → RelV v' u' → A.units + n < cLine → SeqAt.EqAt A s u u' (decide (d = e)))
    (q1 : Reps X.K Hf ds xs) (q2 : Reps X.K Hf es ys) (r1 : Vals xs us) (r2 : Vals ys ws) (hu : A.in1.units + n < cLine) :
    ∀ j (h1 : j < us.toArray.size) (h2 : j < ws.toArray.size), SeqAt.EqAt A.in1 s us.toArray[j] ws.toArray[j] (decide (ds[j]? = es[j]?)) := fun j h1 h2 => by
  have l1 := q1.length
  have l2 := q2.length
  have m1 := r1.length
  have m2 := r2.length
  simp only [List.size_toArray] at h1 h2
  have hd : ds[j]? = some ds[j] := List.getElem?_eq_getElem (by omega)
  have he : es[j]? = some es[j] := List.getElem?_eq_getElem (by omega)
  obtain ⟨x, ex, rx⟩ := q1.get hd
  obtain ⟨y, ey, ry⟩ := q2.get he
  obtain ⟨u, eu, ru⟩ := r1.get ex
  obtain ⟨u', eu', ru'⟩ := r2.get ey
  have z1 : us.toArray[j] = u := by
    have := List.getElem?_eq_getElem h1
    rw [this] at eu
    simpa using eu
  have z2 : ws.toArray[j] = u' := by
    have := List.getElem?_eq_getElem h2
    rw [this] at eu'
    simpa using eu'
  rw [z1, z2, hd, he]
  have q := ih _ _ x y u u' A.in1 (h j _ _ hd he) rx ry ru ru' hu
  simpa using q
theorem eqAt_deep (I : Inv X pins σ H s) (sb : Same Hf H) : ∀ (n : Nat) (d e : D) (v v' : V) (u u' : Value) (A : Around), EqO n d e → Rep X.K Hf d v → Rep X.K Hf e v' → RelV v u → RelV v' u' → A.units + n < cLine → SeqAt.EqAt A s u u' (decide (d = e)) := by
  have non : ∀ (n : Nat) (d e : D) (v v' : V) (u u' : Value) (A : Around), A.units < cLine → Rep X.K Hf d v → Rep X.K Hf e v' → RelV v u → RelV v' u' →
      ((∃ ds, d = .lst ds ∧ e = .non) ∨ (∃ ds, d = .non ∧ e = .lst ds) ∨ (∃ ds, d = .tup ds ∧ e = .non) ∨ (∃ ds, d = .non ∧ e = .tup ds)) → SeqAt.EqAt A s u u' (decide (d = e)) := by
    intro n d e v v' u u' A hu r1 r2 e1 e2 h
    rcases h with ⟨ds, rfl, rfl⟩ | ⟨ds, rfl, rfl⟩ | ⟨ds, rfl, rfl⟩ | ⟨ds, rfl, rfl⟩
    · rw [rep_non] at r2; subst r2; rw [rep_lst] at r1; obtain ⟨a, xs, rfl, p, _⟩ := r1; cases e1; cases e2
      obtain ⟨its, _, q, _⟩ := I.list (sb.seq p)
      simpa using SeqAt.EqAt.list_none (A := A) q.isList hu
    · rw [rep_non] at r1; subst r1; rw [rep_lst] at r2; obtain ⟨a, xs, rfl, p, _⟩ := r2; cases e1; cases e2
      obtain ⟨its, _, q, _⟩ := I.list (sb.seq p)
      simpa using SeqAt.EqAt.none_list (A := A) q.isList hu
    · rw [rep_non] at r2; subst r2; rw [rep_tup] at r1; obtain ⟨a, xs, rfl, p, _⟩ := r1; cases e1; cases e2
      obtain ⟨its, _, q, _⟩ := I.tuple (same_tup sb p)
      simpa using SeqAt.EqAt.tuple_none (A := A) (show s.heap.IsTuple a its.toArray from q) hu
    · rw [rep_non] at r1; subst r1; rw [rep_tup] at r2; obtain ⟨a, xs, rfl, p, _⟩ := r2; cases e1; cases e2
      obtain ⟨its, _, q, _⟩ := I.tuple (same_tup sb p)
      simpa using SeqAt.EqAt.none_tuple (A := A) (show s.heap.IsTuple a its.toArray from q) hu
  intro n
  induction n with
  | zero =>
    intro d e v v' u u' A h r1 r2 e1 e2 hu
    cases h with
    | sc h => exact eqAt_sc h r1 r2 e1 e2
    | ln => exact non 0 _ _ _ _ _ _ A (by omega) r1 r2 e1 e2 (.inl ⟨_, rfl, rfl⟩)
    | nl => exact non 0 _ _ _ _ _ _ A (by omega) r1 r2 e1 e2 (.inr (.inl ⟨_, rfl, rfl⟩))
    | tn => exact non 0 _ _ _ _ _ _ A (by omega) r1 r2 e1 e2 (.inr (.inr (.inl ⟨_, rfl, rfl⟩)))
    | nt => exact non 0 _ _ _ _ _ _ A (by omega) r1 r2 e1 e2 (.inr (.inr (.inr ⟨_, rfl, rfl⟩)))
  | succ n ih =>
    intro d e v v' u u' A h r1 r2 e1 e2 hu
    cases h with
    | sc h => exact eqAt_sc h r1 r2 e1 e2
    | ln => exact non 0 _ _ _ _ _ _ A (by omega) r1 r2 e1 e2 (.inl ⟨_, rfl, rfl⟩)
    | nl => exact non 0 _ _ _ _ _ _ A (by omega) r1 r2 e1 e2 (.inr (.inl ⟨_, rfl, rfl⟩))
    | tn => exact non 0 _ _ _ _ _ _ A (by omega) r1 r2 e1 e2 (.inr (.inr (.inl ⟨_, rfl, rfl⟩)))
    | nt => exact non 0 _ _ _ _ _ _ A (by omega) r1 r2 e1 e2 (.inr (.inr (.inr ⟨_, rfl, rfl⟩)))
    | @tup _ ds es h =>
      have hh := EqO.tup h
      have r1' := r1; have r2' := r2
      rw [rep_tup] at r1 r2
      obtain ⟨a, xs, rfl, p1, q1⟩ := r1
      obtain ⟨b, ys, rfl, p2, q2⟩ := r2
      cases e1; cases e2
      by_cases hab : a = b
      · subst hab
        have := eqo_inj I sb _ _ _ _ hh r1' r2'
        rw [this]
        simpa using SeqAt.EqAt.same _
      · obtain ⟨us, v1, t1, _⟩ := I.tuple (same_tup sb p1)
        obtain ⟨ws, v2, t2, _⟩ := I.tuple (same_tup sb p2)
        have key := SeqAt.RcAt.tuples (A := A) (s := s) (show s.heap.IsTuple a us.toArray from t1) (show s.heap.IsTuple b ws.toArray from t2) (by omega) (els_at I h ih q1 q2 v1 v2 (by rw [in1_units]; omega))
        have hl1 : us.toArray.size = ds.length := by simp [← v1.length, q1.length]
        have hl2 : ws.toArray.size = es.length := by simp [← v2.length, q2.length]
        have e : ((List.range (min us.toArray.size ws.toArray.size)).all (fun j => decide (ds[j]? = es[j]?)) && us.toArray.size == ws.toArray.size) = decide (D.tup ds = D.tup es) := by
          rw [dec_tup, hl1, hl2]
          by_cases hl : ds.length = es.length
          · rw [hl, Nat.min_self]
            simp only [beq_self_eq_true, Bool.and_true]
            exact all_range hl rfl rfl
          · have : ¬ ds = es := fun z => hl (by rw [z])
            simp [hl, this]
        rw [e] at key
        exact .of_refs hab key
    | @lst _ ds es h =>
      have hh := EqO.lst h
      have r1' := r1; have r2' := r2
      rw [rep_lst] at r1 r2
      obtain ⟨a, xs, rfl, p1, q1⟩ := r1
      obtain ⟨b, ys, rfl, p2, q2⟩ := r2
      cases e1; cases e2
      by_cases hab : a = b
      · subst hab
        have := eqo_inj I sb _ _ _ _ hh r1' r2'
        rw [this]
        simpa using SeqAt.EqAt.same _
      · obtain ⟨us, v1, t1, _⟩ := I.list (sb.seq p1)
        obtain ⟨ws, v2, t2, _⟩ := I.list (sb.seq p2)
        have hl1 : us.toArray.size = ds.length := by simp [← v1.length, q1.length]
        have hl2 : ws.toArray.size = es.length := by simp [← v2.length, q2.length]
        by_cases hl : ds.length = es.length
        · have key := SeqAt.RcAt.lists (A := A) (s := s) t1.isList t2.isList (by rw [hl1, hl2, hl]) (by omega) (els_at I h ih q1 q2 v1 v2 (by rw [in1_units]; omega))
          rw [hl1, all_range rfl hl.symm rfl, ← dec_lst] at key
          exact .of_refs hab key
        · have key := SeqAt.RcAt.lists_lengths (A := A) (s := s) t1.isList t2.isList (by rw [hl1, hl2]; simpa using hl) (by omega)
          have e : decide (D.lst ds = D.lst es) = false := by
            rw [dec_lst]; exact decide_eq_false fun z => hl (by rw [z])
          rw [e]
          exact .of_refs hab key
/-- == of lists, of tuples, as it stands in the text -/
theorem rcAt_seq (I : Inv X pins σ H s) (sb : Same Hf H) {A : Around} (hu : A.units + 50 < cLine) {ds es : List D} {d e : D} (hk : (d = .tup ds ∧ e = .tup es) ∨ (d = .lst ds ∧ e = .lst es)) (h : EqIt ds es) {v v' : V} {u u' : Value}
    (r1 : Rep X.K Hf d v) (r2 : Rep X.K Hf e v') (e1 : RelV v u) (e2 : RelV v' u') : SeqAt.RcAt A s u u' (decide (d = e)) ∧ SeqAt.RcNeAt A s u u' (!decide (d = e)) := by
  have ih := eqAt_deep I sb 40
  rcases hk with ⟨rfl, rfl⟩ | ⟨rfl, rfl⟩
  · rw [rep_tup] at r1 r2
    obtain ⟨a, xs, rfl, p1, q1⟩ := r1
    obtain ⟨b, ys, rfl, p2, q2⟩ := r2
    cases e1; cases e2
    obtain ⟨us, v1, t1, _⟩ := I.tuple (same_tup sb p1)
    obtain ⟨ws, v2, t2, _⟩ := I.tuple (same_tup sb p2)
    have els := els_at (A := A) I h ih q1 q2 v1 v2 (by rw [in1_units]; omega)
    have key := SeqAt.RcAt.tuples (A := A) (s := s) (show s.heap.IsTuple a us.toArray from t1) (show s.heap.IsTuple b ws.toArray from t2) (by omega) els
    have key2 := SeqAt.RcNeAt.tuples (A := A) (s := s) (show s.heap.IsTuple a us.toArray from t1) (show s.heap.IsTuple b ws.toArray from t2) (by omega) els
    have hl1 : us.toArray.size = ds.length := by simp [← v1.length, q1.length]
    have hl2 : ws.toArray.size = es.length := by simp [← v2.length, q2.length]
    have e : ((List.range (min us.toArray.size ws.toArray.size)).all (fun j => decide (ds[j]? = es[j]?)) && us.toArray.size == ws.toArray.size) = decide (D.tup ds = D.tup es) := by
      rw [dec_tup, hl1, hl2]
      by_cases hl : ds.length = es.length
      · rw [hl, Nat.min_self]
        simp only [beq_self_eq_true, Bool.and_true]
        exact all_range hl rfl rfl
      · have : ¬ ds = es := fun z => hl (by rw [z])
        simp [hl, this]
    rw [e] at key key2
    exact ⟨key, key2⟩
  · rw [rep_lst] at r1 r2
    obtain ⟨a, xs, rfl, p1, q1⟩ := r1
    obtain ⟨b, ys, rfl, p2, q2⟩ := r2
    cases e1; cases e2
    obtain ⟨us, v1, t1, _⟩ := I.list (sb.seq p1)
    obtain ⟨ws, v2, t2, _⟩ := I.list (sb.seq p2)
    have hl1 : us.toArray.size = ds.length := by simp [← v1.length, q1.length]
    have hl2 : ws.toArray.size = es.length := by simp [← v2.length, q2.length]
    by_cases hl : ds.length = es.length
    · have els := els_at (A := A) I h ih q1 q2 v1 v2 (by rw [in1_units]; omega)
      have key := SeqAt.RcAt.lists (A := A) (s := s) t1.isList t2.isList (by rw [hl1, hl2, hl]) (by omega) els
      have key2 := SeqAt.RcNeAt.lists (A := A) (s := s) t1.isList t2.isList (by rw [hl1, hl2, hl]) (by omega) els
      rw [hl1, all_range rfl hl.symm rfl, ← dec_lst] at key key2
      exact ⟨key, key2⟩
    · have key := SeqAt.RcAt.lists_lengths (A := A) (s := s) t1.isList t2.isList (by rw [hl1, hl2]; simpa using hl) (by omega)
      have key2 := SeqAt.RcNeAt.lists_lengths (A := A) (s := s) t1.isList t2.isList (by rw [hl1, hl2]; simpa using hl) (by omega)
      have e : decide (D.lst ds = D.lst es) = false := by
        rw [dec_lst]; exact decide_eq_false fun z => hl (by rw [z])
      rw [e]
      exact ⟨key, key2⟩
end
section
variable {P : Program} {w : World} {K : PySem.W.Frag} {mg : Str → Option Value} {base : Heap} {k : Nat} {N : List Str} {sc : Scope} {c : Ctx P w K mg base k N sc} {ρ : List Sl} {pos : Pos} {a b : Expr} {R : D → Prop} {T : Bool → Prop}
/-- == and !=, as the layer reads them: of data -/
def rEqD (K : PySem.W.Frag) (neg : Bool) : R2 := fun v u H Q => ∃ x y Hf, Same Hf H ∧ Rep K Hf x v ∧ Rep K Hf y u ∧ EqOk x y ∧ Q (.bl (if neg then !decide (x = y) else decide (x = y))) H
theorem op_eqD : OpR c.X (compareOp .Eq) (rEqD c.X.K false) := fun pins s σ H v u v' u' Q I rv ru ⟨x, y, Hf, sb, rx, ry, ok, q⟩ => by
  rcases ok with h | ⟨ds, es, hk, hi⟩
  · obtain ⟨z1, z2⟩ := scal_of h rx ry
    exact op_eq pins s σ H v u v' u' Q I rv ru ⟨z1, by rw [z2]; exact q⟩
  · exact (rcAt_seq I sb (by have := c.room.un; omega) hk hi rx ry rv ru).1 _ _ _ _ ⟨.bl (decide (x = y)), H, I, rfl, q⟩
theorem op_neD : OpR c.X (compareOp .NotEq) (rEqD c.X.K true) := fun pins s σ H v u v' u' Q I rv ru ⟨x, y, Hf, sb, rx, ry, ok, q⟩ => by
  rcases ok with h | ⟨ds, es, hk, hi⟩
  · obtain ⟨z1, z2⟩ := scal_of h rx ry
    exact op_ne pins s σ H v u v' u' Q I rv ru ⟨z1, by rw [z2]; exact q⟩
  · exact (rcAt_seq I sb (by have := c.room.un; omega) hk hi rx ry rv ru).2 _ _ _ _ ⟨.bl (!decide (x = y)), H, I, rfl, q⟩
theorem cmp_eq {K : PySem.W.Frag} : CmpD K (rEqD K false) fun x y R => EqP x y R := fun x y v u H Hf Q R s rx ry ⟨h1, h2⟩ q => ⟨x, y, Hf, s, rx, ry, h1, q _ h2⟩
theorem cmp_ne {K : PySem.W.Frag} : CmpD K (rEqD K true) fun x y R => EqP x y fun b => R (!b) := fun x y v u H Hf Q R s rx ry ⟨h1, h2⟩ q => ⟨x, y, Hf, s, rx, ry, h1, q _ h2⟩
theorem t_eq (h : EvE c a ρ fun x => EvE c b ρ fun y => EqP x y T) : EvT c (.Compare a [.Eq] [b] pos) ρ T := t_cmp op_eqD cmp_eq h (nomark b)
theorem t_ne (h : EvE c a ρ fun x => EvE c b ρ fun y => EqP x y fun b => T (!b)) : EvT c (.Compare a [.NotEq] [b] pos) ρ T := t_cmp op_neD cmp_ne h (nomark b)
theorem e_eq (h : EvE c a ρ fun x => EvE c b ρ fun y => EqP x y fun b => R (.bl b)) : EvE c (.Compare a [.Eq] [b] pos) ρ R := e_cmp op_eqD cmp_eq h (nomark b)
theorem e_ne (h : EvE c a ρ fun x => EvE c b ρ fun y => EqP x y fun b => R (.bl (!b))) : EvE c (.Compare a [.NotEq] [b] pos) ρ R := e_cmp op_neD cmp_ne h (nomark b)
end
end EV

set_option Elab.async false
set_option linter.all false
set_option maxRecDepth 100000
namespace EV
open PySem PySem.Spec PySem.Calls PyProof.Rows L2
section
variable {P : Program} {w : World} {K : PySem.W.Frag} {mg : Str → Option Value} {base : Heap} {k : Nat} {N : List Str} {sc : Scope} {c : Ctx P w K mg base k N sc} {ρ : List Sl} {pos : Pos} {a b e : Expr} {es : List Expr} {R : D → Prop} {T : Bool → Prop}

/-! ## is None -/
theorem rep_is_non {K : PySem.W.Frag} {H : Hp} : ∀ {d : D} {v : V}, Rep K H d v → decide (v = .non) = decide (d = .non)
  | .non, _, h => by rw [rep_non] at h; subst h; simp
  | .bl _, _, h => by rw [rep_bl] at h; subst h; simp
  | .int _, _, h => by rw [rep_int] at h; subst h; simp
  | .str _, _, h => by rw [rep_str] at h; subst h; simp
  | .tup _, _, h => by rw [rep_tup] at h; obtain ⟨_, _, rfl, _⟩ := h; simp
  | .lst _, _, h => by rw [rep_lst] at h; obtain ⟨_, _, rfl, _⟩ := h; simp
  | .exc _, _, h => by rw [rep_exc] at h; obtain ⟨_, rfl, _⟩ := h; simp
def IsN (x : D) (T : Bool → Prop) : Prop := T (decide (x = .non))
theorem isn_t {T : Bool → Prop} (h : T true) : IsN .non T := by unfold IsN; simpa using h
theorem isn_f {x : D} {T : Bool → Prop} (hx : x ≠ .non) (h : T false) : IsN x T := by unfold IsN; rw [decide_eq_false hx]; exact h
theorem e_isN {j : Nat} {p2 : Pos} (h : EvE c a ρ fun x => IsN x fun b => R (.bl b)) : EvE c (.Compare a [.Is] [.Constant .none j p2] pos) ρ R := fun σ H Hf Q S q =>
  bE_of (pe_cmp (pc_isN pbE)) (h σ H Hf _ S fun x v H' Hf' hx r g => by
    have e := rep_is_non r
    rw [e]
    exact q _ _ H' Hf' hx (rep_bl.mpr rfl) g)
theorem e_notN {j : Nat} {p2 : Pos} (h : EvE c a ρ fun x => IsN x fun b => R (.bl (!b))) : EvE c (.Compare a [.IsNot] [.Constant .none j p2] pos) ρ R := fun σ H Hf Q S q =>
  bE_of (pe_cmp (pc_notN pbE)) (h σ H Hf _ S fun x v H' Hf' hx r g => by
    have e := rep_is_non r
    rw [e]
    exact q _ _ H' Hf' hx (rep_bl.mpr rfl) g)
theorem t_isN {j : Nat} {p2 : Pos} (h : EvE c a ρ fun x => IsN x T) : EvT c (.Compare a [.Is] [.Constant .none j p2] pos) ρ T := fun σ H Hf Q S q =>
  bT_of (pt_cmp (pc_isN pbE)) (h σ H Hf _ S fun x v H' Hf' hx r g => by
    have e := rep_is_non r
    exact ⟨_, rfl, by rw [e]; exact q _ H' Hf' hx g⟩)
theorem t_notN {j : Nat} {p2 : Pos} (h : EvE c a ρ fun x => IsN x fun b => T (!b)) : EvT c (.Compare a [.IsNot] [.Constant .none j p2] pos) ρ T := fun σ H Hf Q S q =>
  bT_of (pt_cmp (pc_notN pbE)) (h σ H Hf _ S fun x v H' Hf' hx r g => by
    have e := rep_is_non r
    exact ⟨_, rfl, by rw [e]; exact q _ H' Hf' hx g⟩)

/-! ## rows: index, length, slices, + -/
/-- a list read -/
theorem rd_list {pins : List (Addr × Obj)} {σ : L2.St} {H Hf : Hp} {s : Shared} {X : Cx} (I : Inv X pins σ H s) (sb : Same Hf H) {a : Addr} {xs : List V} (h : SqL X.K Hf a xs) : ∃ its : List Value, Vals xs its ∧ PlainL s.heap a its.toArray ∧ xs.length ≤ sizeLine := I.list (sb.seq h)
theorem len_le {pins : List (Addr × Obj)} {σ : L2.St} {H Hf : Hp} {s : Shared} {X : Cx} (I : Inv X pins σ H s) (sb : Same Hf H) {ds : List D} {v : V} (h : Rep X.K Hf (.lst ds) v ∨ Rep X.K Hf (.tup ds) v) : ds.length ≤ sizeLine := by
  rcases h with h | h
  · rw [rep_lst] at h
    obtain ⟨a, xs, rfl, h1, h2⟩ := h
    obtain ⟨_, _, _, hz⟩ := I.list (sb.seq h1)
    rw [h2.length]; exact hz
  · rw [rep_tup] at h
    obtain ⟨a, xs, rfl, h1, h2⟩ := h
    obtain ⟨_, _, _, hz⟩ := I.tuple (same_tup sb h1)
    rw [h2.length]; exact hz
/-- the row that a datum is -/
def D.row : D → Option (List D)
  | .lst ds => some ds
  | .tup ds => some ds
  | _ => none
theorem rep_row {K : PySem.W.Frag} {H : Hp} : ∀ {d : D} {ds : List D} {v : V}, d.row = some ds → Rep K H d v → ∃ p xs, v = .ref p ∧ Reps K H ds xs ∧ ((d = .lst ds ∧ SqL K H p xs) ∨ (d = .tup ds ∧ SqT K H p xs))
  | .lst _, _, _, e, h => by cases e; rw [rep_lst] at h; obtain ⟨p, xs, rfl, h1, h2⟩ := h; exact ⟨p, xs, rfl, h2, .inl ⟨rfl, h1⟩⟩
  | .tup _, _, _, e, h => by cases e; rw [rep_tup] at h; obtain ⟨p, xs, rfl, h1, h2⟩ := h; exact ⟨p, xs, rfl, h2, .inr ⟨rfl, h1⟩⟩
/-- x[i], in bounds -/
def IxP (x y : D) (R : D → Prop) : Prop := ∃ ds i d, x.row = some ds ∧ y = .int i ∧ atI ds i = some d ∧ R d
theorem ixp_l {ds : List D} {i : Int} {d : D} {R : D → Prop} (h : atI ds i = some d) (hR : R d) : IxP (.lst ds) (.int i) R := ⟨ds, i, d, rfl, rfl, h, hR⟩
theorem ixp_t {ds : List D} {i : Int} {d : D} {R : D → Prop} (h : atI ds i = some d) (hR : R d) : IxP (.tup ds) (.int i) R := ⟨ds, i, d, rfl, rfl, h, hR⟩
theorem atI_reps {K : PySem.W.Frag} {H : Hp} {ds : List D} {xs : List V} {i : Int} {d : D} (h : Reps K H ds xs) (e : atI ds i = some d) : ∃ x, atI xs i = some x ∧ Rep K H d x := by
  unfold atI at e ⊢
  rw [← h.length]
  obtain ⟨j, e1, e2⟩ := Option.bind_eq_some_iff.mp e
  obtain ⟨x, e3, rx⟩ := h.get e2
  exact ⟨x, by rw [e1]; exact e3, rx⟩
theorem plainIx_const {i : Int} {j : Nat} {p2 : Pos} : PlainIx (.Constant (.int i) j p2) := fun _ _ => rfl
theorem e_ix (h : EvE c a ρ fun x => EvE c b ρ fun y => IxP x y R) (hs : PlainIx b := by intro _ _; with_unfolding_all rfl) : EvE c (.Subscript a b pos) ρ R := fun σ H Hf Q S q =>
  bE_of (pe_ix (IxR.or ix_list ix_tup) pbE pbE hs) (h σ H Hf _ S fun x v H1 Hf1 h1 r1 g1 => h1 σ H1 Hf1 _ (S.grw g1) fun y u H2 Hf2 ⟨ds, i, d, e1, e2, e3, hR⟩ r2 g2 => by
    subst e2
    rw [rep_int] at r2; subst r2
    obtain ⟨p, xs, rfl, hr, hk⟩ := rep_row e1 (Rep.mono g2.f x r1)
    obtain ⟨z, ez, rz⟩ := atI_reps hr e3
    have fin := q d z H2 Hf2 hR rz (g1.trans g2)
    rcases hk with ⟨_, hk⟩ | ⟨_, hk⟩
    · exact .inl ⟨p, xs, i, z, rfl, rfl, g2.b.seq hk, ez, fin⟩
    · exact .inr ⟨p, xs, i, z, rfl, rfl, same_tup g2.b hk, ez, fin⟩)
/-- len -/
def LenP (x : D) (R : D → Prop) : Prop := ∃ ds, x.row = some ds ∧ (ds.length ≤ sizeLine → R (.int ds.length))
theorem lenp_l {ds : List D} {R : D → Prop} (h : R (.int ds.length)) : LenP (.lst ds) R := ⟨ds, rfl, fun _ => h⟩
theorem lenp_t {ds : List D} {R : D → Prop} (h : R (.int ds.length)) : LenP (.tup ds) R := ⟨ds, rfl, fun _ => h⟩
theorem seq_any {K : PySem.W.Frag} {H Hf : Hp} (sb : Same Hf H) {d : D} {ds : List D} {p : Addr} {xs : List V} (h : (d = .lst ds ∧ SqL K Hf p xs) ∨ (d = .tup ds ∧ SqT K Hf p xs)) : SqL K H p xs ∨ SqT K H p xs := h.elim (fun z => .inl (sb.seq z.2)) fun z => .inr (same_tup sb z.2)
theorem calE_len {K : PySem.W.Frag} : CalE K (fun xs H Q => ∃ p ys, xs = [.ref p] ∧ (SqL K H p ys ∨ SqT K H p ys) ∧ Q (.int ys.length) H) (fun ds R => ∃ x, ds = [x] ∧ ∃ ys, x.row = some ys ∧ R (.int ys.length)) := by
  rintro ds vs H Hf Q R s rs ⟨x, rfl, ys, e, hR⟩ q
  obtain ⟨v, rfl, rv⟩ := reps1 rs
  obtain ⟨p, xs, rfl, hr, hk⟩ := rep_row e rv
  exact ⟨p, xs, rfl, seq_any s hk, q _ _ H Hf hR (by rw [hr.length]; exact rep_int.mpr rfl) (.refl s)⟩
theorem e_len {p : Pos} (hm : mg (Str.ofString "len") = none) (h : EvE c e ρ fun x => ∃ ys, x.row = some ys ∧ R (.int ys.length)) (hg : sc.names.lookup (Str.ofString "len") = some .globalImplicit := by with_unfolding_all rfl)
    (he : ∀ env, starEach [e] env = (false, eval e env) :: starEach [] env := by intro _; with_unfolding_all rfl) : EvE c (.Call (.Name (Str.ofString "len") p) [e] [] pos) ρ R :=
  e_blt call_len_seq calE_len hm PySem.boot_len (a_cons (h.imp fun d hd => a_nil ⟨d, rfl, hd⟩) he) hg (by decide) (by decide) he (by intro _; with_unfolding_all rfl)
theorem row_l {ds : List D} {R : D → Prop} (h : R (.int ds.length)) : ∃ ys, (D.lst ds).row = some ys ∧ R (.int ys.length) := ⟨ds, rfl, h⟩
theorem row_t {ds : List D} {R : D → Prop} (h : R (.int ds.length)) : ∃ ys, (D.tup ds).row = some ys ∧ R (.int ys.length) := ⟨ds, rfl, h⟩
/-- list(x), tuple(x) -/
theorem x_list {p : Pos} {R : Sl → Prop} (hm : mg (Str.ofString "list") = none) (h : EvE c e ρ fun x => ∃ ys, x.row = some ys ∧ R (.ow ys)) (hg : sc.names.lookup (Str.ofString "list") = some .globalImplicit := by with_unfolding_all rfl)
    (he : ∀ env, starEach [e] env = (false, eval e env) :: starEach [] env := by intro _; with_unfolding_all rfl) : EvX c (.Call (.Name (Str.ofString "list") p) [e] [] pos) ρ R :=
  x_bty call_list_of (q := fun ds R => ∃ x ys, ds = [x] ∧ x.row = some ys ∧ R (.ow ys)) (fun ds vs H Hf Q R s rs ⟨x, ys, e1, e2, hR⟩ q => by
    subst e1
    obtain ⟨v, rfl, rv⟩ := reps1 rs
    obtain ⟨p, xs, rfl, hr, hk⟩ := rep_row e2 rv
    exact ⟨p, xs, rfl, seq_any s hk, fun l hl => by
      have g2 := Grw.newO s hl (o := .lst xs)
      exact q _ _ _ _ hR ⟨l, xs, rfl, hl, upd_same, s.free hl, hr⟩ g2⟩) hm PyProof.Rows.boot_list (a_cons (h.imp fun d ⟨ys, h1, h2⟩ => a_nil ⟨d, ys, rfl, h1, h2⟩) he) hg (by decide) (by decide) he (by intro _; with_unfolding_all rfl)
theorem e_tuple {p : Pos} (hm : mg (Str.ofString "tuple") = none) (h : EvE c e ρ fun x => ∃ ys, x.row = some ys ∧ R (.tup ys)) (hg : sc.names.lookup (Str.ofString "tuple") = some .globalImplicit := by with_unfolding_all rfl)
    (he : ∀ env, starEach [e] env = (false, eval e env) :: starEach [] env := by intro _; with_unfolding_all rfl) : EvE c (.Call (.Name (Str.ofString "tuple") p) [e] [] pos) ρ R :=
  e_bty call_tuple_of (q := fun ds R => ∃ x ys, ds = [x] ∧ x.row = some ys ∧ R (.tup ys)) (fun ds vs H Hf Q R s rs ⟨x, ys, e1, e2, hR⟩ q => by
    subst e1
    obtain ⟨v, rfl, rv⟩ := reps1 rs
    obtain ⟨p, xs, rfl, hr, hk⟩ := rep_row e2 rv
    rcases hk with ⟨_, hk⟩ | ⟨_, hk⟩
    · exact ⟨p, xs, rfl, .inl ⟨s.seq hk, fun l hl => by
        have g2 := Grw.new s hl (o := .tup xs)
        exact q _ _ _ _ hR (rep_tup.mpr ⟨l, xs, rfl, .inl (.inl upd_same), hr.mono g2.f⟩) g2⟩⟩
    · exact ⟨p, xs, rfl, .inr ⟨same_tup s hk, q _ _ H Hf hR (rep_tup.mpr ⟨p, xs, rfl, hk, hr⟩) (.refl s)⟩⟩) hm PyProof.Rows.boot_tuple (a_cons (h.imp fun d ⟨ys, h1, h2⟩ => a_nil ⟨d, ys, rfl, h1, h2⟩) he) hg (by decide) (by decide) he (by intro _; with_unfolding_all rfl)
/-- list + list: a new list -/
def rCatG (K : PySem.W.Frag) : R2 := fun x y H Q => ∃ l b xs zs, x = .ref l ∧ y = .ref b ∧ SqL K H l xs ∧ SqL K H b zs ∧ xs.length + zs.length ≤ sizeLine ∧ ∀ p, H p = none → Q (.ref p) (upd H p (.lst (xs ++ zs)))
theorem op_catG {X : Cx} : OpR X (binaryOp .Add) (rCatG X.K) := by
  intro pins s σ H x y v u Q I rx ry h
  obtain ⟨l, b, xs, zs, rfl, rfl, hH, hB, hz, q⟩ := h
  cases rx
  cases ry
  obtain ⟨its, r, hl, z⟩ := I.list hH
  obtain ⟨its2, r2, hl2, z2⟩ := I.list hB
  have e1 := r.length
  have e2 := r2.length
  obtain ⟨⟨cls, dd, data, sl⟩, n, p1, p2, p3, p4⟩ := hl
  obtain ⟨⟨cls2, dd2, data2, sl2⟩, n', q1, q2, q3, q4⟩ := hl2
  simp only at p2 p3 p4 q2 q3 q4
  subst p2 p3 p4 q2 q3 q4
  have ea : its.toArray ++ its2.toArray = (its ++ its2).toArray := by simp
  refine concat_meets ⟨_, p1, rfl⟩ ⟨_, q1, rfl⟩ noFill_list_add seq_list_add PySem.F.slot_list_add PySem.F.entry_list_add (PySem.F.args_list_add_2 _ _) (list_addW l b its.toArray its2.toArray n n' none none sl sl2 (by simp; omega)) ⟨p1, q1, ?_⟩
  rw [ea]
  exact ⟨.ref _, _, I.lnew (t' := s.toks) (r.append r2) (by rw [List.length_append]; omega), rfl, q _ I.fresh⟩
/-- tuple + tuple, either may be empty -/
def rCatT2 (K : PySem.W.Frag) : R2 := fun x y H Q => ∃ a b xs ys, x = .ref a ∧ y = .ref b ∧ SqT K H a xs ∧ SqT K H b ys ∧ xs.length + ys.length ≤ sizeLine ∧
  (xs = [] → Q (.ref b) H) ∧ (ys = [] → Q (.ref a) H) ∧ ∀ p, H p = none → Q (.ref p) (upd H p (.tup (xs ++ ys)))
theorem op_catT2 {X : Cx} : OpR X (binaryOp .Add) (rCatT2 X.K) := by
  intro pins s σ H x y v u Q I rx ry h
  obtain ⟨t, b, xs, ys, rfl, rfl, hH, hB, hz, c1, c2, q⟩ := h
  cases rx
  cases ry
  obtain ⟨vs, r, ht, z⟩ := I.tuple hH
  obtain ⟨ws, r2, hb, z2⟩ := I.tuple hB
  obtain ⟨⟨cls, dd, data, sl⟩, ho, hc, n, hd⟩ := id ht
  obtain ⟨⟨cls2, dd2, data2, sl2⟩, ho2, hc2, n2, hd2⟩ := id hb
  simp only at hc hd hc2 hd2
  subst hc hd hc2 hd2
  have e : vs.toArray ++ ws.toArray = (vs ++ ws).toArray := by simp
  have e1 := r.length
  have e2 := r2.length
  by_cases hv : vs = []
  · exact concat_meets ⟨_, ho, rfl⟩ ⟨_, ho2, rfl⟩ noFill_tuple_add seq_tuple_add PySem.F.slot_tuple_add PySem.F.entry_tuple_add (PySem.F.args_tuple_add_2 _ _)
      (tuple_addW0 t b vs.toArray ws.toArray n n2 dd dd2 sl sl2 (by simp [hv])) ⟨ho, ho2, ⟨.ref b, H, I, rfl, c1 (by rw [Vals.nil_iff r] at hv; exact hv)⟩⟩
  · by_cases hw : ws = []
    · exact concat_meets ⟨_, ho, rfl⟩ ⟨_, ho2, rfl⟩ noFill_tuple_add seq_tuple_add PySem.F.slot_tuple_add PySem.F.entry_tuple_add (PySem.F.args_tuple_add_2 _ _)
        (tuple_addW1 t b vs.toArray ws.toArray n n2 dd dd2 sl sl2 (by simpa using hv) (by simp [hw])) ⟨ho, ho2, ⟨.ref t, H, I, rfl, c2 (by rw [Vals.nil_iff r2] at hw; exact hw)⟩⟩
    · refine concat_meets ⟨_, ho, rfl⟩ ⟨_, ho2, rfl⟩ noFill_tuple_add seq_tuple_add PySem.F.slot_tuple_add PySem.F.entry_tuple_add (PySem.F.args_tuple_add_2 _ _)
        (tuple_addW2 t b vs.toArray ws.toArray n n2 dd dd2 sl sl2 (by simpa using hv) (by simpa using hw) (by rw [List.size_toArray, List.size_toArray]; omega)) ⟨ho, ho2, ?_⟩
      rw [e]
      refine ⟨.ref s.heap.objs.size, _, I.laid (t' := s.toks) (o := .tup (xs ++ ys)) (fun b ob q => Heap.get?_push_of_some _ q) (Nat.le_refl _) ?_, rfl, q _ (I.hok.fresh (Nat.le_refl _))⟩
      exact ⟨by rw [List.length_append]; exact hz, _, r.append r2, IsTup.new _ _⟩
/-- x + y -/
inductive AddP : D → D → (Sl → Prop) → Prop where
  | int {i j : Int} {R : Sl → Prop} (h : R (.va (.int (i + j)))) : AddP (.int i) (.int j) R
  | lst {ds es : List D} {R : Sl → Prop} (h : Sd (ds.length + es.length ≤ sizeLine) (R (.ow (ds ++ es)))) : AddP (.lst ds) (.lst es) R
  | tup {ds es : List D} {R : Sl → Prop} (h : Sd (ds.length + es.length ≤ sizeLine) (R (.va (.tup (ds ++ es))))) : AddP (.tup ds) (.tup es) R
  | str {x y : Str} {R : Sl → Prop} (h : Sd (x.length + y.length ≤ sizeLine) (R (.va (.str (x ++ y))))) : AddP (.str x) (.str y) R
theorem reps_nil_of {K : PySem.W.Frag} {H : Hp} {ds : List D} (h : Reps K H ds []) : ds = [] := by
  have := h.length; cases ds with
  | nil => rfl
  | cons _ _ => simp at this
theorem opd_add {K : PySem.W.Frag} : OpD K (fun x y H Q => (((rI0 fun i j => V.int (i + j)) x y H Q ∨ rCatG K x y H Q) ∨ rCatT2 K x y H Q) ∨ ∃ i j, x = .str i ∧ y = .str j ∧ i.length + j.length ≤ sizeLine ∧ Q (.str (i ++ j)) H) AddP := by
  rintro x y v u H Hf Q R s rx ry h q
  cases h with
  | @int i j _ h =>
    rw [rep_int] at rx ry
    exact .inl (.inl (.inl ⟨i, j, rx, ry, q (.va (.int (i + j))) _ H Hf h (show Rep K Hf (.int (i + j)) _ from rep_int.mpr rfl) (.refl s)⟩))
  | @lst ds es _ h =>
    rw [rep_lst] at rx ry
    obtain ⟨a, xs, rfl, h1, h2⟩ := rx
    obtain ⟨b, ys, rfl, h3, h4⟩ := ry
    refine .inl (.inl (.inr ⟨a, b, xs, ys, rfl, rfl, s.seq h1, s.seq h3, by rw [← h2.length, ← h4.length]; exact h.s, fun p hp => ?_⟩))
    exact q (.ow (ds ++ es)) _ _ _ h.r ⟨p, xs ++ ys, rfl, hp, upd_same, s.free hp, h2.append h4⟩ (Grw.newO s hp)
  | @tup ds es _ h =>
    rw [rep_tup] at rx ry
    obtain ⟨a, xs, rfl, h1, h2⟩ := rx
    obtain ⟨b, ys, rfl, h3, h4⟩ := ry
    refine .inl (.inr ⟨a, b, xs, ys, rfl, rfl, same_tup s h1, same_tup s h3, by rw [← h2.length, ← h4.length]; exact h.s, fun e => ?_, fun e => ?_, fun p hp => ?_⟩)
    · subst e
      have := reps_nil_of h2
      subst this
      exact q (.va (.tup ([] ++ es))) _ H Hf h.r (show Rep K Hf (.tup ([] ++ es)) _ from rep_tup.mpr ⟨b, ys, rfl, h3, h4⟩) (.refl s)
    · subst e
      have := reps_nil_of h4
      subst this
      exact q (.va (.tup (ds ++ []))) _ H Hf h.r (show Rep K Hf (.tup (ds ++ [])) _ from rep_tup.mpr ⟨a, xs, rfl, h1, by rw [List.append_nil]; exact h2⟩) (.refl s)
    · have g := Grw.new s hp (o := .tup (xs ++ ys))
      exact q (.va (.tup (ds ++ es))) _ _ _ h.r (show Rep K _ (.tup (ds ++ es)) _ from rep_tup.mpr ⟨p, xs ++ ys, rfl, .inl (.inl upd_same), (h2.append h4).mono g.f⟩) g
  | @str x y _ h =>
    rw [rep_str] at rx ry
    exact .inr ⟨x, y, rx, ry, h.s, q (.va (.str (x ++ y))) _ H Hf h.r (show Rep K Hf (.str (x ++ y)) _ from rep_str.mpr rfl) (.refl s)⟩
theorem x_add {R : Sl → Prop} (h : EvE c a ρ fun x => EvE c b ρ fun y => AddP x y R) : EvX c (.BinOp a .Add b pos) ρ R :=
  x_op (OpR.or (OpR.or (OpR.or op_add op_catG) op_catT2) op_add_str) opd_add h

/-! ## slices -/
def cutD {α : Type} (xs : List α) (lo hi : Option Int) : List α := (xs.drop (HT.sIx xs.length 0 lo)).take (HT.sIx xs.length xs.length hi - HT.sIx xs.length 0 lo)
theorem reps_cut {K : PySem.W.Frag} {H : Hp} {ds : List D} {xs : List V} (h : Reps K H ds xs) (lo hi : Option Int) : Reps K H (cutD ds lo hi) (cutV xs lo hi) := by
  unfold cutD cutV
  rw [h.length]
  exact (h.drop _).take _
def bP (X : Cx) (e : Option Expr) : TO := fun σ H Q => ∀ pins s, Inv X pins σ H s → wpAny (model X.prog X.w) X.A (evalPart e X.env) (fun u s' => ∃ o H', Inv X pins σ H' s' ∧ IsPart u o ∧ Q o H') X.xe s
theorem pbP {X : Cx} {e : Option Expr} : PO X e (bP X e) := fun pins s σ H Q I h => h pins s I
def EvP (c : Ctx P w K mg base k N sc) (e : Option Expr) (ρ : List Sl) (R : Option Int → Prop) : Prop :=
  ∀ (σ : L2.St) (H Hf : Hp) (Q : Option Int → Hp → Prop), StRep c σ H Hf ρ → (∀ o H' Hf', R o → Grw H Hf H' Hf' → Q o H') → bP c.X e σ H Q
theorem p_none {R : Option Int → Prop} (h : R none) : EvP c none ρ R := fun σ H Hf Q S q pins s I => po_none pins s σ H Q I (q none H Hf h (.refl S.sb))
theorem p_some {R : Option Int → Prop} (h : EvE c e ρ (I1 fun i => R (some i))) : EvP c (some e) ρ R := fun σ H Hf Q S q pins s I =>
  po_some pbE pins s σ H Q I (h σ H Hf _ S fun d v H' Hf' ⟨i, e, hR⟩ r g => by subst e; rw [rep_int] at r; exact ⟨i, r, q _ H' Hf' hR g⟩)
/-- a tuple's slice that is the whole is the tuple itself -/
def rSlTw (K : PySem.W.Frag) : V → Option Int → Option Int → Hp → VK → Prop := fun x lo hi H Q => ∃ a xs, x = .ref a ∧ SqT K H a xs ∧
  (HT.sIx xs.length 0 lo = 0 ∧ HT.sIx xs.length xs.length hi = xs.length) ∧ Q (.ref a) H
theorem getItem_tuple_whole {prog : Program} {w : World} {A : Around} {E : Value → Shared → Prop} {s : Shared} {t sl : Addr} {items : Array Value} {vl vu : Value} {lo hi : Option Int} {Q : Value → Shared → Prop} (ht : IsTup s.heap t items) (hs : s.heap.IsSliceOf sl vl vu .none) (pl : IsPart vl lo) (pu : IsPart vu hi)
    (hw : HT.sIx items.size 0 lo = 0 ∧ HT.sIx items.size items.size hi = items.size) (h : Q (.ref t) s) : wpAny (model prog w) A (getItem (.ref t) (.ref sl)) Q E s := by
  obtain ⟨os, hos, hcs, hds⟩ := id hs
  have hTs : s.TypeIs (.ref sl) "slice" := ⟨os, hos, hcs⟩
  unfold getItem
  try with_reducible refine wpAny_holding ?_
  first | refine wpAny_bind (wpAny_pure ?_) | skip
  refine wpAny_bind (wpAny_sequenceKey ht.typeIs (by decide) ?_)
  refine wpAny_bind (wpAny_callSpecial?_slot (name := Str.ofString "__getitem__") ht.typeIs PyProof.Rows.slot_tuple_getitem
    (wpAny_call_entry PyProof.Rows.slot_tuple_getitem ht.typeIs entry_tuple_getitem ?_ (args_tuple_getitem _ _)))
  show wpAny _ _ (Builtin.Tuple.tupleItemsOf (.ref t) >>= _) _ _ s
  refine wpAny_bind (tupleItemsOf_ ht ?_)
  refine wpAny_bind (wpAny_typeOf hTs ?_)
  rw [if_pos (by decide)]
  refine wpAny_bind (HT.sliceApplied_gen hs pl pu ?_)
  have hyes : ((((HT.sIx items.size 0 lo : Nat) : Int) == 0 && (1 : Int) == 1 && (HT.sIx items.size items.size hi - HT.sIx items.size 0 lo) == items.size) = true) := by
    rw [hw.1, hw.2]; simp
  show wpAny _ _ (if (((HT.sIx items.size 0 lo : Nat) : Int) == 0 && (1 : Int) == 1 && (HT.sIx items.size items.size hi - HT.sIx items.size 0 lo) == items.size) = true then _ else _) _ _ s
  rw [if_pos hyes]
  obtain ⟨⟨cls, dd, data, sl'⟩, ho, hc, n, hd⟩ := id ht
  simp only at hc hd
  subst hc hd
  unfold Builtin.Tuple.tupleIsExact
  wp_walk using AutoSeq1.wpAny_loadPart' ho
  exact ⟨_, rfl, wpAny_pure h⟩
theorem sl_tup_w {X : Cx} : SlR X (rSlTw X.K) := by
  intro pins s σ H x v vl vu lo hi sl Q I rx hs pl pu h
  obtain ⟨a, xs, rfl, hx, hw, q⟩ := h
  cases rx
  obtain ⟨its, r, ht, hz⟩ := I.tuple hx
  have hlen : its.toArray.size = xs.length := by rw [List.size_toArray]; exact r.length.symm
  refine ⟨"tuple", _, PyProof.Rows.slot_tuple_getitem.lookup, ht.typeIs, ?_⟩
  exact getItem_tuple_whole ht hs pl pu (by rw [hlen]; exact hw) ⟨.ref a, H, I, rfl, q⟩
/-- x[lo:hi] -/
inductive SlP : D → Option Int → Option Int → (Sl → Prop) → Prop where
  | lst {ds : List D} {lo hi : Option Int} {R : Sl → Prop} (h : R (.ow (cutD ds lo hi))) : SlP (.lst ds) lo hi R
  | tup {ds : List D} {lo hi : Option Int} {R : Sl → Prop} (h : R (.va (.tup (cutD ds lo hi)))) : SlP (.tup ds) lo hi R
theorem cut_whole {α : Type} {xs : List α} {lo hi : Option Int} (h : HT.sIx xs.length 0 lo = 0 ∧ HT.sIx xs.length xs.length hi = xs.length) : cutD xs lo hi = xs := by
  unfold cutD; rw [h.1, h.2]; simp
theorem x_slice {lo hi : Option Expr} {p2 : Pos} {R : Sl → Prop} (h : EvE c e ρ fun x => EvP c lo ρ fun l => EvP c hi ρ fun u => SlP x l u R) : EvX c (.Subscript e (.Slice lo hi none p2) pos) ρ R := fun σ H Hf Q S q =>
  bE_of (pe_slice (SlR.or (SlR.or sl_list sl_tup) sl_tup_w) pbE pbP pbP) (h σ H Hf _ S fun x v H1 Hf1 h1 r1 g1 => h1 σ H1 Hf1 _ (S.grw g1) fun l H2 Hf2 h2 g2 => h2 σ H2 Hf2 _ (S.grw (g1.trans g2)) fun u H3 Hf3 h3 g3 => by
    have r3 := Rep.mono g3.f x (Rep.mono g2.f x r1)
    have g := (g1.trans g2).trans g3
    cases h3 with
    | lst h =>
      rw [rep_lst] at r3
      obtain ⟨a, xs, rfl, k1, k2⟩ := r3
      refine .inl (.inl ⟨a, xs, rfl, g3.b.seq k1, fun p hp => ?_⟩)
      exact q _ _ _ _ h ⟨p, _, rfl, g.s.free hp, upd_same, g3.b.free hp, reps_cut k2 l u⟩ (g.trans (Grw.newO g3.b hp))
    | tup h =>
      rw [rep_tup] at r3
      obtain ⟨a, xs, rfl, k1, k2⟩ := r3
      by_cases hw : HT.sIx xs.length 0 l = 0 ∧ HT.sIx xs.length xs.length u = xs.length
      · refine .inr ⟨a, xs, rfl, same_tup g3.b k1, hw, ?_⟩
        refine q _ _ _ _ h (show Rep c.X.K Hf3 _ _ from rep_tup.mpr ⟨a, xs, rfl, k1, ?_⟩) g
        rw [cut_whole (by rw [k2.length]; exact hw)]; exact k2
      · refine .inl (.inr ⟨a, xs, rfl, same_tup g3.b k1, hw, fun p hp => ?_⟩)
        have g4 := Grw.new g3.b hp (o := .tup (cutV xs l u))
        exact q _ _ _ _ h (show Rep c.X.K _ _ _ from rep_tup.mpr ⟨p, _, rfl, .inl (.inl upd_same), (reps_cut k2 l u).mono g4.f⟩) (g.trans g4))
end
end EV

set_option Elab.async false
set_option linter.all false
set_option maxRecDepth 100000
namespace EV
open PySem PySem.Spec PySem.Calls PyProof.Rows L2
section
variable {P : Program} {w : World} {K : PySem.W.Frag} {mg : Str → Option Value} {base : Heap} {k : Nat} {N : List Str} {sc : Scope} {c : Ctx P w K mg base k N sc} {ρ : List Sl} {pos : Pos} {a b e : Expr} {es : List Expr} {R : D → Prop} {T : Bool → Prop}

/-! ## the frozen part as it stands at a loop's start -/
theorem grw_re {H₀ Hf₀ H1 Hf1 H Hf : Hp} (a : Grw H₀ Hf₀ H1 Hf1) (b : Grw H₀ Hf1 H Hf) : Grw H₀ Hf₀ H Hf :=
  ⟨b.s, a.f.trans b.f, b.b, fun c h1 h2 h3 => b.n c (a.n c h1 h2 h3) h2 h3⟩
theorem StR.re {K : PySem.W.Frag} {H₀ Hf₀ H1 Hf1 H Hf : Hp} {σ : L2.St} {ρ : List Sl} (a : Grw H₀ Hf₀ H1 Hf1) (S : StR K H₀ Hf1 σ H Hf ρ) : StR K H₀ Hf₀ σ H Hf ρ := ⟨grw_re a S.bas, S.len, S.at_, S.sep⟩
theorem StR.anew {K : PySem.W.Frag} {H₀ Hf₀ H Hf : Hp} {σ : L2.St} {ρ : List Sl} (S : StR K H₀ Hf₀ σ H Hf ρ) : StR K H₀ Hf σ H Hf ρ := ⟨⟨S.bas.s, .refl _, S.bas.b, fun _ h _ _ => h⟩, S.len, S.at_, S.sep⟩
def Ctx.at_ (c : Ctx P w K mg base k N sc) {H1 Hf1 : Hp} (a : Grw c.X.H₀ c.Hf H1 Hf1) : Ctx P w K mg base k N sc :=
  { X := c.X, eP := c.eP, ew := c.ew, eK := c.eK, emg := c.emg, eb := c.eb, eN := c.eN, esc := c.esc, calm := c.calm, top := c.top, cb := c.cb, fn := c.fn, room := c.room, nd := c.nd, vis := c.vis, Hf := Hf1, RX := c.RX, RM := c.RM,
    exc := fun C x pins σ H Hf' ρ s H' s' I S h X sm => c.exc C x pins σ H Hf' ρ s H' s' I (S.re a) h X sm, mde := fun C x pins σ H Hf' ρ s h' us I S h hx => c.mde C x pins σ H Hf' ρ s h' us I (S.re a) h hx }
theorem PtOk.at_ {nx : List Sl → Prop} {p : Pt} {D : Ends} {H1 Hf1 : Hp} (a : Grw c.X.H₀ c.Hf H1 Hf1) (o : PtOk c nx p D) : PtOk (c.at_ a) nx p D :=
  ⟨fun σ H Hf ρ S q => o.nx σ H Hf ρ (StR.re a S) q, fun r v H Hf g rv q => o.rt r v H Hf (grw_re a g) rv q, fun σ H Hf ρ S q => o.bk σ H Hf ρ (StR.re a S) q, fun σ H Hf ρ S q => o.ct σ H Hf ρ (StR.re a S) q⟩

/-! ## what a loop walks -/
def bI (X : Cx) (tg iter : Expr) : TI := fun σ H R => ∀ pins s, Inv X pins σ H s → wpAny (model X.prog X.w) X.A (eval iter X.env) (fun v s1 => wpAny (model X.prog X.w) X.A (pyIter v) (PIE X pins σ tg R) X.xe s1) X.xe s
theorem pbI {X : Cx} {tg iter : Expr} : PI X tg iter (bI X tg iter) := fun pins s σ H R I h => h pins s I
/-- the data that an iterator yields, one after another -/
structure ItOk (K : PySem.W.Frag) (J : It) (ds : List D) (Hf₀ : Hp) : Prop where
  go : ∀ i d H Hf, Same Hf₀ Hf → Same Hf H → ds[i]? = some d → J.go i H ∧ ∀ x H', J.yld i H x H' → ∃ Hf', Grw H Hf H' Hf' ∧ Rep K Hf' d x
  stop : ∀ i H Hf, Same Hf₀ Hf → Same Hf H → ds.length ≤ i → J.stop i H
def EvI (c : Ctx P w K mg base k N sc) (tg iter : Expr) (ρ : List Sl) (R : List D → Prop) : Prop :=
  ∀ (σ : L2.St) (H Hf : Hp) (Q : It → Hp → Prop), StRep c σ H Hf ρ → (∀ ds J H' Hf', R ds → Grw H Hf H' Hf' → ItOk c.X.K J ds Hf' → Q J H') → bI c.X tg iter σ H Q
theorem itok_list {K : PySem.W.Frag} {ds : List D} {xs : List V} {p : Addr} {Hf₀ : Hp} (h : SqL K Hf₀ p xs) (r : Reps K Hf₀ ds xs) : ItOk K (Itl K p) ds Hf₀ where
  go := fun i d H Hf s1 s2 e => by
    obtain ⟨x, ex, rx⟩ := r.get e
    refine ⟨⟨xs, x, (s1.trans s2).seq h, ex⟩, fun y H' ⟨e1, e2⟩ => ?_⟩
    subst e1
    have := e2 xs ((s1.trans s2).seq h)
    rw [ex] at this; cases this
    exact ⟨Hf, .refl s2, Rep.mono s1 d rx⟩
  stop := fun i H Hf s1 s2 e => ⟨xs, (s1.trans s2).seq h, by rw [← r.length]; exact e⟩
theorem itok_tup {K : PySem.W.Frag} {ds : List D} {xs : List V} {p : Addr} {Hf₀ : Hp} (h : SqT K Hf₀ p xs) (r : Reps K Hf₀ ds xs) : ItOk K (Itt K p) ds Hf₀ where
  go := fun i d H Hf s1 s2 e => by
    obtain ⟨x, ex, rx⟩ := r.get e
    refine ⟨⟨xs, x, same_tup (s1.trans s2) h, ex⟩, fun y H' ⟨e1, e2⟩ => ?_⟩
    subst e1
    have := e2 xs (same_tup (s1.trans s2) h)
    rw [ex] at this; cases this
    exact ⟨Hf, .refl s2, Rep.mono s1 d rx⟩
  stop := fun i H Hf s1 s2 e => ⟨xs, same_tup (s1.trans s2) h, by rw [← r.length]; exact e⟩
def iSeq (K : PySem.W.Frag) (tl : TE) : TI := fun σ H R => tl σ H fun x H1 => ∃ a, x = .ref a ∧ (((∃ xs, SqL K H1 a xs) ∧ R (Itl K a) H1) ∨ ((∃ xs, SqT K H1 a xs) ∧ R (Itt K a) H1))
theorem pi_seq {X : Cx} {tg l : Expr} {tl : TE} (hl : PE X l tl) : PI X tg l (iSeq X.K tl) := by
  intro pins s σ H R I h
  refine thn (hl pins s σ H _ I h) fun v s1 ⟨x, H1, I1, r1, q1⟩ => ?_
  obtain ⟨a, e, h⟩ := q1
  subst e
  cases r1
  rcases h with ⟨⟨xs, hq⟩, q⟩ | ⟨⟨xs, hq⟩, q⟩
  · obtain ⟨its, rv, p, hz⟩ := I1.list hq
    refine wpAny_pyIter_list p.isList ?_
    refine ⟨s1.heap.objs.size, [s1.heap.objs.size], _, _, H1, rfl, I1.kept (t' := s1.toks) fun b o e => Heap.get?_push_of_some _ e, turn_list a _, ⟨_, Heap.get?_push_size _ rfl, rfl, rfl⟩, fun b hb => ?_, q⟩
    have e : b = s1.heap.objs.size := by simpa using hb
    subst e
    exact I1.fpOk (Nat.le_refl _) (I1.hok.fresh (Nat.le_refl _))
  · obtain ⟨its, rv, p, hz⟩ := I1.tuple hq
    refine wpAny_pyIter_tuple (show s1.heap.IsTuple a its.toArray from p) ?_
    refine ⟨s1.heap.objs.size, [s1.heap.objs.size], _, _, H1, rfl, I1.kept (t' := s1.toks) fun b o e => Heap.get?_push_of_some _ e, turn_tuple a _, ⟨_, Heap.get?_push_size _ rfl, rfl, rfl⟩, fun b hb => ?_, q⟩
    have e : b = s1.heap.objs.size := by simpa using hb
    subst e
    exact I1.fpOk (Nat.le_refl _) (I1.hok.fresh (Nat.le_refl _))
/-- over a list or a tuple -/
theorem i_seq {tg : Expr} {R : List D → Prop} (h : EvE c e ρ fun d => ∃ ds, d.row = some ds ∧ R ds) : EvI c tg e ρ R := fun σ H Hf Q S q pins s I =>
  pi_seq pbE pins s σ H Q I (h σ H Hf _ S fun d v H' Hf' ⟨ds, er, hR⟩ r g => by
    obtain ⟨p, xs, rfl, hr, hk⟩ := rep_row er r
    refine ⟨p, rfl, ?_⟩
    rcases hk with ⟨_, hk⟩ | ⟨_, hk⟩
    · exact .inl ⟨⟨xs, g.b.seq hk⟩, q ds _ H' Hf' hR g (itok_list hk hr)⟩
    · exact .inr ⟨⟨xs, same_tup g.b hk⟩, q ds _ H' Hf' hR g (itok_tup hk hr)⟩)
/-- lo, lo + 1, .. -/
def rngD (lo : Int) (n : Nat) : List D := (List.range n).map fun (i : Nat) => D.int (lo + (i : Int))
theorem itok_rng {K : PySem.W.Frag} {lo : Int} {n : Nat} {Hf₀ : Hp} : ItOk K (Itr lo n) (rngD lo n) Hf₀ where
  go := fun i d H Hf s1 s2 e => by
    unfold rngD at e
    rw [List.getElem?_map] at e
    obtain ⟨j, e1, e2⟩ := Option.map_eq_some_iff.mp e
    have hi : i < n := by
      have := (List.getElem?_eq_some_iff.mp e1).1
      simpa using this
    have : j = i := by
      rw [List.getElem?_range hi] at e1; cases e1; rfl
    subst this
    refine ⟨hi, fun x H' ⟨e3, e4⟩ => ?_⟩
    subst e3 e4 e2
    exact ⟨Hf, .refl s2, rep_int.mpr rfl⟩
  stop := fun i H Hf s1 s2 e => by
    show n ≤ i
    simpa [rngD] using e
def RngOk (i : Int) : Prop := -(2 ^ 62) ≤ i ∧ i < 2 ^ 62
theorem i_range1 {tg : Expr} {p : Pos} {R : List D → Prop} (hm : mg (Str.ofString "range") = none) (h : EvE c e ρ (I1 fun j => Sd (RngOk j) (R (rngD 0 j.toNat)))) (hg : sc.names.lookup (Str.ofString "range") = some .globalImplicit := by with_unfolding_all rfl)
    (hs : ∀ env, starEach [e] env = (false, eval e env) :: starEach [] env := by intro _; with_unfolding_all rfl) : EvI c tg (.Call (.Name (Str.ofString "range") p) [e] [] pos) ρ R := fun σ H Hf Q S q pins s I =>
  pi_range1 (by unfold Gl Env.kindOf; rw [c.esc]; exact hg) (by rw [c.emg]; exact hm) (pa_cons pbE pa_nil (hs _)) (hs _) pins s σ H Q I (h σ H Hf _ S fun d v H' Hf' ⟨j, ed, ⟨hj, hR⟩⟩ r g => by
    subst ed; rw [rep_int] at r; subst r
    exact ⟨j, rfl, hj.1, hj.2, q _ _ H' Hf' hR g itok_rng⟩)
theorem i_range2 {tg : Expr} {p : Pos} {R : List D → Prop} (hm : mg (Str.ofString "range") = none) (h : EvE c a ρ fun x => EvE c b ρ fun y => I2 (fun i j => Sd (RngOk i) (Sd (RngOk j) (R (rngD i (j - i).toNat)))) x y) (hg : sc.names.lookup (Str.ofString "range") = some .globalImplicit := by with_unfolding_all rfl)
    (hs : ∀ env, starEach [a, b] env = (false, eval a env) :: starEach [b] env := by intro _; with_unfolding_all rfl) (hs2 : ∀ env, starEach [b] env = (false, eval b env) :: starEach [] env := by intro _; with_unfolding_all rfl) : EvI c tg (.Call (.Name (Str.ofString "range") p) [a, b] [] pos) ρ R := fun σ H Hf Q S q pins s I =>
  pi_range2 (by unfold Gl Env.kindOf; rw [c.esc]; exact hg) (by rw [c.emg]; exact hm) (pa_cons pbE (pa_cons pbE pa_nil (hs2 _)) (hs _)) (hs := by rw [hs, hs2]; rfl) (hs2 := by rw [hs2]; rfl) pins s σ H Q I
    (h σ H Hf _ S fun x v1 H1 Hf1 h1 r1 g1 => h1 σ H1 Hf1 _ (S.grw g1) fun y v2 H2 Hf2 ⟨i, j, e1, e2, ⟨hi, ⟨hj, hR⟩⟩⟩ r2 g2 => by
      subst e1 e2; rw [rep_int] at r1 r2; subst r1 r2
      exact ⟨i, j, rfl, ⟨hi.1, hi.2, hj.1, hj.2⟩, q _ _ H2 Hf2 hR (g1.trans g2) itok_rng⟩)

/-! ## for -/
theorem s_for {tg iter : Expr} {body : List Stmt} {nx : List Sl → Prop} {p : Pt} (hq : c.X.xe = fun _ _ => False)
    (h : EvI c tg iter ρ fun ds => ∃ I : Nat → List Sl → Prop, I 0 ρ ∧
      (∀ c' : Ctx P w K mg base k N sc, c'.X = c.X → c'.RX = c.RX → c'.RM = c.RM → ∀ i d ρ', ds[i]? = some d → I i ρ' → EvG c' tg d ρ' fun ρ'' => EvSs c' body ρ'' (I (i + 1)) { rt := p.rt, bk := nx, ct := I (i + 1) }) ∧ ∀ ρ', I ds.length ρ' → nx ρ')
    (hs : ∀ env x, foldedSetIterable iter env x = pure x := by intro _ _; with_unfolding_all rfl) : EvS c (.For tg iter body [] pos) ρ nx p := fun σ H Hf D S o =>
  bS_of (ps_for (by rw [hq]; exact PassesOwn.never) c.calm pbI pbG pbSs (hs _)) (h σ H Hf _ S fun ds J H1 Hf1 ⟨I, h0, hb, he⟩ g io => by
    have S1 := S.grw g
    have gb : Grw c.X.H₀ c.Hf H1 Hf1 := S1.bas
    refine ⟨fun i m σ H => m = ds.length - i ∧ i ≤ ds.length ∧ ∃ Hf ρ', StRep (c.at_ gb) σ H Hf ρ' ∧ I i ρ', ⟨_, rfl, Nat.zero_le _, Hf1, ρ, S1.anew, h0⟩, ?_⟩
    rintro i m σ H ⟨rfl, hi, Hf, ρ', S', hI⟩
    by_cases hlt : i < ds.length
    · have ed : ds[i]? = some ds[i] := List.getElem?_eq_getElem hlt
      obtain ⟨hgo, hy⟩ := io.go i _ H Hf S'.bas.f S'.bas.b ed
      refine .inr ⟨hgo, fun σ' H' => ∃ Hf' ρ'', StRep (c.at_ gb) σ' H' Hf' ρ'' ∧ I (i + 1) ρ'', fun σ' H' ⟨Hf', ρ'', S'', hI'⟩ => ⟨_, by omega, rfl, hlt, Hf', ρ'', S'', hI'⟩, fun x H' hx => ?_⟩
      obtain ⟨Hf', g', rx⟩ := hy x H' hx
      refine hb (c.at_ gb) rfl rfl rfl i _ ρ' ed hI σ H' Hf' x _ (S'.grw g') rx fun σ2 H2 Hf2 ρ2 S2 hbody => ?_
      exact hbody σ2 H2 Hf2 _ S2 ⟨fun σ H Hf ρ S q => ⟨Hf, ρ, S, q⟩, (o.at_ gb).rt, fun σ H Hf ρ S q => (o.at_ gb).nx σ H Hf ρ S q, fun σ H Hf ρ S q => ⟨Hf, ρ, S, q⟩⟩
    · have e : i = ds.length := by omega
      subst e
      exact .inl ⟨io.stop _ H Hf S'.bas.f S'.bas.b (Nat.le_refl _), (o.at_ gb).nx σ H Hf ρ' S' (he ρ' hI)⟩)
end
end EV

set_option Elab.async false
set_option linter.all false
set_option maxRecDepth 100000
namespace EV
open PySem PySem.Spec PySem.Calls PyProof.Rows L2

/-! ## an exception is caught -/
section
variable {X : Cx} {pins : List (Addr × Obj)} {σ : L2.St} {H1 H' : Hp} {s1 s' : Shared} {a C t : Addr} {B h6 : Heap}
theorem inv_caught (I : Inv X pins σ H1 s1) (htop : X.stack = X.env :: X.outer ∧ X.env.frame = some X.env.locals ∧ X.ex = []) (hfn : ∀ x c, X.env.cells.lookup x = some c → X.s₀.heap.objs.size ≤ c)
    (os : s'.os = s1.os) (bare : AllBare s'.gens) (un : Un (frs X.stack) [] H1 H' s1.heap s'.heap) (hok : HOk X.prog X.w H' s'.heap) (new : s1.heap.get? a = none) (free : H' a = none)
    (fl : Heap.FlyingW B X.stack a (.ref C) (.ref t) h6) (cov : ∀ b o, s1.heap.get? b = some o → b ∉ frs X.stack → ∃ o', s'.heap.get? b = some o' ∧ B.get? b = some o') (tr : ∀ b o, H' b ≠ none → s'.heap.get? b = some o → B.get? b = some o)
    (up : s'.heap.UpToSlots h6) : Inv X pins σ (upd H' a (.ext (excP a C))) { s' with heap := h6 } := by
  have nst : ∀ b, b ≠ X.env.locals → b ∉ X.fs → b ∉ frs X.stack := fun b h1 h2 m => by
    rcases List.mem_cons.mp (I.stkSub b m) with q | q
    · exact h1 q
    · exact h2 q
  -- what is kept to here
  have keep : ∀ b o, s1.heap.get? b = some o → H1 b = none → b ∉ frs X.stack → h6.get? b = some o := fun b o e n hb => by
    have e2 := un.keep b o e n hb (by intro z; cases z)
    obtain ⟨o', e3, e4⟩ := cov b o e hb
    rw [e2] at e3; cases e3
    exact fl.1 b o e4
  have slot : ∀ b o, s1.heap.get? b = some o → H1 b = none → b ∈ frs X.stack → ∃ sl, h6.get? b = some { o with slots := sl } := fun b o e n hb => by
    obtain ⟨sl, e2⟩ := un.slot b o e n hb (by intro z; cases z)
    obtain ⟨_, o3, e3, nf⟩ := fl.2.2.1.mem hb
    obtain ⟨_, o4, e4, nf4⟩ := I.stack.mem hb
    rw [e] at e4; cases e4
    obtain ⟨sl2, e5⟩ := up b _ e2 nf4
    exact ⟨sl2, e5⟩
  have there : ∀ b o, s1.heap.get? b = some o → ∃ o', h6.get? b = some o' := fun b o e => by
    by_cases hb : b ∈ frs X.stack
    · obtain ⟨sl, q⟩ := slot b o e (I.stkFree b hb) hb
      exact ⟨_, q⟩
    · obtain ⟨o', e3, e4⟩ := cov b o e hb
      exact ⟨o', fl.1 b o' e4⟩
  have nea : ∀ b o, s1.heap.get? b = some o → b ≠ a := fun b o e z => by subst z; rw [new] at e; cases e
  have fr' : ∀ b o, s1.heap.get? b = some o → H1 b = none → (upd H' a (.ext (excP a C))) b = none := fun b o e n => by
    rw [upd_ne (nea b o e)]; exact un.free b o e n (by intro z; cases z)
  have old : ∀ b o, X.s₀.heap.get? b = some o → b ∉ X.ex → ∃ o', s1.heap.get? b = some o' := fun b o e hx => I.base.there b o e hx
  have nloc : ∀ b o, X.s₀.heap.get? b = some o → b ≠ X.env.locals := fun b o e z => by
    subst z
    exact absurd (Heap.lt_size e) (Nat.not_lt.mpr I.ok.above)
  have hlocal : X.env.locals ∈ frs X.stack := by rw [htop.1]; exact List.mem_filterMap.mpr ⟨_, .head _, htop.2.1⟩
  have fs_old : ∀ b ∈ X.fs, ∃ o, X.s₀.heap.get? b = some o := fun b hb => by
    obtain ⟨_, o, e, _⟩ := I.ok.funs.mem hb
    exact ⟨o, e⟩
  have cellok : ∀ x c v, X.env.cells.lookup x = some c → s1.heap.IsCell c v → h6.IsCell c v := fun x c v hc ⟨o, e, d⟩ => by
    refine ⟨o, keep c o e (I.freeC x c hc) (nst c (I.cne x c hc) fun m => ?_), d⟩
    obtain ⟨o', e'⟩ := fs_old c m
    exact absurd (Heap.lt_size e') (Nat.not_lt.mpr (hfn x c hc))
  refine ⟨I.ok, os.trans I.os, bare, ⟨fun b o e n hb hx => ?_, fun b o e n hb hx => ?_, fun b o e n hx => ?_, fun b o e hx => ?_, fun b xs q => ?_, fun b o u q => ?_, fun b ps q => ?_⟩, ?_, fun x c hc => ?_, ?_, fun x c hc => ?_, fun p hp => ?_, fun b o q => ?_, I.len⟩
  · exact keep b o (I.base.keep b o e n hb hx) (I.base.free b o e n hx) (nst b (nloc b o e) hb)
  · obtain ⟨sl, e1⟩ := I.base.slot b o e n hb hx
    have hm : b ∈ frs X.stack := by
      rw [htop.1]
      obtain ⟨e', he, hf⟩ := List.mem_filterMap.mp hb
      exact List.mem_filterMap.mpr ⟨e', List.mem_cons_of_mem _ he, hf⟩
    obtain ⟨sl2, e2⟩ := slot b _ e1 (I.base.free b o e n hx) hm
    exact ⟨sl2, e2⟩
  · obtain ⟨o', e1⟩ := old b o e hx
    exact fr' b o' e1 (I.base.free b o e n hx)
  · obtain ⟨o', e1⟩ := old b o e hx
    exact there b o' e1
  · have q2 := un.tups b xs (I.base.tups b xs q)
    rw [upd_ne (ne_of_none q2 free)]; exact q2
  · have q2 := un.frzs b o u (I.base.frzs b o u q)
    rw [upd_ne (ne_of_none q2 free)]; exact q2
  · obtain ⟨m1, e1⟩ := I.base.tbls b ps q
    obtain ⟨m2, e2⟩ := un.tbls b _ e1
    exact ⟨m1 ++ m2, by rw [upd_ne (ne_of_none e2 free), e2, Array.append_assoc]⟩
  · obtain ⟨m, hns, hl⟩ := I.loc
    have hns' : h6.Ns X.env.locals m := by
      obtain ⟨o, es, ep, ho, hd, hk, hm⟩ := hns
      obtain ⟨sl, e⟩ := slot _ o ho I.free hlocal
      exact ⟨_, es, ep, e, hd, hk, hm⟩
    refine ⟨m, hns', fun i x v h1 h2 h3 => ?_⟩
    obtain ⟨u, r, lk⟩ := hl i x v h1 h2 h3
    refine ⟨u, r, ?_⟩
    rcases lk with ⟨k1, k2⟩ | ⟨k1, c, k2, k3⟩
    · exact .inl ⟨k1, k2⟩
    · exact .inr ⟨k1, c, k2, cellok x c _ k2 k3⟩
  · obtain ⟨v, hv⟩ := I.cell x c hc
    exact ⟨v, cellok x c v hc hv⟩
  · obtain ⟨o, es, ep, ho, _⟩ := (show ∃ m, s1.heap.Ns X.env.locals m from let ⟨m, h, _⟩ := I.loc; ⟨m, h⟩).choose_spec
    exact fr' _ o ho I.free
  · obtain ⟨v, o, e, d⟩ := I.cell x c hc
    exact fr' c o e (I.freeC x c hc)
  · obtain ⟨p1, p2, p3, p4, p5⟩ := I.pin p hp
    exact ⟨keep p.1 p.2 p1 p2 (nst p.1 p3 p4), fr' p.1 p.2 p1 p2, p3, p4, p5⟩
  · by_cases hb : b = a
    · subst hb
      rw [upd_same] at q; cases q
      obtain ⟨oe, vs, k1, k2, k3, _⟩ := fl.first
      exact ⟨⟨oe, k1, k2, vs, k3⟩, ⟨oe, k1⟩, fun h1 h2 ⟨o, z1, z2, z3⟩ k => ⟨o, k o z1, z2, z3⟩⟩
    · rw [upd_ne hb] at q
      have ht : ∀ b o, H' b ≠ none → s'.heap.get? b = some o → h6.get? b = some o := fun b o hn e => fl.1 b o (tr b o hn e)
      refine (hok b o q).stay (fun c u hc e => ?_) (fun c r => by rw [upd_ne (ne_of_none r free)]; exact r) fun c xs r => by rw [upd_ne (ne_of_none r free)]; exact r
      rcases hc with rfl | hc
      · exact ht _ _ (by rw [q]; simp) e
      · exact ht _ _ (by rw [hc]; simp) e
end
section
variable {X : Cx} {pins : List (Addr × Obj)} {σ : L2.St} {H : Hp} {s : Shared}
/-- a name is gone -/
theorem goes_ok {M : Model} {A : Around} {E : Value → Shared → Prop} {i : Nat} {n : Str} {pos : Pos} {Q : Unit → Shared → Prop} (I : Inv X pins σ H s) (hN : X.N.Nodup) (hi : X.N[i]? = some n) (hk : X.env.scope.names.lookup n = some .local)
    (h : ∀ s', Inv X pins (σ.set i none) H s' → Q () s') : wpAny M A (do bindName X.env n .none; unbindBehindTheSuite X.env n pos) Q E s := by
  obtain ⟨m, hn, hl⟩ := id I.loc
  have hcls : (X.env.scope.kind == .class || (X.env.scope.kind == .module && X.env.locals != X.env.globals)) = false := by rw [I.ok.kind]; rfl
  have cne := I.cne
  refine wpAny_nameGoes_keeps hk hn hcls fun h' v hn' hs => ?_
  obtain ⟨oL, _, _, hoL, _⟩ := id hn
  refine h _ ⟨I.ok, I.os, I.bare, ⟨fun b o e n hb hx => ?_, fun b o e n hb hx => ?_, I.base.free, fun b o e hx => ?_, I.base.tups, I.base.frzs, I.base.tbls⟩, ⟨_, hn', fun j y v' e1 e2 e3 => ?_⟩, fun y c e => ?_, I.free, I.freeC, fun p hp => ?_, fun b ob e => ?_, by simpa using I.len⟩
  · exact (hs.2 b (Nat.ne_of_lt (Nat.lt_of_lt_of_le (Heap.lt_size e) I.ok.above))).trans (I.base.keep b o e n hb hx)
  · obtain ⟨sl, e1⟩ := I.base.slot b o e n hb hx
    exact ⟨sl, (hs.2 b (Nat.ne_of_lt (Nat.lt_of_lt_of_le (Heap.lt_size e) I.ok.above))).trans e1⟩
  · obtain ⟨o', e1⟩ := I.base.there b o e hx
    exact ⟨o', (hs.2 b (Nat.ne_of_lt (Nat.lt_of_lt_of_le (Heap.lt_size e) I.ok.above))).trans e1⟩
  · by_cases hj : j = i
    · subst hj
      have hiσ : j < σ.length := by rw [I.len]; exact (List.getElem?_eq_some_iff.mp hi).1
      rw [List.getElem?_set_self hiσ] at e2
      cases e2
    · rw [List.getElem?_set_ne (Ne.symm hj)] at e2
      obtain ⟨u', r', q⟩ := hl j y v' e1 e2 e3
      refine ⟨u', r', ?_⟩
      rcases q with ⟨k, e⟩ | ⟨k, c, e, z⟩
      · refine .inl ⟨k, ?_⟩
        have : y ≠ n := fun e => hj (nodup_ix hN e1 (e ▸ hi))
        simp [this, e]
      · exact .inr ⟨k, c, e, z.sameBut hs (cne y c e)⟩
  · obtain ⟨w', z⟩ := I.cell y c e
    exact ⟨w', z.sameBut hs (cne y c e)⟩
  · obtain ⟨e, n, ne, nf, d⟩ := I.pin p hp
    exact ⟨(hs.2 p.1 ne).trans e, n, ne, nf, d⟩
  · refine (I.hok b ob e).stay (fun c w' hc q => (hs.2 c ?_).trans q) (fun _ q => q) fun _ _ q => q
    rintro rfl
    rcases hc with rfl | hc
    · rw [I.free] at e; cases e
    · rw [I.free] at hc; cases hc
theorem ld_globA {A : Around} {E : Value → Shared → Prop} {x : Str} {u : Value} {pos : Pos} {Q : Value → Shared → Prop} (I : Inv X pins σ H s) (hg : Gl X x) (hm : X.mg x = some u) (h : Q u s)
    (hd : (x == ("__debug__" : Str)) = false := by decide) : wpAny (model X.prog X.w) A (eval (.Name x pos) X.env) Q E s :=
  Calls.Name_function_global I.ok.kind hg (Calls.loadGlobal_global (by rw [I.ok.glob]; exact I.mod.glob.keeps I.bk) hm h) hd
theorem var_A {A : Around} {E : Value → Shared → Prop} {i : Nat} {x : Str} {v : V} {pos : Pos} {Q : Value → Shared → Prop} (I : Inv X pins σ H s) (hN : X.N[i]? = some x) (hv : Vis X.env.scope x) (hs : σ[i]? = some (some v)) (h : ∀ u, RelV v u → Q u s)
    (hd : (x == ("__debug__" : Str)) = false := by decide) (hcd : (x == ("__classdict__" : Str)) = false := by decide) : wpAny (model X.prog X.w) A (eval (.Name x pos) X.env) Q E s := by
  obtain ⟨m, hn, hl⟩ := I.loc
  obtain ⟨u, r, l⟩ := hl i x v hN hs hv
  rcases l with ⟨hk, hm⟩ | ⟨hk, c, hc, hcell⟩
  · exact wpAny_Name (wpAny_loadName_local I.ok.kind hk hn hm (h u r)) hd
  · rcases hk with hk | hk
    · exact wpAny_Name (wpAny_loadName_cell I.ok.kind hk hc hcell (h u r)) hd
    · exact wpAny_Name (wpAny_loadName_free I.ok.kind hk hc hcell (h u r) hcd) hd
end
/-- a heap grown by the exception alone: it is frozen -/
theorem grw_exc {H Hf H' : Hp} {a C : Addr} (b : Same Hf H) (s : Same H H') (free : H' a = none) : Grw H Hf (upd H' a (.ext (excP a C))) (upd Hf a (.ext (excP a C))) := by
  have ha : H a = none := s.free free
  have hfa : Hf a = none := b.free ha
  refine ⟨fun c u h => ?_, fun c u h => ?_, fun c u h => ?_, fun c h1 h2 _ => ?_⟩
  · rw [upd_ne (ne_of_none (s c u h) free)]; exact s c u h
  · rw [upd_ne (ne_of_none h hfa)]; exact h
  · by_cases e : c = a
    · subst e; rw [upd_same] at h ⊢; exact h
    · rw [upd_ne e] at h ⊢; exact s c u (b c u h)
  · by_cases e : c = a
    · subst e; exact absurd ha h2
    · rw [upd_ne e]; exact h1
section
variable {P : Program} {w : World} {K : PySem.W.Frag} {mg : Str → Option Value} {base : Heap} {k : Nat} {N : List Str} {sc : Scope} {c : Ctx P w K mg base k N sc} {ρ : List Sl} {pos hp hpos np2 ap yp : Pos} {body : List Stmt} {nx : List Sl → Prop} {p : Pt}
theorem StR.gone' {K : PySem.W.Frag} {H₀ Hf₀ H Hf : Hp} {σ : L2.St} {ρ : List Sl} {i : Nat} (S : StR K H₀ Hf₀ σ H Hf ρ) : StR K H₀ Hf₀ (σ.set i none) H Hf (ρ.set i .un) := by
  refine ⟨S.bas, by simp [S.len], fun j r hj hu => ?_, fun j j' r r' q hne h1 h2 o1 o2 => ?_⟩
  · by_cases q : j = i
    · subst q
      have hi : j < ρ.length := by have := (List.getElem?_eq_some_iff.mp hj).1; simpa using this
      rw [List.getElem?_set_self hi] at hj; cases hj; exact absurd rfl hu
    · rw [List.getElem?_set_ne (Ne.symm q)] at hj ⊢
      exact S.at_ j r hj hu
  · have out : ∀ {j : Nat} {r : Sl}, (ρ.set i .un)[j]? = some r → r.owned = true → ρ[j]? = some r ∧ j ≠ i := fun {j r} hj ho => by
      by_cases q : j = i
      · subst q
        have hi : j < ρ.length := by have := (List.getElem?_eq_some_iff.mp hj).1; simpa using this
        rw [List.getElem?_set_self hi] at hj; cases hj; cases ho
      · rw [List.getElem?_set_ne (Ne.symm q)] at hj; exact ⟨hj, q⟩
    obtain ⟨a1, n1⟩ := out h1 o1
    obtain ⟨a2, n2⟩ := out h2 o2
    rw [List.getElem?_set_ne (Ne.symm n1), List.getElem?_set_ne (Ne.symm n2)]
    exact S.sep j j' r r' q hne a1 a2 o1 o2
/-- what is wanted behind «except x as n: y = n» -/
def HandY (K : PySem.W.Frag) (Ch : Addr) (i j : Nat) (nx : List Sl → Prop) (C : Addr) (ρ : List Sl) : Prop :=
  PySem.W.exmOne K (.ref C) (.ref Ch) = some true ∧ ∃ ρ1 ρ2, SSet ρ j (.va (.exc C)) ρ1 ∧ SSet ρ1 i .un ρ2 ∧ nx ρ2
theorem s_tryA {xh n y : Str} {Ch : Addr} {i j : Nat} (hm : mg xh = some (.ref Ch)) (hNi : At N i n) (hNj : At N j y) (hij : i ≠ j)
    (hb : ∀ c' : Ctx P w K mg base k N sc, (∀ C ρ', HandY K Ch i j nx C ρ' → c'.RX C ρ') → EvSs c' body ρ nx p)
    (hl : sc.names.lookup n = some .local := by with_unfolding_all rfl) (hg : sc.names.lookup xh = some .globalImplicit := by with_unfolding_all rfl) (hdx : (xh == ("__debug__" : Str)) = false := by decide)
    (hdn : (n == ("__debug__" : Str)) = false := by decide) (hcn : (n == ("__classdict__" : Str)) = false := by decide) (hs : ∀ env, swapsWith (.Name n np2) (some (.Name y yp)) ap.line env = pure false := by intro _; with_unfolding_all rfl) :
    EvS c (.Try body [.ExceptHandler (some (.Name xh hp)) (some n) [.Assign [.Name y yp] (.Name n np2) ap] hpos] [] [] pos) ρ nx p := fun σ H Hf D S o pins s I => by
  let hd : ExceptHandler := .ExceptHandler (some (.Name xh hp)) (some n) [.Assign [.Name y yp] (.Name n np2) ap] hpos
  let M := model c.X.prog c.X.w
  let Wx : Value → Shared → Prop := fun e s₁ => wpAny M c.X.A (noteFrame e c.X.env) (fun _ s₂ => wpAny M c.X.A (setFlight e none) (fun _ s₃ => wpAny M c.X.A (handleBy e c.X.env [hd]) (SP c.X pins D) c.X.xe s₃) c.X.xe s₂) c.X.xe s₁
  let X' : Cx := { c.X with xe := Wx, pn := c.X.pn ++ pins }
  have toX : ∀ {pins' σ' H' s'}, Inv X' pins' σ' H' s' → Inv c.X (pins ++ pins') σ' H' s' := fun {pins' σ' H' s'} I => ⟨⟨I.ok.mod, I.ok.kind, I.ok.glob, I.ok.blt, I.ok.above, I.ok.inj, I.ok.has, I.ok.cab, I.ok.hd, I.ok.frames, I.ok.stk, I.ok.exf, I.ok.bs, I.ok.bsz, I.ok.noex, I.ok.exfs, I.ok.funs, I.ok.frf⟩,
    I.os, I.bare, I.base, I.loc, I.cell, I.free, I.freeC, fun q hq => I.pin q (by show q ∈ (c.X.pn ++ pins) ++ pins'; rw [List.append_assoc]; exact hq), I.hok, I.len⟩
  have drop : ∀ {pins' σ' H' s'}, Inv c.X (pins ++ pins') σ' H' s' → Inv c.X pins σ' H' s' := fun {pins' σ' H' s'} I => I.unpinned
  have I' : Inv X' [] σ H s := ⟨⟨I.ok.mod, I.ok.kind, I.ok.glob, I.ok.blt, I.ok.above, I.ok.inj, I.ok.has, I.ok.cab, I.ok.hd, I.ok.frames, I.ok.stk, I.ok.exf, I.ok.bs, I.ok.bsz, I.ok.noex, I.ok.exfs, I.ok.funs, I.ok.frf⟩,
    I.os, I.bare, I.base, I.loc, I.cell, I.free, I.freeC, fun q hq => I.pin q (by have z : q ∈ (c.X.pn ++ pins) ++ [] := hq; rw [List.append_nil] at z; exact z), I.hok, I.len⟩
  have hx : ∀ (C a : Addr) (pins' : List (Addr × Obj)) (σ1 : L2.St) (H1 Hf1 : Hp) (ρ1 : List Sl) (s1 : Shared) (H' : Hp) (s' : Shared), Inv X' pins' σ1 H1 s1 → StR c.X.K c.X.H₀ c.Hf σ1 H1 Hf1 ρ1 → HandY K Ch i j nx C ρ1 → ExcS c.X.prog c.X.w c.X.stack H1 s1 a C H' s' → Same H1 H' → Wx (.ref a) s' := by
    rintro C a pins' σ1 H1 Hf1 ρ1 s1 H' s' I1 S1 ⟨hex, ρ2, ρ3, hs1, hs2, hnx⟩ E sm
    obtain ⟨os, bare, un, hok, new, free, t, B, fl, cov, tr⟩ := E
    have J1 : Inv c.X (pins ++ pins') σ1 H1 s1 := toX I1
    have hfr : c.X.A.frames = some (c.X.env :: c.X.outer) := by rw [J1.ok.frames, c.top.1]
    have fl' : Heap.FlyingW B (c.X.env :: c.X.outer) a (.ref C) (.ref t) s'.heap := by rw [← c.top.1]; exact fl
    refine wpAny_looks_onW hfr c.top.2.1 fl' fun h4 held4 up4 => ?_
    refine wpAny_landsW held4 fun h5 fl5 up5' => ?_
    have up5 := up4.trans up5'
    have fl5s : Heap.FlyingW B c.X.stack a (.ref C) (.ref t) h5 := by rw [c.top.1]; exact fl5
    have J5 : Inv c.X (pins ++ pins') σ1 (upd H' a (.ext (excP a C))) { s' with heap := h5 } := inv_caught J1 c.top (c.cb _ _ _ _ J1) os bare un hok new free fl5s cov tr up5
    refine wpAny_handleBy_cons (codeAny_handlers_test (ld_globA J5 (by unfold Gl Env.kindOf; rw [c.esc]; exact hg) (by rw [c.emg]; exact hm) ?_ hdx)) (by intro q; cases q)
    have LT : PySem.W.Looks M h5 (typeOf (.ref a)) (.ref C) := by
      obtain ⟨ob, hob, hc⟩ := fl5.there
      rw [← hc]; exact (PySem.W.Looks.ld hob).andThen .now
    have KX : K.In h5 := by
      have z : c.X.K.In h5 := J5.kIn
      rw [c.eK] at z; exact z
    refine (PySem.W.exm_one KX LT hex).at ?_
    refine codeAny_handlers_suite_as ?_
    refine lands_againW fl5 fun h6 fl6 up6 => ?_
    have fl6s : Heap.FlyingW B c.X.stack a (.ref C) (.ref t) h6 := by rw [c.top.1]; exact fl6
    have J6 : Inv c.X (pins ++ pins') σ1 (upd H' a (.ext (excP a C))) { s' with heap := h6 } := inv_caught J1 c.top (c.cb _ _ _ _ J1) os bare un hok new free fl6s cov tr (up5.trans up6)
    have hNd : c.X.N.Nodup := by rw [c.eN]; exact c.nd
    have hNi' : c.X.N[i]? = some n := by rw [c.eN]; exact hNi.get
    have hNj' : c.X.N[j]? = some y := by rw [c.eN]; exact hNj.get
    have hln : c.X.env.scope.names.lookup n = some .local := by rw [c.esc]; exact hl
    refine store_ok J6 hNd hNi' (.inl hln) (show RelV (.ref a) (.ref a) from rfl) (fun s7 J7 => ?_) (c.fn n)
    -- the suite: y = n
    have hiσ : i < σ1.length := by rw [J6.len]; exact (List.getElem?_eq_some_iff.mp hNi').1
    refine wpAny_execs_cons ?_
    have hj0 : (σ1.set i (some (.ref a)))[i]? = some (some (.ref a)) := List.getElem?_set_self hiσ
    refine wpAny_Assign_Name (var_A (v := .ref a) J7 hNi' (by rw [c.esc]; exact .inl hl) hj0 (fun u ru => ?_) hdn hcn) (hs _)
    refine store_ok J7 hNd hNj' (by rw [c.esc]; exact c.vis y hNj.mem) ru (fun s8 J8 => ?_) (c.fn y)
    refine wpAny_execs_nil ?_
    refine goes_ok J8 hNd hNi' hln fun s9 J9 => ?_
    refine ⟨_, _, drop J9, o.nx _ _ (upd Hf1 a (.ext (excP a C))) ρ3 ?_ hnx⟩
    have g1 : Grw H1 Hf1 (upd H' a (.ext (excP a C))) (upd Hf1 a (.ext (excP a C))) := grw_exc S1.sb sm free
    have re : RepS c.X.K (fun p => H1 p = none) (upd H' a (.ext (excP a C))) (upd Hf1 a (.ext (excP a C))) (.va (.exc C)) (.ref a) := (rep_exc (K := c.X.K)).mpr ⟨a, rfl, upd_same⟩
    have T1 := S1.set (i := i) g1 re
    have re2 : RepS c.X.K (fun p => (upd H' a (.ext (excP a C))) p = none) (upd H' a (.ext (excP a C))) (upd Hf1 a (.ext (excP a C))) (.va (.exc C)) (.ref a) := (rep_exc (K := c.X.K)).mpr ⟨a, rfl, upd_same⟩
    have T2 := T1.set (i := j) (.refl T1.sb) re2
    have hi3 := hs2
    have e1 := hs1.eq
    have e2 := hs2.eq
    have T3 : StR c.X.K c.X.H₀ c.Hf _ _ _ ((ρ1.set i (.va (.exc C))).set j (.va (.exc C)) |>.set i .un) := T2.gone'
    have e3 : ((ρ1.set i (.va (.exc C))).set j (.va (.exc C)) |>.set i .un) = ρ3 := by
      rw [e2, e1, List.set_comm _ _ hij, List.set_set]
    rw [← e3]; exact T3
  let c' : Ctx P w K mg base k N sc := { X := X', eP := c.eP, ew := c.ew, eK := c.eK, emg := c.emg, eb := c.eb, eN := c.eN, esc := c.esc, calm := c.calm, top := c.top, cb := fun pins' σ' H' s' I => c.cb (pins ++ pins') σ' H' s' (toX I), fn := c.fn, room := c.room, nd := c.nd, vis := c.vis, Hf := c.Hf, RX := HandY K Ch i j nx, RM := fun _ _ => False, exc := fun C a pins' σ1 H1 Hf1 ρ1 s1 H' s' I1 S1 R1 E1 sm => hx C a pins' σ1 H1 Hf1 ρ1 s1 H' s' I1 S1 R1 E1 sm, mde := fun _ _ _ _ _ _ _ _ _ _ _ _ h _ => h.elim }
  have hbd : bSs X' body D σ H := hb c' (fun _ _ h => h) σ H Hf D S ⟨o.nx, o.rt, o.bk, o.ct⟩
  refine wpAny_Try_except (wpAny_mono (pbSs (X := X') [] s σ H D I' hbd) (fun f s1 q => ?_) fun e s1 q => q)
  cases f with
  | next =>
    obtain ⟨σ', H', I1, q⟩ := q
    exact wpAny_execs_nil ⟨σ', H', drop (toX I1), q⟩
  | brk => obtain ⟨σ', H', I1, q⟩ := q; exact ⟨σ', H', drop (toX I1), q⟩
  | cont => obtain ⟨σ', H', I1, q⟩ := q; exact ⟨σ', H', drop (toX I1), q⟩
  | ret u => obtain ⟨v, σ', H', I1, r, q⟩ := q; exact ⟨v, σ', H', drop (toX I1), r, q⟩
end
end EV

set_option Elab.async false
set_option linter.all false
set_option maxRecDepth 100000
namespace EV
open PySem PySem.Spec PySem.Calls PyProof.Rows L2

/-! ## what is told and never changed: frozen at once -/
section
variable {P : Program} {w : World} {K : PySem.W.Frag} {mg : Str → Option Value} {base : Heap} {k : Nat} {N : List Str} {sc : Scope} {c : Ctx P w K mg base k N sc} {ρ : List Sl} {pos : Pos} {a b e : Expr} {es : List Expr} {R : D → Prop} {T : Bool → Prop}
theorem fz_va {d : D} (h : R d) : FzP R (.va d) := ⟨d, rfl, h⟩
theorem fz_ow {ds : List D} (h : R (.lst ds)) : FzP R (.ow ds) := ⟨.lst ds, rfl, h⟩
theorem e_addA (h : EvE c a ρ fun x => EvE c b ρ fun y => AddP x y (FzP R)) : EvE c (.BinOp a .Add b pos) ρ R := e_x (x_add h)
theorem EvA.imp {R R' : List D → Prop} (h : EvA c es ρ R) (hi : ∀ d, R d → R' d) : EvA c es ρ R' := fun σ H Hf Q S q => h σ H Hf Q S fun d v H' Hf' rd => q d v H' Hf' (hi d rd)
theorem e_lstA (h : EvA c es ρ fun ds => Sd (ds.length ≤ sizeLine) (R (.lst ds))) : EvE c (.List es pos) ρ R := e_x (x_lst (h.imp fun ds hd => ⟨hd.s, fz_ow hd.r⟩))
theorem e_sliceA {lo hi : Option Expr} {p2 : Pos} (h : EvE c e ρ fun x => EvP c lo ρ fun l => EvP c hi ρ fun u => SlP x l u (FzP R)) : EvE c (.Subscript e (.Slice lo hi none p2) pos) ρ R := e_x (x_slice h)
theorem addp_int {i j : Int} {R : Sl → Prop} (h : R (.va (.int (i + j)))) : AddP (.int i) (.int j) R := .int h
theorem addp_lst {ds es : List D} {R : Sl → Prop} (h : Sd (ds.length + es.length ≤ sizeLine) (R (.ow (ds ++ es)))) : AddP (.lst ds) (.lst es) R := .lst h
theorem addp_tup {ds es : List D} {R : Sl → Prop} (h : Sd (ds.length + es.length ≤ sizeLine) (R (.va (.tup (ds ++ es))))) : AddP (.tup ds) (.tup es) R := .tup h
theorem isd {d : D} {t cv : Value} {b : Bool} (ty : TyD K d t) (e : PySem.W.kitOne K t cv = some b) (h : R (.bl b)) : ∃ t b, TyD K d t ∧ PySem.W.kitOne K t cv = some b ∧ R (.bl b) := ⟨t, b, ty, e, h⟩
theorem e_ixA (h : EvE c a ρ fun x => EvE c b ρ fun y => IxP x y R) (hs : PlainIx b := by with_unfolding_all exact fun _ _ => rfl) : EvE c (.Subscript a b pos) ρ R := e_ix h hs
theorem rowX {x : D} {ds : List D} {Q : List D → Prop} (e : x.row = some ds) (h : Q ds) : ∃ ys, x.row = some ys ∧ Q ys := ⟨ds, e, h⟩
theorem rs_ok {F : Fn} {ds : List D} {sl : Sl} {R : Sl → Prop} (h : F ds (.ok sl)) (r : R sl) : ∃ r, F ds r ∧ RsP c ρ R r := ⟨_, h, r⟩
theorem rs_ex {F : Fn} {ds : List D} {C : Addr} {R : Sl → Prop} (h : F ds (.ex C)) (r : c.RX C ρ) : ∃ r, F ds r ∧ RsP c ρ R r := ⟨_, h, r⟩
end
end EV

set_option Elab.async false
set_option linter.all false
set_option maxRecDepth 100000
namespace EV
open PySem PySem.Spec PySem.Calls PyProof.Rows L2

/-! ## [x == y for x in row], x and y texts -/
section
theorem un_laidN {fs ex : List Addr} {H : Hp} {h h' : Heap} {a : Addr} {o : HO} (k : ∀ b u, h.get? b = some u → h'.get? b = some u) (hp : h.get? a = none) (hn : H a = none) : Un fs ex H (upd H a o) h h' where
  keep := fun b u q _ _ _ => k b u q
  slot := fun b u q _ _ _ => ⟨u.slots, k b u q⟩
  free := fun b u q n _ => by rw [upd_ne (fun z => by subst z; rw [hp] at q; cases q)]; exact n
  there := fun b u q _ => ⟨u, k b u q⟩
  tups := fun b xs q => by rw [upd_ne (ne_of_none q hn)]; exact q
  frzs := fun b u xs q => by rw [upd_ne (ne_of_none q hn)]; exact q
  tbls := fun b ps q => ⟨#[], by rw [upd_ne (ne_of_none q hn), q]; simp⟩
theorem hok_laidN {P : Program} {w : World} {H : Hp} {h h' : Heap} {a : Addr} {o : HO} (x : HOk P w H h) (k : ∀ b u, h.get? b = some u → h'.get? b = some u) (hn : H a = none) (new : ObjOk P w (upd H a o) h' a o) : HOk P w (upd H a o) h' := fun b u e => by
  by_cases hb : b = a
  · subst hb; rw [upd_same] at e; cases e; exact new
  · rw [upd_ne hb] at e
    exact (x b u e).stay (fun c v _ q => k c v q) (fun c q => by rw [upd_ne (ne_of_none q hn)]; exact q) fun c xs q => by rw [upd_ne (ne_of_none q hn)]; exact q
theorem hok_none {P : Program} {w : World} {H : Hp} {h : Heap} {a : Addr} (x : HOk P w H h) (e : h.get? a = none) : H a = none := by
  cases q : H a with
  | none => rfl
  | some u => obtain ⟨o, z⟩ := obj_ex (x a u q); rw [e] at z; cases z
theorem inv_laidN {X : Cx} {pins : List (Addr × Obj)} {σ : L2.St} {H : Hp} {s : Shared} {h' : Heap} {a : Addr} {o : HO} {t' : Nat} (I : Inv X pins σ H s) (k : ∀ b u, s.heap.get? b = some u → h'.get? b = some u) (hp : s.heap.get? a = none) (new : ObjOk X.prog X.w (upd H a o) h' a o) :
    Inv X pins σ (upd H a o) { s with heap := h', toks := t' } := I.un (un_laidN k hp (hok_none I.hok hp)) (hok_laidN I.hok k (hok_none I.hok hp) new)
theorem reps_strs {K : PySem.W.Frag} {H : Hp} : ∀ {ss : List Str} {xs : List V}, Reps K H (ss.map D.str) xs → xs = ss.map V.str
  | [], xs, h => reps_nil.mp h
  | s :: ss, xs, h => by
    obtain ⟨x, r, rfl, h1, h2⟩ := reps_cons.mp h
    rw [rep_str.mp h1, reps_strs h2]; rfl
theorem reps_bls {K : PySem.W.Frag} {H : Hp} : ∀ (bs : List Bool), Reps K H (bs.map D.bl) (bs.map V.bl)
  | [] => reps_nil.mpr rfl
  | b :: bs => .cons (rep_bl.mpr rfl) (reps_bls bs)
def FEq (t : Str) (v y : Value) : Prop := ∃ z k, v = .str z k ∧ y = .bool (z == t)
theorem vals_eqs {t : Str} : ∀ {ss : List Str} {us ys : List Value}, Vals (ss.map V.str) us → Paired (FEq t) us ys → Vals ((ss.map fun z => z == t).map V.bl) ys
  | [], _, _, h, g => by cases h; cases g; exact .nil
  | s :: ss, _, _, h, g => by
    cases h with
    | cons r h =>
      cases g with
      | cons f g =>
        obtain ⟨z, k, rfl, rfl⟩ := f
        obtain ⟨_, r⟩ := r
        cases r
        exact .cons (show RelV (.bl _) _ from rfl) (vals_eqs h g)
variable {P : Program} {w : World} {K : PySem.W.Frag} {mg : Str → Option Value} {base : Heap} {k : Nat} {N : List Str} {sc : Scope} {c : Ctx P w K mg base k N sc} {ρ : List Sl} {pos : Pos} {iter : Expr} {R : D → Prop}
theorem e_compEq {x y z0 : Str} {px px2 py p1 : Pos} {scope : Scope} {iy : Nat} {t : Str} (hNy : At N iy y) (hsy : At ρ iy (.va (.str t)))
    (h : EvE c iter ρ fun d => ∃ ss : List Str, d = .lst (ss.map D.str) ∧ R (.lst ((ss.map fun z => z == t).map D.bl)))
    (hn : scope.names = [(z0, .local), (x, .local), (y, .free)] := by with_unfolding_all rfl) (hk : scope.kind = .function := by with_unfolding_all rfl) (hsk : sc.kind = .function := by with_unfolding_all rfl)
    (hyc : sc.names.lookup y = some .cell := by with_unfolding_all rfl) (hxz : (x == z0) = false := by decide +kernel) (hyz : (y == z0) = false := by decide +kernel) (hyx : (y == x) = false := by decide +kernel)
    (hs : ∀ env v, foldedSetIterable iter env v = pure v := by intro _ _; with_unfolding_all rfl) (hm : behindInMarks CmpOp.Eq (.Name y py) = false := by with_unfolding_all rfl)
    (hdx : (x == ("__debug__" : Str)) = false := by decide +kernel) (hdy : (y == ("__debug__" : Str)) = false := by decide +kernel) :
    EvE c (.ListComp (.Compare (.Name x px) [.Eq] [.Name y py] p1) [⟨.Name x px2, iter, [], 0⟩] scope pos) ρ R := fun σ H Hf Q S q pins s I => by
  obtain ⟨v, ev, rv⟩ := S.va hsy.get
  rw [rep_str] at rv
  subst rv
  have hNy' : c.X.N[iy]? = some y := by rw [c.eN]; exact hNy.get
  have hyc' : c.X.env.kindOf y = some .cell := by unfold Env.kindOf; rw [c.esc]; exact hyc
  have hcell : ∀ {H' : Hp} {s' : Shared}, Inv c.X pins σ H' s' → ∃ cy tk, c.X.env.cells.lookup y = some cy ∧ s'.heap.IsCell cy (some (.str t tk)) := fun {H' s'} I' => by
    obtain ⟨m, _, hl⟩ := I'.loc
    obtain ⟨u, ⟨tk, r⟩, lk⟩ := hl iy y (.str t) hNy' ev (.inr (.inl hyc'))
    subst r
    rcases lk with ⟨k1, _⟩ | ⟨_, cy, e1, e2⟩
    · rw [hyc'] at k1; cases k1
    · exact ⟨cy, _, e1, e2⟩
  obtain ⟨cy, tk, hcl, _⟩ := hcell I
  have hclos : closureFor scope c.X.env = pure [(y, cy)] := by
    simp only [closureFor, hn, List.forIn_cons, List.forIn_nil]
    simp [cellOf, hcl]
  refine wpAny_ListComp_free (cl := [(y, cy)]) (fun _ => true) (FEq t) hclos (by rw [hn]; simp) hk (by rw [hn]; simp [List.lookup_cons, hxz]) (by rw [hn]; simp [List.lookup_cons, hxz]) (h σ H Hf (fun v H1 => ∃ Hf1 d, (∃ ss : List Str, d = .lst (ss.map D.str) ∧ R (.lst ((ss.map fun z => z == t).map D.bl))) ∧ Rep c.X.K Hf1 d v ∧ Grw H Hf H1 Hf1) S (fun d v H' Hf' hR r g => ⟨Hf', d, hR, r, g⟩) pins s I |> (thn · fun xv s1 ⟨v, H1, I1, rv, q1⟩ => ?_)) (hs _)
  obtain ⟨Hf1, d, ⟨ss, rfl, hR⟩, rd, g⟩ := q1
  rw [rep_lst] at rd
  obtain ⟨l, xs, rfl, hq, hr⟩ := rd
  cases rv
  obtain ⟨its, rvs, pl, hz⟩ := I1.list (g.b.seq hq)
  have hxs := reps_strs hr
  subst hxs
  have hh : c.X.A.handled = none := I1.ok.hd c.calm
  have hl := pl.isList
  have hlt : l < s1.heap.objs.size := by obtain ⟨_, e, _⟩ := hl; exact Heap.lt_size e
  refine wpAny_pyIter_list hl ?_
  refine ⟨s1.heap.objs.size, [s1.heap.objs.size, l], [s1.heap.objs.size], its.toArray.size, _, _, rfl, Walks.list hh s1.heap.objs.size l (Nat.ne_of_lt hlt) its.toArray, by rw [List.size_toArray, ← rvs.length]; exact hz, ⟨⟨_, Heap.get?_push_size _ rfl, rfl, rfl⟩, hl.push _⟩, fun b hb => ?_, ⟨fun C i v s₃ m₃ E' hC hP hns hmx hkp htk => ?_, fun C i v s₃ m₃ E' hC hP _ hns hmx hkp htk => ?_⟩, fun D h' tk ys vs hD hlD hplD hlen hP hF hkp => ?_⟩
  · show b < (s1.heap.push _).objs.size
    rw [Heap.size_push]
    rcases List.mem_cons.mp hb with rfl | hb
    · exact Nat.lt_succ_self _
    · rw [List.mem_singleton.mp hb]; exact Nat.lt_succ_of_lt hlt
  · exact wpAny_pure ⟨rfl, s₃.heap, s₃.toks, rfl, fun _ _ e => e⟩
  · -- x == y
    have hP : its.toArray[i]? = some v := hP
    obtain ⟨z, kz, rfl⟩ : ∃ z kz, v = Value.str z kz := by
      rw [List.getElem?_toArray] at hP
      have hlen := rvs.length
      have hi : i < its.length := (List.getElem?_eq_some_iff.mp hP).1
      have e : (ss.map V.str)[i]? = some (V.str (ss[i]'(by simpa using (show i < (ss.map V.str).length by omega)))) := by simp
      obtain ⟨u, e2, r⟩ := rvs.get e
      rw [hP] at e2; cases e2
      obtain ⟨k, r⟩ := r
      exact ⟨_, k, r⟩
    obtain ⟨cy1, tk1, e1, hc1⟩ := hcell I1
    rw [hcl] at e1; cases e1
    have hc3 : s₃.heap.IsCell cy (some (.str t tk1)) := by
      obtain ⟨o, eo, ed⟩ := hc1
      have lo : cy < s1.heap.objs.size := Heap.lt_size eo
      exact ⟨o, hkp cy o (fun z => by rw [List.mem_singleton] at z; subst z; exact absurd lo (Nat.lt_irrefl _)) (Heap.get?_push_of_some _ eo), ed⟩
    have hkx : (compEnvC scope [(y, cy)] C c.X.env).kindOf x = some .local := by
      show List.lookup x (relabel scope c.X.env).names = _
      exact lookup_relabel_local (by rw [hn]; simp [List.lookup_cons, hxz])
    have hky : (compEnvC scope [(y, cy)] C c.X.env).kindOf y = some .cell := by
      show List.lookup y (relabel scope c.X.env).names = _
      have hfk : c.X.env.scope.kind = .function := by rw [c.esc]; exact hsk
      simp [relabel, hn, hyc', hfk, List.lookup_cons, hyz, hyx]
    have hkd : (compEnvC scope [(y, cy)] C c.X.env).scope.kind = .function := by show scope.kind = _; exact hk
    refine wpAny_Compare1 (wpAny_Name (wpAny_loadName_local hkd hkx hns hmx ?_) hdx) hm
    refine wpAny_Name (wpAny_loadName_cell hkd hky (by show List.lookup y [(y, cy)] = _; simp) hc3 ?_) hdy
    exact PyProof.Rows.eq_str ⟨⟨z, kz, rfl, rfl⟩, s₃.heap, s₃.toks, rfl, fun _ _ e => e⟩
  · -- the list told
    have hvs : vs = its := by
      refine List.ext_getElem? fun j => ?_
      by_cases hj : j < vs.length
      · have e1 : vs[j]? = some vs[j] := by simp [hj]
        have e2 : its.toArray[j]? = some vs[j] := hP j _ e1
        rw [List.getElem?_toArray] at e2
        rw [e1, e2]
      · rw [List.getElem?_eq_none (by omega), List.getElem?_eq_none (by rw [List.size_toArray] at hlen; omega)]
    subst hvs
    have hF' : Paired (FEq t) vs ys.toList := by
      have e : vs.filter (fun _ => true) = vs := List.filter_eq_self.mpr fun _ _ => rfl
      rw [e] at hF; exact hF
    have hy := vals_eqs rvs hF'
    have hnone : s1.heap.get? D = none := by
      cases e : s1.heap.get? D with
      | none => rfl
      | some o => rw [Heap.get?_push_of_some _ e] at hD; cases hD
    have k : ∀ b u, s1.heap.get? b = some u → h'.get? b = some u := fun b u e => hkp b u (fun z => by rw [List.mem_singleton] at z; subst z; exact absurd (Heap.lt_size e) (Nat.lt_irrefl _)) (Heap.get?_push_of_some _ e)
    have hHD := hok_none I1.hok hnone
    obtain ⟨nn, hpd⟩ := hplD
    have J : Inv c.X pins σ (upd H1 D (.lst ((ss.map fun z => z == t).map V.bl))) { s1 with heap := h', toks := tk } := inv_laidN (o := .lst ((ss.map fun z => z == t).map V.bl)) I1 k hnone ⟨by simpa using hz, ys.toList, nn, hy, by simpa using hpd⟩
    refine ⟨.ref D, _, J, rfl, ?_⟩
    have g2 := Grw.new (o := .lst ((ss.map fun z => z == t).map V.bl)) g.b hHD
    exact q _ _ _ _ hR (rep_lst.mpr ⟨D, _, rfl, .inl (.inl upd_same), reps_bls _⟩) (g.trans g2)
end
end EV

set_option Elab.async false
set_option linter.all false
set_option maxRecDepth 100000
namespace My
open PySem PySem.Spec PyProof.Rows L2 EV
local macro_rules | `(tactic| walk_at "side") => `(tactic| first | omega | assumption | exact sz_small (Nat.le_of_ble_eq_true rfl) | exact dv_small (by decide) (by decide +kernel) | (show CPow _ _; exact ⟨by decide, by decide, by decide +kernel⟩))
local macro_rules | `(tactic| walk_at "at") => `(tactic| with_reducible (repeat (first | exact At.z | apply At.s)))
local macro_rules | `(tactic| walk_at "sset") => `(tactic| with_reducible (repeat (first | exact SSet.z | apply SSet.s)))
local macro_rules | `(tactic| walk_at "evS") => `(tactic| first
  | with_reducible refine ss_cons ?_
  | with_reducible refine s_set (by walk_at "at") ?_
  | with_reducible refine s_ret_ow (by walk_at "at") (by walk_at "at") rfl ?_
  | with_reducible refine s_ret ?_
  | with_reducible refine s_retN ?_
  | with_reducible refine s_if ?_
  | with_reducible refine s_par (by walk_at "at") (by walk_at "at") (by decide) ?_
  | with_reducible refine s_addq (by walk_at "at") (by walk_at "at") ?_
  | with_reducible refine s_subq (by walk_at "at") (by walk_at "at") ?_
  | with_reducible refine s_asg ?_
  | with_reducible refine s_break ?_
  | with_reducible refine s_continue ?_
  | with_reducible refine s_pass ?_)
local macro_rules | `(tactic| walk_at "evE") => `(tactic| first
  | with_reducible refine e_var (by walk_at "at") (by walk_at "at") ?_
  | with_reducible refine e_int ?_
  | with_reducible refine e_bl ?_
  | with_reducible refine e_non ?_
  | with_reducible refine e_str ?_
  | with_reducible refine e_isN ?_
  | with_reducible refine e_notN ?_
  | with_reducible refine e_ixA ?_
  | with_reducible refine e_sub ?_
  | with_reducible refine e_mul ?_
  | with_reducible refine e_mod ?_
  | with_reducible refine e_fdiv ?_
  | with_reducible refine e_pow ?_
  | with_reducible refine e_neg ?_
  | with_reducible refine e_and ?_
  | with_reducible refine e_or ?_
  | with_reducible refine e_one ?_
  | with_reducible refine e_not ?_
  | with_reducible refine e_ifExp ?_
  | with_reducible refine e_lt ?_
  | with_reducible refine e_eq ?_
  | with_reducible refine e_ne ?_
  | with_reducible refine e_tup ?_
  | with_reducible refine e_abs (by assumption) ?_
  | with_reducible refine e_addA ?_
  | with_reducible refine e_lstA ?_
  | with_reducible refine e_sliceA ?_
  | with_reducible refine x_e ?_)
local macro_rules | `(tactic| walk_at "evT") => `(tactic| first
  | with_reducible refine t_ne ?_
  | with_reducible refine t_eq ?_
  | with_reducible refine t_lt ?_
  | with_reducible refine t_le ?_
  | with_reducible refine t_gt ?_
  | with_reducible refine t_ge ?_
  | with_reducible refine t_not ?_
  | with_reducible refine t_w (w_and ?_)
  | with_reducible refine t_w (w_or ?_)
  | with_reducible refine w_and ?_
  | with_reducible refine w_or ?_
  | with_reducible refine w_and1 ?_
  | with_reducible refine w_or1 ?_
  | with_reducible refine t_isN ?_
  | with_reducible refine t_notN ?_
  | with_reducible refine t_val ?_)
local macro_rules | `(tactic| walk_at "evL") => `(tactic| first
  | with_reducible refine nxt (by walk_at "sset") ?_
  | with_reducible refine Sd.mk (by walk_at "side") ?_
  | with_reducible refine Sd.mk ?_ ?_
  | with_reducible refine i2 ?_
  | with_reducible refine i1 ?_
  | with_reducible refine b1 ?_
  | with_reducible refine eqp_int ?_
  | with_reducible refine eqp_bl ?_
  | with_reducible refine eqp_str ?_
  | with_reducible refine if2_t ?_
  | with_reducible refine if2_f ?_
  | with_reducible refine if2_not ?_
  | with_reducible refine if2_dec (fun h => ?_) (fun h => ?_)
  | with_reducible refine if2 (fun h => ?_) (fun h => ?_)
  | with_reducible refine a_cons ?_
  | with_reducible refine a_nil ?_
  | with_reducible refine ss_nil ?_
  | with_reducible refine addp_int ?_
  | with_reducible refine addp_lst ?_
  | with_reducible refine addp_tup ?_
  | with_reducible refine fz_va ?_
  | with_reducible refine fz_ow ?_
  | with_reducible refine isn_t ?_
  | with_reducible refine isn_f (by intro q; cases q) ?_
  | refine rowX (by rfl) ?_
  | refine ixp_t (by rfl) ?_
  | refine ixp_l (by rfl) ?_)
local macro_rules | `(tactic| walk_at "ev1") => `(tactic| first | walk_at "evL" | walk_at "evS" | walk_at "evE" | walk_at "evT")
local macro_rules | `(tactic| walk_at "ev") => `(tactic| repeat' (walk_at "ev1"))

abbrev top (i : Nat) : Stmt := PySem.Challenge.pw_everydraw_k02_fractions_reckoned.main.body.getD i (.Pass ⟨0, 0, 0, 0⟩)
section
variable {P : Program} {w : World} {K : PySem.W.Frag} {mg : Str → Option Value} {base : Heap}
theorem gcd_step (x y : Int) : Int.gcd y (x % y) = Int.gcd x y := by
  have h : Int.gcd y (y * (x / y) + x % y) = Int.gcd y (x % y) := by simp
  rw [Int.mul_ediv_add_emod] at h
  rw [← h, Int.gcd_comm]
theorem log_small {j : Int} {n : Nat} (h : j.natAbs < 10 ^ n) (hn : n ≤ 2000) : j.natAbs.log2 < 9000 := by
  by_cases z : j.natAbs = 0
  · rw [z]; decide
  · refine (Nat.log2_lt z).mpr (Nat.lt_of_lt_of_le h ?_)
    calc 10 ^ n ≤ 10 ^ 2000 := Nat.pow_le_pow_right (by decide) hn
      _ ≤ 2 ^ 9000 := by decide +kernel
/-! what is known of the names -/
structure Txt (K : PySem.W.Frag) (mg : Str → Option Value) (C : Addr) : Prop where
  abs : mg (Str.ofString "abs") = none
  len : mg (Str.ofString "len") = none
  isin : mg (Str.ofString "isinstance") = none
  range : mg (Str.ofString "range") = none
  int : mg (Str.ofString "int") = none
  bool : mg (Str.ofString "bool") = none
  tuple : mg (Str.ofString "tuple") = none
  verr : mg (Str.ofString "ValueError") = none
  ii : PySem.W.kitOne K (.type "int") (.type "int") = some true
  ib : PySem.W.kitOne K (.type "int") (.type "bool") = some false
  tt : PySem.W.kitOne K (.type "tuple") (.type "tuple") = some true
  ev : PySem.W.kitOne K (.ref C) (.type "ValueError") = some true
  ex : ExK K C
theorem Txt.c_int {C : Addr} (T : Txt K mg C) : ClsName mg (Str.ofString "int") (.type "int") := .inr ⟨_, rfl, T.int, by decide +kernel, by decide +kernel⟩
theorem Txt.c_bool {C : Addr} (T : Txt K mg C) : ClsName mg (Str.ofString "bool") (.type "bool") := .inr ⟨_, rfl, T.bool, by decide +kernel, by decide +kernel⟩
theorem Txt.c_tuple {C : Addr} (T : Txt K mg C) : ClsName mg (Str.ofString "tuple") (.type "tuple") := .inr ⟨_, rfl, T.tuple, by decide +kernel, by decide +kernel⟩
theorem Txt.c_verr {C : Addr} (T : Txt K mg C) : ClsName mg (Str.ofString "ValueError") (.type "ValueError") := .inr ⟨_, rfl, T.verr, by decide +kernel, by decide +kernel⟩

def Fwhole : Fn := fun ds r => ∃ n : Int, ds = [.int n] ∧ r = .ok (.va (.bl true))
abbrev sWhole := top 27
theorem sc_whole : FnScope ["_law_found"] ["_law_found"] (defScope sWhole) := ⟨rfl, rfl, rfl, by decide +kernel, rfl, by decide +kernel, by decide +kernel⟩
theorem vi_whole : ∀ x ∈ (["_law_found"] : List Str), L2.Loc (defScope sWhole) x := by unfold L2.Loc; decide +kernel
theorem ok_whole {C f : Addr} {fd : FuncData} (Fu : Fun K "_law_whole" "_law_whole" sWhole f fd) (T : Txt K mg C) : FnOk P w K mg base (CXE P w) 1 f fd ["_law_found"] (spF K Fwhole) := by
  refine fn_q Fu sc_whole vi_whole (by rintro ds r ⟨a, rfl, _⟩; rfl) (by rintro ds r ⟨a, _, rfl⟩; exact ⟨_, rfl⟩) fun c hq ds sl hF => ?_
  obtain ⟨a, rfl, e⟩ := hF
  injection e with e
  subst e
  show EvSs c _ [.va (.int a)] _ _
  conv in (defBody _) => whnf
  walk_at "ev"
  with_reducible refine e_isin T.isin T.c_int ?_
  walk_at "ev"
  refine isd .int T.ii ?_
  walk_at "ev"
  with_reducible refine e_isin T.isin T.c_bool ?_
  walk_at "ev"
  refine isd .int T.ib ?_
  walk_at "ev"
  rfl

local macro_rules | `(tactic| walk_at "evE") => `(tactic| first
  | with_reducible refine e_isin (Txt.isin (by assumption)) (Txt.c_int (by assumption)) ?_
  | with_reducible refine e_isin (Txt.isin (by assumption)) (Txt.c_tuple (by assumption)) ?_
  | with_reducible refine e_len (Txt.len (by assumption)) ?_
  | with_reducible refine e_abs (Txt.abs (by assumption)) ?_)
local macro_rules | `(tactic| walk_at "evL") => `(tactic| first
  | with_reducible refine isd .int (Txt.ii (by assumption)) ?_
  | with_reducible refine isd .tup (Txt.tt (by assumption)) ?_)

/-! the law's own numbers -/
def numOf (n : Int) : Int := let h := n / 4 % 10 ^ 30; if n % 4 = 0 then h % 7 - 3 else if n % 4 = 1 then 0 - h else h
theorem numOf_small (n : Int) : (numOf n).natAbs < 10 ^ 30 := by
  unfold numOf
  have h1 := Int.emod_nonneg (n / 4) (b := 10 ^ 30) (by decide)
  have h2 := Int.emod_lt_of_pos (n / 4) (b := 10 ^ 30) (by decide)
  dsimp only
  split
  · omega
  · split <;> omega
def Fnum : Fn := fun ds r => ∃ n : Int, ds = [.int n] ∧ r = .ok (.va (.int (numOf n)))
abbrev sNum := top 30
theorem sc_num : FnScope ["_law_cell", "_law_number_here"] ["_law_cell"] (defScope sNum) := ⟨rfl, rfl, rfl, by decide +kernel, rfl, by decide +kernel, by decide +kernel⟩
theorem vi_num : ∀ x ∈ (["_law_cell", "_law_number_here"] : List Str), L2.Loc (defScope sNum) x := by unfold L2.Loc; decide +kernel
theorem ok_num {f : Addr} {fd : FuncData} (Fu : Fun K "_law_number" "_law_number" sNum f fd) : FnOk P w K mg base (CXE P w) 1 f fd ["_law_cell"] (spF K Fnum) := by
  refine fn_q Fu sc_num vi_num (by rintro ds r ⟨a, rfl, _⟩; rfl) (by rintro ds r ⟨a, _, rfl⟩; exact ⟨_, rfl⟩) fun c hq ds sl hF => ?_
  obtain ⟨a, rfl, e⟩ := hF
  injection e with e
  subst e
  show EvSs c _ [.va (.int a), .un] _ _
  conv in (defBody _) => whnf
  walk_at "ev"
  · exact ⟨by decide, by decide, by decide +kernel⟩
  all_goals simp_all [numOf]
/-! the fraction as the law reckons it -/
def gcdS (a b : Int) : Int := if b < 0 then 0 - (Int.gcd a b : Int) else Int.gcd a b
def fracD (a b : Int) : D := .tup [.int (a.fdiv (gcdS a b)), .int (b.fdiv (gcdS a b))]
theorem gcd_log {a b : Int} (h : b.natAbs < 10 ^ 1000) (hb : b ≠ 0) : (Int.gcd a b : Int).natAbs.log2 < 9000 := by
  refine log_small (n := 1000) ?_ (by decide)
  have : Int.gcd a b ≤ b.natAbs := Nat.le_of_dvd (by omega) (Int.gcd_dvd_natAbs_right a b)
  simp only [Int.natAbs_natCast]
  omega
section
local macro_rules | `(tactic| walk_at "evE") => `(tactic| with_reducible refine e_fdivF ?_)
def Ffr : Fn := fun ds r => ∃ a b : Int, b ≠ 0 ∧ b.natAbs < 10 ^ 1000 ∧ ds = [.int a, .int b] ∧ r = .ok (.va (fracD a b))
abbrev sFr := top 31
theorem sc_fr : FnScope ["_law_top", "_law_bottom", "_law_one", "_law_other"] ["_law_top", "_law_bottom"] (defScope sFr) := ⟨rfl, rfl, rfl, by decide +kernel, rfl, by decide +kernel, by decide +kernel⟩
theorem vi_fr : ∀ x ∈ (["_law_top", "_law_bottom", "_law_one", "_law_other"] : List Str), L2.Loc (defScope sFr) x := by unfold L2.Loc; decide +kernel
theorem ok_fr {C f : Addr} {fd : FuncData} (Fu : Fun K "_law_fraction" "_law_fraction" sFr f fd) (T : Txt K mg C) : FnOk P w K mg base (CXE P w) 1 f fd ["_law_top", "_law_bottom"] (spF K Ffr) := by
  refine fn_q Fu sc_fr vi_fr (by rintro ds r ⟨a, b, _, _, rfl, _⟩; rfl) (by rintro ds r ⟨a, b, _, _, _, rfl⟩; exact ⟨_, rfl⟩) fun c hq ds sl hF => ?_
  obtain ⟨a, b, hb, hs, rfl, e⟩ := hF
  injection e with e
  subst e
  show EvSs c _ [.va (.int a), .va (.int b), .un, .un] _ _
  conv in (defBody _) => whnf
  walk_at "ev"
  with_reducible refine s_while hq (fun m ρ' => ∃ x y : Int, 0 ≤ x ∧ 0 ≤ y ∧ m = y.toNat ∧ Int.gcd x y = Int.gcd a b ∧ ρ' = [.va (.int a), .va (.int b), .va (.int x), .va (.int y)]) (m₀ := b.natAbs) ?_ ?_
  · refine ⟨_, _, ?_, ?_, ?_, ?_, rfl⟩
    · split <;> omega
    · split <;> omega
    · split <;> omega
    · split <;> split <;> simp
  · rintro m ρ' ⟨x, y, hx, hy, rfl, hg, rfl⟩
    have hG := gcd_log (a := a) hs hb
    have hp : 0 < Int.gcd a b := Int.gcd_pos_of_ne_zero_right a hb
    have done : ¬0 < y → x = Int.gcd a b := fun h => by
      have : y = 0 := by omega
      subst this
      simp at hg
      omega
    walk_at "ev"
    · show ∃ _, _
      refine ⟨_, ?_, _, _, hy, ?_, rfl, ?_, rfl⟩
      · have := Int.emod_lt_of_pos x (b := y) (by omega); have := Int.emod_nonneg x (b := y) (by omega); omega
      · exact Int.emod_nonneg _ (by omega)
      · rw [← hg, gcd_step]
    · have e := done (by assumption)
      subst e
      exact ⟨by omega, by rw [show (0 - (Int.gcd a b : Int)).natAbs = (Int.gcd a b : Int).natAbs by omega]; exact hG⟩
    · have e := done (by assumption)
      subst e
      exact ⟨by omega, by rw [show (0 - (Int.gcd a b : Int)).natAbs = (Int.gcd a b : Int).natAbs by omega]; exact hG⟩
    · have e := done (by assumption)
      subst e
      show Sl.va _ = Sl.va _
      unfold fracD gcdS
      rw [if_pos (by assumption)]
    · have e := done (by assumption)
      subst e
      exact ⟨by omega, hG⟩
    · have e := done (by assumption)
      subst e
      exact ⟨by omega, hG⟩
    · have e := done (by assumption)
      subst e
      show Sl.va _ = Sl.va _
      unfold fracD gcdS
      rw [if_neg (by assumption)]
end
end
end My


set_option Elab.async false
set_option linter.all false
set_option maxRecDepth 100000
namespace My
open PySem PySem.Spec PyProof.Rows L2 EV
local macro_rules | `(tactic| walk_at "side") => `(tactic| first | omega | assumption | exact sz_small (Nat.le_of_ble_eq_true rfl) | exact dv_small (by decide) (by decide +kernel) | (show CPow _ _; exact ⟨by decide, by decide, by decide +kernel⟩))
local macro_rules | `(tactic| walk_at "at") => `(tactic| with_reducible (repeat (first | exact At.z | apply At.s)))
local macro_rules | `(tactic| walk_at "sset") => `(tactic| with_reducible (repeat (first | exact SSet.z | apply SSet.s)))
local macro_rules | `(tactic| walk_at "evS") => `(tactic| first
  | with_reducible refine ss_cons ?_
  | with_reducible refine s_set (by walk_at "at") ?_
  | with_reducible refine s_ret_ow (by walk_at "at") (by walk_at "at") rfl ?_
  | with_reducible refine s_ret ?_
  | with_reducible refine s_retN ?_
  | with_reducible refine s_if ?_
  | with_reducible refine s_par (by walk_at "at") (by walk_at "at") (by decide) ?_
  | with_reducible refine s_addq (by walk_at "at") (by walk_at "at") ?_
  | with_reducible refine s_subq (by walk_at "at") (by walk_at "at") ?_
  | with_reducible refine s_asg ?_
  | with_reducible refine s_break ?_
  | with_reducible refine s_continue ?_
  | with_reducible refine s_pass ?_)
local macro_rules | `(tactic| walk_at "evE") => `(tactic| first
  | with_reducible refine e_var (by walk_at "at") (by walk_at "at") ?_
  | with_reducible refine e_int ?_
  | with_reducible refine e_bl ?_
  | with_reducible refine e_non ?_
  | with_reducible refine e_str ?_
  | with_reducible refine e_isN ?_
  | with_reducible refine e_notN ?_
  | with_reducible refine e_ixA ?_
  | with_reducible refine e_sub ?_
  | with_reducible refine e_mul ?_
  | with_reducible refine e_mod ?_
  | with_reducible refine e_fdiv ?_
  | with_reducible refine e_pow ?_
  | with_reducible refine e_neg ?_
  | with_reducible refine e_and ?_
  | with_reducible refine e_or ?_
  | with_reducible refine e_one ?_
  | with_reducible refine e_not ?_
  | with_reducible refine e_ifExp ?_
  | with_reducible refine e_lt ?_
  | with_reducible refine e_eq ?_
  | with_reducible refine e_ne ?_
  | with_reducible refine e_tup ?_
  | with_reducible refine e_abs (by assumption) ?_
  | with_reducible refine e_addA ?_
  | with_reducible refine e_lstA ?_
  | with_reducible refine e_sliceA ?_
  | with_reducible refine x_e ?_)
local macro_rules | `(tactic| walk_at "evT") => `(tactic| first
  | with_reducible refine t_ne ?_
  | with_reducible refine t_eq ?_
  | with_reducible refine t_lt ?_
  | with_reducible refine t_le ?_
  | with_reducible refine t_gt ?_
  | with_reducible refine t_ge ?_
  | with_reducible refine t_not ?_
  | with_reducible refine t_w (w_and ?_)
  | with_reducible refine t_w (w_or ?_)
  | with_reducible refine w_and ?_
  | with_reducible refine w_or ?_
  | with_reducible refine w_and1 ?_
  | with_reducible refine w_or1 ?_
  | with_reducible refine t_isN ?_
  | with_reducible refine t_notN ?_
  | with_reducible refine t_val ?_)
local macro_rules | `(tactic| walk_at "evL") => `(tactic| first
  | with_reducible refine nxt (by walk_at "sset") ?_
  | with_reducible refine Sd.mk (by walk_at "side") ?_
  | with_reducible refine Sd.mk ?_ ?_
  | with_reducible refine i2 ?_
  | with_reducible refine i1 ?_
  | with_reducible refine b1 ?_
  | with_reducible refine eqp_int ?_
  | with_reducible refine eqp_bl ?_
  | with_reducible refine eqp_str ?_
  | with_reducible refine if2_t ?_
  | with_reducible refine if2_f ?_
  | with_reducible refine if2_not ?_
  | with_reducible refine if2_dec (fun h => ?_) (fun h => ?_)
  | with_reducible refine if2 (fun h => ?_) (fun h => ?_)
  | with_reducible refine a_cons ?_
  | with_reducible refine a_nil ?_
  | with_reducible refine ss_nil ?_
  | with_reducible refine addp_int ?_
  | with_reducible refine addp_lst ?_
  | with_reducible refine addp_tup ?_
  | with_reducible refine fz_va ?_
  | with_reducible refine fz_ow ?_
  | with_reducible refine isn_t ?_
  | with_reducible refine isn_f (by intro q; cases q) ?_
  | refine rowX (by rfl) ?_
  | refine ixp_t (by rfl) ?_
  | refine ixp_l (by rfl) ?_)
local macro_rules | `(tactic| walk_at "ev1") => `(tactic| first | walk_at "evL" | walk_at "evS" | walk_at "evE" | walk_at "evT")
local macro_rules | `(tactic| walk_at "ev") => `(tactic| repeat' (walk_at "ev1"))

section
variable {P : Program} {w : World} {K : PySem.W.Frag} {mg : Str → Option Value} {base : Heap}
local macro_rules | `(tactic| walk_at "evE") => `(tactic| first
  | with_reducible refine e_isin (Txt.isin (by assumption)) (Txt.c_int (by assumption)) ?_
  | with_reducible refine e_isin (Txt.isin (by assumption)) (Txt.c_tuple (by assumption)) ?_
  | with_reducible refine e_len (Txt.len (by assumption)) ?_
  | with_reducible refine e_abs (Txt.abs (by assumption)) ?_)
local macro_rules | `(tactic| walk_at "evL") => `(tactic| first
  | with_reducible refine isd .int (Txt.ii (by assumption)) ?_
  | with_reducible refine isd .tup (Txt.tt (by assumption)) ?_)
abbrev sSame := top 32
def Fsame : Fn := fun ds r => ∃ a b : Int, ds = [.tup [.int a, .int b], .tup [.int a, .int b]] ∧ r = .ok (.va (.bl true))
theorem sc_same : FnScope ["_law_found", "_law_due"] ["_law_found", "_law_due"] (defScope sSame) := ⟨rfl, rfl, rfl, by decide +kernel, rfl, by decide +kernel, by decide +kernel⟩
theorem vi_same : ∀ x ∈ (["_law_found", "_law_due"] : List Str), L2.Loc (defScope sSame) x := by unfold L2.Loc; decide +kernel
theorem eq_it2 (a b : Int) : EqIt [D.int a, D.int b] [D.int a, D.int b] := by
  intro i d e h1 h2
  rcases i with _ | _ | i
  · simp at h1 h2; subst h1 h2; exact .sc rfl
  · simp at h1 h2; subst h1 h2; exact .sc rfl
  · simp at h1
theorem f_whole (n : Int) : Fwhole [.int n] (.ok (.va (.bl true))) := ⟨n, rfl, rfl⟩
section
local macro_rules | `(tactic| walk_at "evE") => `(tactic| with_reducible refine e_call (F := Fwhole) (by assumption) (by decide) ?_)
local macro_rules | `(tactic| walk_at "evL") => `(tactic| with_reducible refine rs_ok (f_whole _) ?_)
local macro_rules | `(tactic| walk_at "evL") => `(tactic| refine eqp_tup (Sd.mk (eq_it2 _ _) ?_))
theorem ok_same {C f : Addr} {fd : FuncData} (Fu : Fun K "_law_same_fraction" "_law_same_fraction" sSame f fd) (T : Txt K mg C) (hw : Cal P w K mg base 1 (Str.ofString "_law_whole") Fwhole) : FnOk P w K mg base (CXE P w) 2 f fd ["_law_found", "_law_due"] (spF K Fsame) := by
  refine fn_q Fu sc_same vi_same (by rintro ds r ⟨a, b, rfl, _⟩; rfl) (by rintro ds r ⟨a, b, _, rfl⟩; exact ⟨_, rfl⟩) fun c hq ds sl hF => ?_
  obtain ⟨a, b, rfl, e⟩ := hF
  injection e with e
  subst e
  show EvSs c _ [.va (.tup [.int a, .int b]), .va (.tup [.int a, .int b])] _ _
  conv in (defBody _) => whnf
  walk_at "ev"
  · show Sl.va _ = Sl.va _
    simp
  · rename_i h; exact absurd rfl h
end

/-! common_divisor, fraction_of -/
def Fgcd : Fn := fun ds r => ∃ a b : Int, ds = [.int a, .int b] ∧ r = .ok (.va (.int (Int.gcd a b)))
theorem f_gcd (a b : Int) : Fgcd [.int a, .int b] (.ok (.va (.int (Int.gcd a b)))) := ⟨a, b, rfl, rfl⟩
abbrev sGcd := top 19
theorem sc_gcd : FnScope ["one", "other", "rest"] ["one", "other"] (defScope sGcd) := ⟨rfl, rfl, rfl, by decide +kernel, rfl, by decide +kernel, by decide +kernel⟩
theorem vi_gcd : ∀ x ∈ (["one", "other", "rest"] : List Str), L2.Loc (defScope sGcd) x := by unfold L2.Loc; decide +kernel
theorem ok_gcd {C f : Addr} {fd : FuncData} (Fu : Fun K "common_divisor" "common_divisor" sGcd f fd) (T : Txt K mg C) : FnOk P w K mg base (CXE P w) 1 f fd ["one", "other"] (spF K Fgcd) := by
  refine fn_q Fu sc_gcd vi_gcd (by rintro ds r ⟨a, b, rfl, _⟩; rfl) (by rintro ds r ⟨a, b, _, rfl⟩; exact ⟨_, rfl⟩) fun c hq ds sl hF => ?_
  obtain ⟨a, b, rfl, e⟩ := hF
  injection e with e
  subst e
  show EvSs c _ [.va (.int a), .va (.int b), .un] _ _
  conv in (defBody _) => whnf
  walk_at "ev"
  with_reducible refine s_while hq (fun m ρ' => ∃ (x y : Int) (s : Sl), 0 ≤ x ∧ 0 ≤ y ∧ m = y.toNat ∧ Int.gcd x y = Int.gcd a b ∧ ρ' = [.va (.int x), .va (.int y), s]) (m₀ := b.natAbs) ?_ ?_
  · refine ⟨_, _, _, ?_, ?_, ?_, ?_, rfl⟩
    · split <;> omega
    · split <;> omega
    · split <;> omega
    · split <;> split <;> simp
  · rintro m ρ' ⟨x, y, s, hx, hy, rfl, hg, rfl⟩
    walk_at "ev"
    · show Sl.va _ = Sl.va _
      subst_vars
      simp at hg ⊢
      omega
    · show ∃ _, _
      refine ⟨_, ?_, _, _, _, hy, ?_, rfl, ?_, rfl⟩
      · have := Int.emod_lt_of_pos x (b := y) (by omega); have := Int.emod_nonneg x (b := y) (by omega); omega
      · exact Int.emod_nonneg _ (by omega)
      · rw [← hg, gcd_step]
theorem frac_neg {a b : Int} (h : b < 0) : D.tup [.int ((-a) / (Int.gcd (-a) (-b))), .int ((-b) / (Int.gcd (-a) (-b)))] = fracD a b := by
  have hp : (0 : Int) < Int.gcd a b := by have := Int.gcd_pos_of_ne_zero_right a (show b ≠ 0 by omega); omega
  have key : ∀ x : Int, (Int.gcd a b : Int) ∣ x → (-x) / (Int.gcd a b : Int) = x.fdiv (0 - (Int.gcd a b : Int)) := fun x ⟨q, hq⟩ => by
    rw [hq, show (0 : Int) - (Int.gcd a b : Int) = -(Int.gcd a b : Int) by omega]
    rw [show -((Int.gcd a b : Int) * q) = (Int.gcd a b : Int) * (-q) by rw [Int.mul_neg], Int.mul_ediv_cancel_left _ (by omega)]
    rw [show (Int.gcd a b : Int) * q = (-q) * (-(Int.gcd a b : Int)) by rw [Int.neg_mul_neg, Int.mul_comm], Int.mul_fdiv_cancel _ (by omega)]
  unfold fracD gcdS
  rw [if_pos h]
  simp only [Int.gcd_neg, Int.neg_gcd]
  rw [key a (Int.gcd_dvd_left ..), key b (Int.gcd_dvd_right ..)]
theorem frac_pos {a b : Int} (h : 0 < b) : D.tup [.int (a / (Int.gcd a b)), .int (b / (Int.gcd a b))] = fracD a b := by
  unfold fracD gcdS
  rw [if_neg (by omega), Int.fdiv_eq_ediv_of_nonneg _ (by omega), Int.fdiv_eq_ediv_of_nonneg _ (by omega)]
def Fof (C : Addr) : Fn := fun ds r => ∃ a b : Int, b.natAbs < 10 ^ 1000 ∧ ds = [.int a, .int b] ∧ r = if b = 0 then .ex C else .ok (.va (fracD a b))
abbrev sOf := top 20
theorem sc_of : FnScope ["top", "bottom", "common"] ["top", "bottom"] (defScope sOf) := ⟨rfl, rfl, rfl, by decide +kernel, rfl, by decide +kernel, by decide +kernel⟩
theorem vi_of : ∀ x ∈ (["top", "bottom", "common"] : List Str), L2.Loc (defScope sOf) x := by unfold L2.Loc; decide +kernel
section
local macro_rules | `(tactic| walk_at "evE") => `(tactic| with_reducible refine e_call (F := Fgcd) (by assumption) (by decide) ?_)
local macro_rules | `(tactic| walk_at "evL") => `(tactic| with_reducible refine rs_ok (f_gcd _ _) ?_)
theorem ok_of {C f : Addr} {fd : FuncData} (Fu : Fun K "fraction_of" "fraction_of" sOf f fd) (T : Txt K mg C) (hC : mg (Str.ofString "NoBottom") = some (.ref C)) (hX : PySem.W.excIn K C vErr "ValueError.__new__" = true) (hg : Cal P w K mg base 1 (Str.ofString "common_divisor") Fgcd) : FnOk P w K mg base (CXE P w) 2 f fd ["top", "bottom"] (spF K (Fof C)) := by
  refine fn_x Fu sc_of vi_of (by rintro ds r ⟨a, b, _, rfl, _⟩; rfl) fun c ds r hF hRX hRM => ?_
  obtain ⟨a, b, hs, rfl, e⟩ := hF
  show EvSs c _ [.va (.int a), .va (.int b), .un] _ _
  conv in (defBody _) => whnf
  by_cases hb : b = 0
  · subst hb
    rw [if_pos rfl] at e
    walk_at "ev"
    · refine s_raise hC hX ?_
      walk_at "ev"
      exact hRM _ _ e
    all_goals exact absurd rfl (by assumption : ¬ (0 : Int) = 0)
  · rw [if_neg hb] at e
    have hG := gcd_log (a := a) hs hb
    have hp : 0 < Int.gcd a b := Int.gcd_pos_of_ne_zero_right a hb
    walk_at "ev"
    · exact absurd (by assumption : b = 0) hb
    · exact ⟨by simp only [Int.gcd_neg, Int.neg_gcd]; omega, by simp only [Int.gcd_neg, Int.neg_gcd]; exact hG⟩
    · exact ⟨by simp only [Int.gcd_neg, Int.neg_gcd]; omega, by simp only [Int.gcd_neg, Int.neg_gcd]; exact hG⟩
    · show _ = Res.ok (Sl.va _)
      rw [e, frac_neg (by assumption)]
    · exact ⟨by omega, hG⟩
    · exact ⟨by omega, hG⟩
    · show _ = Res.ok (Sl.va _)
      rw [e, frac_pos (by omega)]
end
end
end My


set_option Elab.async false
set_option linter.all false
set_option maxRecDepth 100000
set_option maxHeartbeats 0
namespace My
open PySem PySem.Spec PyProof.Rows L2 EV
local macro_rules | `(tactic| walk_at "side") => `(tactic| first | omega | assumption | exact sz_small (Nat.le_of_ble_eq_true rfl) | exact dv_small (by decide) (by decide +kernel) | (show CPow _ _; exact ⟨by decide, by decide, by decide +kernel⟩))
local macro_rules | `(tactic| walk_at "at") => `(tactic| with_reducible (repeat (first | exact At.z | apply At.s)))
local macro_rules | `(tactic| walk_at "sset") => `(tactic| with_reducible (repeat (first | exact SSet.z | apply SSet.s)))
local macro_rules | `(tactic| walk_at "evS") => `(tactic| first
  | with_reducible refine ss_cons ?_
  | with_reducible refine s_set (by walk_at "at") ?_
  | with_reducible refine s_ret_ow (by walk_at "at") (by walk_at "at") rfl ?_
  | with_reducible refine s_ret ?_
  | with_reducible refine s_retN ?_
  | with_reducible refine s_if ?_
  | with_reducible refine s_par (by walk_at "at") (by walk_at "at") (by decide) ?_
  | with_reducible refine s_addq (by walk_at "at") (by walk_at "at") ?_
  | with_reducible refine s_subq (by walk_at "at") (by walk_at "at") ?_
  | with_reducible refine s_asg ?_
  | with_reducible refine s_break ?_
  | with_reducible refine s_continue ?_
  | with_reducible refine s_pass ?_)
local macro_rules | `(tactic| walk_at "evE") => `(tactic| first
  | with_reducible refine e_var (by walk_at "at") (by walk_at "at") ?_
  | with_reducible refine e_int ?_
  | with_reducible refine e_bl ?_
  | with_reducible refine e_non ?_
  | with_reducible refine e_str ?_
  | with_reducible refine e_isN ?_
  | with_reducible refine e_notN ?_
  | with_reducible refine e_ixA ?_
  | with_reducible refine e_sub ?_
  | with_reducible refine e_mul ?_
  | with_reducible refine e_mod ?_
  | with_reducible refine e_fdiv ?_
  | with_reducible refine e_pow ?_
  | with_reducible refine e_neg ?_
  | with_reducible refine e_and ?_
  | with_reducible refine e_or ?_
  | with_reducible refine e_one ?_
  | with_reducible refine e_not ?_
  | with_reducible refine e_ifExp ?_
  | with_reducible refine e_lt ?_
  | with_reducible refine e_eq ?_
  | with_reducible refine e_ne ?_
  | with_reducible refine e_tup ?_
  | with_reducible refine e_abs (by assumption) ?_
  | with_reducible refine e_addA ?_
  | with_reducible refine e_lstA ?_
  | with_reducible refine e_sliceA ?_
  | with_reducible refine x_e ?_)
local macro_rules | `(tactic| walk_at "evT") => `(tactic| first
  | with_reducible refine t_ne ?_
  | with_reducible refine t_eq ?_
  | with_reducible refine t_lt ?_
  | with_reducible refine t_le ?_
  | with_reducible refine t_gt ?_
  | with_reducible refine t_ge ?_
  | with_reducible refine t_not ?_
  | with_reducible refine t_w (w_and ?_)
  | with_reducible refine t_w (w_or ?_)
  | with_reducible refine w_and ?_
  | with_reducible refine w_or ?_
  | with_reducible refine w_and1 ?_
  | with_reducible refine w_or1 ?_
  | with_reducible refine t_isN ?_
  | with_reducible refine t_notN ?_
  | with_reducible refine t_val ?_)
local macro_rules | `(tactic| walk_at "evL") => `(tactic| first
  | with_reducible refine nxt (by walk_at "sset") ?_
  | with_reducible refine Sd.mk (by walk_at "side") ?_
  | with_reducible refine Sd.mk ?_ ?_
  | with_reducible refine i2 ?_
  | with_reducible refine i1 ?_
  | with_reducible refine b1 ?_
  | with_reducible refine eqp_int ?_
  | with_reducible refine eqp_bl ?_
  | with_reducible refine eqp_str ?_
  | with_reducible refine if2_t ?_
  | with_reducible refine if2_f ?_
  | with_reducible refine if2_not ?_
  | with_reducible refine if2_dec (fun h => ?_) (fun h => ?_)
  | with_reducible refine if2 (fun h => ?_) (fun h => ?_)
  | with_reducible refine a_cons ?_
  | with_reducible refine a_nil ?_
  | with_reducible refine ss_nil ?_
  | with_reducible refine addp_int ?_
  | with_reducible refine addp_lst ?_
  | with_reducible refine addp_tup ?_
  | with_reducible refine fz_va ?_
  | with_reducible refine fz_ow ?_
  | with_reducible refine isn_t ?_
  | with_reducible refine isn_f (by intro q; cases q) ?_
  | refine rowX (by rfl) ?_
  | refine ixp_t (by rfl) ?_
  | refine ixp_l (by rfl) ?_)
local macro_rules | `(tactic| walk_at "ev1") => `(tactic| first | walk_at "evL" | walk_at "evS" | walk_at "evE" | walk_at "evT")
local macro_rules | `(tactic| walk_at "ev") => `(tactic| repeat' (walk_at "ev1"))

section
variable {P : Program} {w : World} {K : PySem.W.Frag} {mg : Str → Option Value} {base : Heap}
/-! the classes -/
def OtherC (K : PySem.W.Frag) (mg : Str → Option Value) (C : Addr) (x : Str) : Prop := ∃ E, mg x = some (.ref E) ∧ PySem.W.kitOne K (.ref C) (.ref E) = some false
structure Cls (K : PySem.W.Frag) (mg : Str → Option Value) (C : Addr) : Prop where
  self : mg (Str.ofString "NoBottom") = some (.ref C)
  it : PySem.W.kitOne K (.ref C) (.ref C) = some true
  k1 : OtherC K mg C (Str.ofString "BadPlace")
  k2 : OtherC K mg C (Str.ofString "BadSaying")
  k3 : OtherC K mg C (Str.ofString "TooMany")
  k4 : OtherC K mg C (Str.ofString "BadChain")
  k5 : OtherC K mg C (Str.ofString "NoName")
  k6 : OtherC K mg C (Str.ofString "BadName")
  k7 : OtherC K mg C (Str.ofString "NoLine")
  k8 : OtherC K mg C (Str.ofString "NoStep")
  k9 : OtherC K mg C (Str.ofString "BadStep")
  k10 : OtherC K mg C (Str.ofString "BadThing")
  k11 : OtherC K mg C (Str.ofString "TooFree")
  k12 : OtherC K mg C (Str.ofString "TooDeep")
  k13 : OtherC K mg C (Str.ofString "BadKnown")
  k14 : OtherC K mg C (Str.ofString "CantMake")
  k15 : OtherC K mg C (Str.ofString "NoText")
section
variable {k : Nat} {N : List Str} {sc : Scope} {c : Ctx P w K mg base k N sc} {ρ : List Sl} {pos np cp : Pos} {e : Expr} {R : EV.D → Prop} {C : Addr}
theorem e_other {x : Str} (T : Txt K mg C) (o : OtherC K mg C x) (h : EvE c e ρ fun d => d = .exc C ∧ R (.bl false))
    (hgi : sc.names.lookup (Str.ofString "isinstance") = some .globalImplicit := by with_unfolding_all rfl) (hgx : sc.names.lookup x = some .globalImplicit := by with_unfolding_all rfl) (hdx : (x == ("__debug__" : Str)) = false := by decide)
    (he : ∀ env, starEach [e, .Name x cp] env = (false, eval e env) :: starEach [.Name x cp] env := by intro _; with_unfolding_all rfl) (he2 : ∀ env, starEach [.Name x cp] env = [(false, eval (.Name x cp) env)] := by intro _; with_unfolding_all rfl)
    (hpl : ∀ env, (backTo pos (starEach [.Name x cp] env)).any (·.1) = false := by intro _; with_unfolding_all rfl) : EvE c (.Call (.Name (Str.ofString "isinstance") np) [e, .Name x cp] [] pos) ρ R := by
  obtain ⟨E, hm, hk⟩ := o
  exact e_isin T.isin (.inl ⟨E, rfl, hm⟩) (h.imp fun d ⟨e1, hR⟩ => by subst e1; exact isd (.exc T.ex) hk hR) hgi hgx hdx he he2 hpl
theorem e_self {x : Str} (T : Txt K mg C) (hm : mg x = some (.ref C)) (hk : PySem.W.kitOne K (.ref C) (.ref C) = some true) (h : EvE c e ρ fun d => d = .exc C ∧ R (.bl true))
    (hgi : sc.names.lookup (Str.ofString "isinstance") = some .globalImplicit := by with_unfolding_all rfl) (hgx : sc.names.lookup x = some .globalImplicit := by with_unfolding_all rfl) (hdx : (x == ("__debug__" : Str)) = false := by decide)
    (he : ∀ env, starEach [e, .Name x cp] env = (false, eval e env) :: starEach [.Name x cp] env := by intro _; with_unfolding_all rfl) (he2 : ∀ env, starEach [.Name x cp] env = [(false, eval (.Name x cp) env)] := by intro _; with_unfolding_all rfl)
    (hpl : ∀ env, (backTo pos (starEach [.Name x cp] env)).any (·.1) = false := by intro _; with_unfolding_all rfl) : EvE c (.Call (.Name (Str.ofString "isinstance") np) [e, .Name x cp] [] pos) ρ R :=
  e_isin T.isin (.inl ⟨C, rfl, hm⟩) (h.imp fun d ⟨e1, hR⟩ => by subst e1; exact isd (.exc T.ex) hk hR) hgi hgx hdx he he2 hpl
theorem exc_is {R : Prop} (h : R) : (EV.D.exc C = EV.D.exc C ∧ R) := ⟨rfl, h⟩
end
section
local macro_rules | `(tactic| walk_at "evE") => `(tactic| first
  | with_reducible refine e_self (by assumption) (Cls.self (by assumption)) (Cls.it (by assumption)) ?_
  | with_reducible refine e_other (by assumption) (Cls.k1 (by assumption)) ?_
  | with_reducible refine e_other (by assumption) (Cls.k2 (by assumption)) ?_
  | with_reducible refine e_other (by assumption) (Cls.k3 (by assumption)) ?_
  | with_reducible refine e_other (by assumption) (Cls.k4 (by assumption)) ?_
  | with_reducible refine e_other (by assumption) (Cls.k5 (by assumption)) ?_
  | with_reducible refine e_other (by assumption) (Cls.k6 (by assumption)) ?_
  | with_reducible refine e_other (by assumption) (Cls.k7 (by assumption)) ?_
  | with_reducible refine e_other (by assumption) (Cls.k8 (by assumption)) ?_
  | with_reducible refine e_other (by assumption) (Cls.k9 (by assumption)) ?_
  | with_reducible refine e_other (by assumption) (Cls.k10 (by assumption)) ?_
  | with_reducible refine e_other (by assumption) (Cls.k11 (by assumption)) ?_
  | with_reducible refine e_other (by assumption) (Cls.k12 (by assumption)) ?_
  | with_reducible refine e_other (by assumption) (Cls.k13 (by assumption)) ?_
  | with_reducible refine e_other (by assumption) (Cls.k14 (by assumption)) ?_
  | with_reducible refine e_other (by assumption) (Cls.k15 (by assumption)) ?_)
local macro_rules | `(tactic| walk_at "evL") => `(tactic| with_reducible refine exc_is ?_)
def flagsB : List Bool := [true, false, false, false, false, false, false, false, false, false, false, false, false, false, false, false]
def Fflags (C : Addr) : Fn := fun ds r => ds = [.exc C] ∧ r = .ok (.va (.lst (flagsB.map D.bl)))
theorem f_flags (C : Addr) : Fflags C [.exc C] (.ok (.va (.lst (flagsB.map D.bl)))) := ⟨rfl, rfl⟩
abbrev sFlags := top 28
theorem sc_flags : FnScope ["_law_caught", "_law_flags_here"] ["_law_caught"] (defScope sFlags) := ⟨rfl, rfl, rfl, by decide +kernel, rfl, by decide +kernel, by decide +kernel⟩
theorem vi_flags : ∀ x ∈ (["_law_caught", "_law_flags_here"] : List Str), L2.Loc (defScope sFlags) x := by unfold L2.Loc; decide +kernel
theorem ok_flags {C f : Addr} {fd : FuncData} (Fu : Fun K "_law_flags" "_law_flags" sFlags f fd) (T : Txt K mg C) (U : Cls K mg C) : FnOk P w K mg base (CXE P w) 1 f fd ["_law_caught"] (spF K (Fflags C)) := by
  refine fn_q Fu sc_flags vi_flags (by rintro ds r ⟨rfl, _⟩; rfl) (by rintro ds r ⟨_, rfl⟩; exact ⟨_, rfl⟩) fun c hq ds sl hF => ?_
  obtain ⟨rfl, e⟩ := hF
  injection e with e
  subst e
  show EvSs c _ [.va (.exc C), .un] _ _
  conv in (defBody _) => whnf
  walk_at "ev"
  rfl
end
theorem eq_itB (xs ys : List Bool) : EqIt (xs.map D.bl) (ys.map D.bl) := by
  intro i d e h1 h2
  simp only [List.getElem?_map, Option.map_eq_some_iff] at h1 h2
  obtain ⟨x, _, rfl⟩ := h1
  obtain ⟨y, _, rfl⟩ := h2
  exact .sc rfl
end
end My


set_option Elab.async false
set_option linter.all false
set_option maxRecDepth 100000
set_option maxHeartbeats 0
namespace My
open PySem PySem.Spec PyProof.Rows L2 EV
local macro_rules | `(tactic| walk_at "side") => `(tactic| first | omega | assumption | exact sz_small (Nat.le_of_ble_eq_true rfl) | exact dv_small (by decide) (by decide +kernel) | (show CPow _ _; exact ⟨by decide, by decide, by decide +kernel⟩))
local macro_rules | `(tactic| walk_at "at") => `(tactic| with_reducible (repeat (first | exact At.z | apply At.s)))
local macro_rules | `(tactic| walk_at "sset") => `(tactic| with_reducible (repeat (first | exact SSet.z | apply SSet.s)))
local macro_rules | `(tactic| walk_at "evS") => `(tactic| first
  | with_reducible refine ss_cons ?_
  | with_reducible refine s_set (by walk_at "at") ?_
  | with_reducible refine s_ret_ow (by walk_at "at") (by walk_at "at") rfl ?_
  | with_reducible refine s_ret ?_
  | with_reducible refine s_retN ?_
  | with_reducible refine s_if ?_
  | with_reducible refine s_par (by walk_at "at") (by walk_at "at") (by decide) ?_
  | with_reducible refine s_addq (by walk_at "at") (by walk_at "at") ?_
  | with_reducible refine s_subq (by walk_at "at") (by walk_at "at") ?_
  | with_reducible refine s_asg ?_
  | with_reducible refine s_break ?_
  | with_reducible refine s_continue ?_
  | with_reducible refine s_pass ?_)
local macro_rules | `(tactic| walk_at "evE") => `(tactic| first
  | with_reducible refine e_var (by walk_at "at") (by walk_at "at") ?_
  | with_reducible refine e_int ?_
  | with_reducible refine e_bl ?_
  | with_reducible refine e_non ?_
  | with_reducible refine e_str ?_
  | with_reducible refine e_isN ?_
  | with_reducible refine e_notN ?_
  | with_reducible refine e_ixA ?_
  | with_reducible refine e_sub ?_
  | with_reducible refine e_mul ?_
  | with_reducible refine e_mod ?_
  | with_reducible refine e_fdiv ?_
  | with_reducible refine e_pow ?_
  | with_reducible refine e_neg ?_
  | with_reducible refine e_and ?_
  | with_reducible refine e_or ?_
  | with_reducible refine e_one ?_
  | with_reducible refine e_not ?_
  | with_reducible refine e_ifExp ?_
  | with_reducible refine e_lt ?_
  | with_reducible refine e_eq ?_
  | with_reducible refine e_ne ?_
  | with_reducible refine e_tup ?_
  | with_reducible refine e_abs (by assumption) ?_
  | with_reducible refine e_addA ?_
  | with_reducible refine e_lstA ?_
  | with_reducible refine e_sliceA ?_
  | with_reducible refine x_e ?_)
local macro_rules | `(tactic| walk_at "evT") => `(tactic| first
  | with_reducible refine t_ne ?_
  | with_reducible refine t_eq ?_
  | with_reducible refine t_lt ?_
  | with_reducible refine t_le ?_
  | with_reducible refine t_gt ?_
  | with_reducible refine t_ge ?_
  | with_reducible refine t_not ?_
  | with_reducible refine t_w (w_and ?_)
  | with_reducible refine t_w (w_or ?_)
  | with_reducible refine w_and ?_
  | with_reducible refine w_or ?_
  | with_reducible refine w_and1 ?_
  | with_reducible refine w_or1 ?_
  | with_reducible refine t_isN ?_
  | with_reducible refine t_notN ?_
  | with_reducible refine t_val ?_)
local macro_rules | `(tactic| walk_at "evL") => `(tactic| first
  | with_reducible refine nxt (by walk_at "sset") ?_
  | with_reducible refine Sd.mk (by walk_at "side") ?_
  | with_reducible refine Sd.mk ?_ ?_
  | with_reducible refine i2 ?_
  | with_reducible refine i1 ?_
  | with_reducible refine b1 ?_
  | with_reducible refine eqp_int ?_
  | with_reducible refine eqp_bl ?_
  | with_reducible refine eqp_str ?_
  | with_reducible refine if2_t ?_
  | with_reducible refine if2_f ?_
  | with_reducible refine if2_not ?_
  | with_reducible refine if2_dec (fun h => ?_) (fun h => ?_)
  | with_reducible refine if2 (fun h => ?_) (fun h => ?_)
  | with_reducible refine a_cons ?_
  | with_reducible refine a_nil ?_
  | with_reducible refine ss_nil ?_
  | with_reducible refine addp_int ?_
  | with_reducible refine addp_lst ?_
  | with_reducible refine addp_tup ?_
  | with_reducible refine fz_va ?_
  | with_reducible refine fz_ow ?_
  | with_reducible refine isn_t ?_
  | with_reducible refine isn_f (by intro q; cases q) ?_
  | refine rowX (by rfl) ?_
  | refine ixp_t (by rfl) ?_
  | refine ixp_l (by rfl) ?_)
local macro_rules | `(tactic| walk_at "ev1") => `(tactic| first | walk_at "evL" | walk_at "evS" | walk_at "evE" | walk_at "evT")
local macro_rules | `(tactic| walk_at "ev") => `(tactic| repeat' (walk_at "ev1"))

section
variable {P : Program} {w : World} {K : PySem.W.Frag} {mg : Str → Option Value} {base : Heap}
def nb : Str := Str.ofString "NoBottom"
def Fonly (C : Addr) : Fn := fun ds r => ds = [.exc C, .str nb] ∧ r = .ok (.va (.bl true))
theorem f_only (C : Addr) : Fonly C [.exc C, .str nb] (.ok (.va (.bl true))) := ⟨rfl, rfl⟩
abbrev sOnly := top 29
def namesD : List Str := ["NoBottom", "BadPlace", "BadSaying", "TooMany", "BadChain", "NoName", "BadName", "NoLine", "NoStep", "BadStep", "BadThing", "TooFree", "TooDeep", "BadKnown", "CantMake", "NoText"].map Str.ofString
theorem names_eq : namesD.map (fun z => z == nb) = flagsB := by decide +kernel
theorem sc_only : FnScope ["_law_caught", "_law_name", "_law_names"] ["_law_caught", "_law_name"] (defScope sOnly) := ⟨rfl, rfl, rfl, by decide +kernel, rfl, by decide +kernel, by decide +kernel⟩
theorem vi_only : ∀ x ∈ (["_law_caught", "_law_name", "_law_names"] : List Str), L2.Loc (defScope sOnly) x := by unfold L2.Loc; decide +kernel
section
local macro_rules | `(tactic| walk_at "evE") => `(tactic| first
  | with_reducible refine e_call (F := Fflags _) (by assumption) (by decide) ?_
  | with_reducible refine e_isin (Txt.isin (by assumption)) (Txt.c_verr (by assumption)) ?_
  | with_reducible refine e_compEq (by walk_at "at") (by walk_at "at") ?_)
local macro_rules | `(tactic| walk_at "evL") => `(tactic| with_reducible refine rs_ok (f_flags _) ?_)
theorem ok_only {C f : Addr} {fd : FuncData} (Fu : Fun K "_law_only" "_law_only" sOnly f fd) (T : Txt K mg C) (U : Cls K mg C) (hfl : Cal P w K mg base 1 (Str.ofString "_law_flags") (Fflags C)) : FnOk P w K mg base (CXE P w) 2 f fd ["_law_caught", "_law_name"] (spF K (Fonly C)) := by
  refine fn_q Fu sc_only vi_only (by rintro ds r ⟨rfl, _⟩; rfl) (by rintro ds r ⟨_, rfl⟩; exact ⟨_, rfl⟩) fun c hq ds sl hF => ?_
  obtain ⟨rfl, e⟩ := hF
  injection e with e
  subst e
  show EvSs c _ [.va (.exc C), .va (.str nb), .un] _ _
  conv in (defBody _) => whnf
  walk_at "ev"
  refine isd (.exc T.ex) T.ev ?_
  walk_at "ev"
  refine ⟨namesD, rfl, ?_⟩
  rw [names_eq]
  refine eqp_lst ⟨eq_itB _ _, ?_⟩
  show Sl.va _ = Sl.va _
  simp
end
end
end My


set_option Elab.async false
set_option linter.all false
set_option maxRecDepth 100000
set_option maxHeartbeats 0
namespace My
open PySem PySem.Spec PyProof.Rows L2 EV
local macro_rules | `(tactic| walk_at "side") => `(tactic| first | omega | assumption | exact sz_small (Nat.le_of_ble_eq_true rfl) | exact dv_small (by decide) (by decide +kernel) | (show CPow _ _; exact ⟨by decide, by decide, by decide +kernel⟩))
local macro_rules | `(tactic| walk_at "at") => `(tactic| with_reducible (repeat (first | exact At.z | apply At.s)))
local macro_rules | `(tactic| walk_at "sset") => `(tactic| with_reducible (repeat (first | exact SSet.z | apply SSet.s)))
local macro_rules | `(tactic| walk_at "evS") => `(tactic| first
  | with_reducible refine ss_cons ?_
  | with_reducible refine s_set (by walk_at "at") ?_
  | with_reducible refine s_ret_ow (by walk_at "at") (by walk_at "at") rfl ?_
  | with_reducible refine s_ret ?_
  | with_reducible refine s_retN ?_
  | with_reducible refine s_if ?_
  | with_reducible refine s_par (by walk_at "at") (by walk_at "at") (by decide) ?_
  | with_reducible refine s_addq (by walk_at "at") (by walk_at "at") ?_
  | with_reducible refine s_subq (by walk_at "at") (by walk_at "at") ?_
  | with_reducible refine s_asg ?_
  | with_reducible refine s_break ?_
  | with_reducible refine s_continue ?_
  | with_reducible refine s_pass ?_)
local macro_rules | `(tactic| walk_at "evE") => `(tactic| first
  | with_reducible refine e_var (by walk_at "at") (by walk_at "at") ?_
  | with_reducible refine e_int ?_
  | with_reducible refine e_bl ?_
  | with_reducible refine e_non ?_
  | with_reducible refine e_str ?_
  | with_reducible refine e_isN ?_
  | with_reducible refine e_notN ?_
  | with_reducible refine e_ixA ?_
  | with_reducible refine e_sub ?_
  | with_reducible refine e_mul ?_
  | with_reducible refine e_mod ?_
  | with_reducible refine e_fdiv ?_
  | with_reducible refine e_pow ?_
  | with_reducible refine e_neg ?_
  | with_reducible refine e_and ?_
  | with_reducible refine e_or ?_
  | with_reducible refine e_one ?_
  | with_reducible refine e_not ?_
  | with_reducible refine e_ifExp ?_
  | with_reducible refine e_lt ?_
  | with_reducible refine e_eq ?_
  | with_reducible refine e_ne ?_
  | with_reducible refine e_tup ?_
  | with_reducible refine e_abs (by assumption) ?_
  | with_reducible refine e_addA ?_
  | with_reducible refine e_lstA ?_
  | with_reducible refine e_sliceA ?_
  | with_reducible refine x_e ?_)
local macro_rules | `(tactic| walk_at "evT") => `(tactic| first
  | with_reducible refine t_ne ?_
  | with_reducible refine t_eq ?_
  | with_reducible refine t_lt ?_
  | with_reducible refine t_le ?_
  | with_reducible refine t_gt ?_
  | with_reducible refine t_ge ?_
  | with_reducible refine t_not ?_
  | with_reducible refine t_w (w_and ?_)
  | with_reducible refine t_w (w_or ?_)
  | with_reducible refine w_and ?_
  | with_reducible refine w_or ?_
  | with_reducible refine w_and1 ?_
  | with_reducible refine w_or1 ?_
  | with_reducible refine t_isN ?_
  | with_reducible refine t_notN ?_
  | with_reducible refine t_val ?_)
local macro_rules | `(tactic| walk_at "evL") => `(tactic| first
  | with_reducible refine nxt (by walk_at "sset") ?_
  | with_reducible refine Sd.mk (by walk_at "side") ?_
  | with_reducible refine Sd.mk ?_ ?_
  | with_reducible refine i2 ?_
  | with_reducible refine i1 ?_
  | with_reducible refine b1 ?_
  | with_reducible refine eqp_int ?_
  | with_reducible refine eqp_bl ?_
  | with_reducible refine eqp_str ?_
  | with_reducible refine if2_t ?_
  | with_reducible refine if2_f ?_
  | with_reducible refine if2_not ?_
  | with_reducible refine if2_dec (fun h => ?_) (fun h => ?_)
  | with_reducible refine if2 (fun h => ?_) (fun h => ?_)
  | with_reducible refine a_cons ?_
  | with_reducible refine a_nil ?_
  | with_reducible refine ss_nil ?_
  | with_reducible refine addp_int ?_
  | with_reducible refine addp_lst ?_
  | with_reducible refine addp_tup ?_
  | with_reducible refine fz_va ?_
  | with_reducible refine fz_ow ?_
  | with_reducible refine isn_t ?_
  | with_reducible refine isn_f (by intro q; cases q) ?_
  | refine rowX (by rfl) ?_
  | refine ixp_t (by rfl) ?_
  | refine ixp_l (by rfl) ?_)
local macro_rules | `(tactic| walk_at "ev1") => `(tactic| first | walk_at "evL" | walk_at "evS" | walk_at "evE" | walk_at "evT")
local macro_rules | `(tactic| walk_at "ev") => `(tactic| repeat' (walk_at "ev1"))

section
variable {P : Program} {w : World} {K : PySem.W.Frag} {mg : Str → Option Value} {base : Heap}
def Sm (a : Int) : Prop := a.natAbs < 10 ^ 200
theorem bits_lt {a : Int} (h : a.natAbs < 10 ^ 1000) : Builtin.Int.intBits a ≤ 9001 := by
  unfold Builtin.Int.intBits
  by_cases z : a = 0
  · subst z; decide
  · have e : (a == 0) = false := by simpa using z
    rw [e, if_neg Bool.false_ne_true]
    have := log_small h (by decide)
    omega
theorem sm_big {a : Int} (h : Sm a) : a.natAbs < 10 ^ 1000 := Nat.lt_of_lt_of_le h (Nat.pow_le_pow_right (by decide) (by decide))
theorem mul_big {a b : Int} (h : Sm a) (g : Sm b) : MulOk a b := by
  have h1 := bits_lt (sm_big h)
  have h2 := bits_lt (sm_big g)
  unfold EV.MulOk IntMulOk Builtin.Int.intTooBig bitsLine
  have e : decide (((Builtin.Int.intBits a + Builtin.Int.intBits b : Nat) : Int) > ((2 ^ 27 : Nat) : Int)) = false := by
    apply decide_eq_false; omega
  simp only [Bool.and_eq_true]
  rintro ⟨_, z⟩
  have z' := of_decide_eq_true z
  omega
theorem prod_lt {a b : Int} (h : Sm a) (g : Sm b) : (a * b).natAbs < 10 ^ 400 := by
  rw [Int.natAbs_mul]
  calc a.natAbs * b.natAbs < 10 ^ 200 * 10 ^ 200 := Nat.mul_lt_mul'' h g
    _ = 10 ^ 400 := by rw [← Nat.pow_add]
theorem prod_big {a b : Int} (h : Sm a) (g : Sm b) : (a * b).natAbs < 10 ^ 1000 := Nat.lt_of_lt_of_le (prod_lt h g) (Nat.pow_le_pow_right (by decide) (by decide))
/-! the five -/
def FB (C : Addr) (f g : Int → Int → Int → Int → Int) : Fn := fun ds r => ∃ p q p' q' : Int, Sm p ∧ Sm q ∧ Sm p' ∧ Sm q' ∧ ds = [.tup [.int p, .int q], .tup [.int p', .int q']] ∧ r = if g p q p' q' = 0 then .ex C else .ok (.va (fracD (f p q p' q') (g p q p' q')))
def fSum (p q p' q' : Int) : Int := p * q' + p' * q
def fLess (p q p' q' : Int) : Int := p * q' - p' * q
def fTimes (p _q p' _q' : Int) : Int := p * p'
def gAll (_p q _p' q' : Int) : Int := q * q'
def fBy (p _q _p' q' : Int) : Int := p * q'
def gBy (_p q p' _q' : Int) : Int := q * p'
theorem f_ofX {C : Addr} {a b : Int} (h : b.natAbs < 10 ^ 1000) (hb : b = 0) : Fof C [.int a, .int b] (.ex C) := ⟨a, b, h, rfl, by rw [if_pos hb]⟩
theorem f_ofO {C : Addr} {a b : Int} (h : b.natAbs < 10 ^ 1000) (hb : b ≠ 0) : Fof C [.int a, .int b] (.ok (.va (fracD a b))) := ⟨a, b, h, rfl, by rw [if_neg hb]⟩
abbrev sSum := top 21
abbrev sLess := top 22
abbrev sTimes := top 23
abbrev sBy := top 24
abbrev sLesser := top 25
theorem sc_sum : FnScope ["one", "other"] ["one", "other"] (defScope sSum) := ⟨rfl, rfl, rfl, by decide +kernel, rfl, by decide +kernel, by decide +kernel⟩
theorem vi_sum : ∀ x ∈ (["one", "other"] : List Str), L2.Loc (defScope sSum) x := by unfold L2.Loc; decide +kernel
theorem sc_less : FnScope ["one", "other"] ["one", "other"] (defScope sLess) := ⟨rfl, rfl, rfl, by decide +kernel, rfl, by decide +kernel, by decide +kernel⟩
theorem vi_less : ∀ x ∈ (["one", "other"] : List Str), L2.Loc (defScope sLess) x := by unfold L2.Loc; decide +kernel
theorem sc_times : FnScope ["one", "other"] ["one", "other"] (defScope sTimes) := ⟨rfl, rfl, rfl, by decide +kernel, rfl, by decide +kernel, by decide +kernel⟩
theorem vi_times : ∀ x ∈ (["one", "other"] : List Str), L2.Loc (defScope sTimes) x := by unfold L2.Loc; decide +kernel
theorem sc_by : FnScope ["one", "other"] ["one", "other"] (defScope sBy) := ⟨rfl, rfl, rfl, by decide +kernel, rfl, by decide +kernel, by decide +kernel⟩
theorem vi_by : ∀ x ∈ (["one", "other"] : List Str), L2.Loc (defScope sBy) x := by unfold L2.Loc; decide +kernel
theorem sc_lesser : FnScope ["one", "other"] ["one", "other"] (defScope sLesser) := ⟨rfl, rfl, rfl, by decide +kernel, rfl, by decide +kernel, by decide +kernel⟩
theorem vi_lesser : ∀ x ∈ (["one", "other"] : List Str), L2.Loc (defScope sLesser) x := by unfold L2.Loc; decide +kernel
section
local macro_rules | `(tactic| walk_at "evE") => `(tactic| with_reducible refine e_call (F := Fof _) (by assumption) (by decide) ?_)
local macro_rules | `(tactic| walk_at "evL") => `(tactic| with_reducible refine Sd.mk (mul_big (by assumption) (by assumption)) ?_)
theorem ok_sum {C f : Addr} {fd : FuncData} (Fu : Fun K "frac_sum" "frac_sum" sSum f fd) (hof : Cal P w K mg base 2 (Str.ofString "fraction_of") (Fof C)) : FnOk P w K mg base (CXE P w) 3 f fd ["one", "other"] (spF K (FB C fSum gAll)) := by
  refine fn_x Fu sc_sum vi_sum (by rintro ds r ⟨p, q, p', q', _, _, _, _, rfl, _⟩; rfl) fun c ds r hF hRX hRM => ?_
  obtain ⟨p, q, p', q', hp, hq, hp', hq', rfl, e⟩ := hF
  show EvSs c _ [.va (.tup [.int p, .int q]), .va (.tup [.int p', .int q'])] _ _
  conv in (defBody _) => whnf
  have hbb : (gAll p q p' q').natAbs < 10 ^ 1000 := prod_big hq hq'
  walk_at "ev"
  by_cases hb : gAll p q p' q' = 0
  · rw [if_pos hb] at e
    exact rs_ex (f_ofX hbb hb) (hRX _ _ e)
  · rw [if_neg hb] at e
    exact rs_ok (f_ofO hbb hb) ⟨_, rfl, e⟩
theorem ok_less {C f : Addr} {fd : FuncData} (Fu : Fun K "frac_less" "frac_less" sLess f fd) (hof : Cal P w K mg base 2 (Str.ofString "fraction_of") (Fof C)) : FnOk P w K mg base (CXE P w) 3 f fd ["one", "other"] (spF K (FB C fLess gAll)) := by
  refine fn_x Fu sc_less vi_less (by rintro ds r ⟨p, q, p', q', _, _, _, _, rfl, _⟩; rfl) fun c ds r hF hRX hRM => ?_
  obtain ⟨p, q, p', q', hp, hq, hp', hq', rfl, e⟩ := hF
  show EvSs c _ [.va (.tup [.int p, .int q]), .va (.tup [.int p', .int q'])] _ _
  conv in (defBody _) => whnf
  have hbb : (gAll p q p' q').natAbs < 10 ^ 1000 := prod_big hq hq'
  walk_at "ev"
  by_cases hb : gAll p q p' q' = 0
  · rw [if_pos hb] at e
    exact rs_ex (f_ofX hbb hb) (hRX _ _ e)
  · rw [if_neg hb] at e
    exact rs_ok (f_ofO hbb hb) ⟨_, rfl, e⟩
theorem ok_times {C f : Addr} {fd : FuncData} (Fu : Fun K "frac_times" "frac_times" sTimes f fd) (hof : Cal P w K mg base 2 (Str.ofString "fraction_of") (Fof C)) : FnOk P w K mg base (CXE P w) 3 f fd ["one", "other"] (spF K (FB C fTimes gAll)) := by
  refine fn_x Fu sc_times vi_times (by rintro ds r ⟨p, q, p', q', _, _, _, _, rfl, _⟩; rfl) fun c ds r hF hRX hRM => ?_
  obtain ⟨p, q, p', q', hp, hq, hp', hq', rfl, e⟩ := hF
  show EvSs c _ [.va (.tup [.int p, .int q]), .va (.tup [.int p', .int q'])] _ _
  conv in (defBody _) => whnf
  have hbb : (gAll p q p' q').natAbs < 10 ^ 1000 := prod_big hq hq'
  walk_at "ev"
  by_cases hb : gAll p q p' q' = 0
  · rw [if_pos hb] at e
    exact rs_ex (f_ofX hbb hb) (hRX _ _ e)
  · rw [if_neg hb] at e
    exact rs_ok (f_ofO hbb hb) ⟨_, rfl, e⟩
theorem ok_by {C f : Addr} {fd : FuncData} (Fu : Fun K "frac_by" "frac_by" sBy f fd) (hof : Cal P w K mg base 2 (Str.ofString "fraction_of") (Fof C)) : FnOk P w K mg base (CXE P w) 3 f fd ["one", "other"] (spF K (FB C fBy gBy)) := by
  refine fn_x Fu sc_by vi_by (by rintro ds r ⟨p, q, p', q', _, _, _, _, rfl, _⟩; rfl) fun c ds r hF hRX hRM => ?_
  obtain ⟨p, q, p', q', hp, hq, hp', hq', rfl, e⟩ := hF
  show EvSs c _ [.va (.tup [.int p, .int q]), .va (.tup [.int p', .int q'])] _ _
  conv in (defBody _) => whnf
  have hbb : (gBy p q p' q').natAbs < 10 ^ 1000 := prod_big hq hp'
  walk_at "ev"
  by_cases hb : gBy p q p' q' = 0
  · rw [if_pos hb] at e
    exact rs_ex (f_ofX hbb hb) (hRX _ _ e)
  · rw [if_neg hb] at e
    exact rs_ok (f_ofO hbb hb) ⟨_, rfl, e⟩
def Flesser : Fn := fun ds r => ∃ p q p' q' : Int, Sm p ∧ Sm q ∧ Sm p' ∧ Sm q' ∧ ds = [.tup [.int p, .int q], .tup [.int p', .int q']] ∧ r = .ok (.va (.bl (decide (p * q' < p' * q))))
theorem ok_lesser {f : Addr} {fd : FuncData} (Fu : Fun K "frac_lesser" "frac_lesser" sLesser f fd) : FnOk P w K mg base (CXE P w) 1 f fd ["one", "other"] (spF K Flesser) := by
  refine fn_q Fu sc_lesser vi_lesser (by rintro ds r ⟨p, q, p', q', _, _, _, _, rfl, _⟩; rfl) (by rintro ds r ⟨p, q, p', q', _, _, _, _, _, rfl⟩; exact ⟨_, rfl⟩) fun c hq0 ds sl hF => ?_
  obtain ⟨p, q, p', q', hp, hq, hp', hq', rfl, e⟩ := hF
  injection e with e
  subst e
  show EvSs c _ [.va (.tup [.int p, .int q]), .va (.tup [.int p', .int q'])] _ _
  conv in (defBody _) => whnf
  walk_at "ev"
  rfl
end
end
end My


set_option Elab.async false
set_option linter.all false
set_option maxRecDepth 100000
set_option maxHeartbeats 0
namespace My
open PySem PySem.Spec PyProof.Rows L2 EV
local macro_rules | `(tactic| walk_at "side") => `(tactic| first | omega | assumption | exact sz_small (Nat.le_of_ble_eq_true rfl) | exact dv_small (by decide) (by decide +kernel) | (show CPow _ _; exact ⟨by decide, by decide, by decide +kernel⟩))
local macro_rules | `(tactic| walk_at "at") => `(tactic| with_reducible (repeat (first | exact At.z | apply At.s)))
local macro_rules | `(tactic| walk_at "sset") => `(tactic| with_reducible (repeat (first | exact SSet.z | apply SSet.s)))
local macro_rules | `(tactic| walk_at "evS") => `(tactic| first
  | with_reducible refine ss_cons ?_
  | with_reducible refine s_set (by walk_at "at") ?_
  | with_reducible refine s_ret_ow (by walk_at "at") (by walk_at "at") rfl ?_
  | with_reducible refine s_ret ?_
  | with_reducible refine s_retN ?_
  | with_reducible refine s_if ?_
  | with_reducible refine s_par (by walk_at "at") (by walk_at "at") (by decide) ?_
  | with_reducible refine s_addq (by walk_at "at") (by walk_at "at") ?_
  | with_reducible refine s_subq (by walk_at "at") (by walk_at "at") ?_
  | with_reducible refine s_asg ?_
  | with_reducible refine s_break ?_
  | with_reducible refine s_continue ?_
  | with_reducible refine s_pass ?_)
local macro_rules | `(tactic| walk_at "evE") => `(tactic| first
  | with_reducible refine e_var (by walk_at "at") (by walk_at "at") ?_
  | with_reducible refine e_int ?_
  | with_reducible refine e_bl ?_
  | with_reducible refine e_non ?_
  | with_reducible refine e_str ?_
  | with_reducible refine e_isN ?_
  | with_reducible refine e_notN ?_
  | with_reducible refine e_ixA ?_
  | with_reducible refine e_sub ?_
  | with_reducible refine e_mul ?_
  | with_reducible refine e_mod ?_
  | with_reducible refine e_fdiv ?_
  | with_reducible refine e_pow ?_
  | with_reducible refine e_neg ?_
  | with_reducible refine e_and ?_
  | with_reducible refine e_or ?_
  | with_reducible refine e_one ?_
  | with_reducible refine e_not ?_
  | with_reducible refine e_ifExp ?_
  | with_reducible refine e_lt ?_
  | with_reducible refine e_eq ?_
  | with_reducible refine e_ne ?_
  | with_reducible refine e_tup ?_
  | with_reducible refine e_abs (by assumption) ?_
  | with_reducible refine e_addA ?_
  | with_reducible refine e_lstA ?_
  | with_reducible refine e_sliceA ?_
  | with_reducible refine x_e ?_)
local macro_rules | `(tactic| walk_at "evT") => `(tactic| first
  | with_reducible refine t_ne ?_
  | with_reducible refine t_eq ?_
  | with_reducible refine t_lt ?_
  | with_reducible refine t_le ?_
  | with_reducible refine t_gt ?_
  | with_reducible refine t_ge ?_
  | with_reducible refine t_not ?_
  | with_reducible refine t_w (w_and ?_)
  | with_reducible refine t_w (w_or ?_)
  | with_reducible refine w_and ?_
  | with_reducible refine w_or ?_
  | with_reducible refine w_and1 ?_
  | with_reducible refine w_or1 ?_
  | with_reducible refine t_isN ?_
  | with_reducible refine t_notN ?_
  | with_reducible refine t_val ?_)
local macro_rules | `(tactic| walk_at "evL") => `(tactic| first
  | with_reducible refine nxt (by walk_at "sset") ?_
  | with_reducible refine Sd.mk (by walk_at "side") ?_
  | with_reducible refine Sd.mk ?_ ?_
  | with_reducible refine i2 ?_
  | with_reducible refine i1 ?_
  | with_reducible refine b1 ?_
  | with_reducible refine eqp_int ?_
  | with_reducible refine eqp_bl ?_
  | with_reducible refine eqp_str ?_
  | with_reducible refine if2_t ?_
  | with_reducible refine if2_f ?_
  | with_reducible refine if2_not ?_
  | with_reducible refine if2_dec (fun h => ?_) (fun h => ?_)
  | with_reducible refine if2 (fun h => ?_) (fun h => ?_)
  | with_reducible refine a_cons ?_
  | with_reducible refine a_nil ?_
  | with_reducible refine ss_nil ?_
  | with_reducible refine addp_int ?_
  | with_reducible refine addp_lst ?_
  | with_reducible refine addp_tup ?_
  | with_reducible refine fz_va ?_
  | with_reducible refine fz_ow ?_
  | with_reducible refine isn_t ?_
  | with_reducible refine isn_f (by intro q; cases q) ?_
  | refine rowX (by rfl) ?_
  | refine ixp_t (by rfl) ?_
  | refine ixp_l (by rfl) ?_)
local macro_rules | `(tactic| walk_at "ev1") => `(tactic| first | walk_at "evL" | walk_at "evS" | walk_at "evE" | walk_at "evT")
local macro_rules | `(tactic| walk_at "ev") => `(tactic| repeat' (walk_at "ev1"))

section
variable {P : Program} {w : World} {K : PySem.W.Frag} {mg : Str → Option Value} {base : Heap}
/-! the parting -/
def partedD (C : Addr) (p q p' q' : Int) : D := .tup (if p' = 0 then [.non, .exc C] else [fracD (p * q') (p' * q), .non])
def Fpart (C : Addr) : Fn := fun ds r => ∃ p q p' q' : Int, Sm p ∧ Sm q ∧ Sm p' ∧ Sm q' ∧ q ≠ 0 ∧ ds = [.tup [.int p, .int q], .tup [.int p', .int q']] ∧ r = .ok (.va (partedD C p q p' q'))
abbrev sPart := top 33
theorem sc_part : FnScope ["_law_one", "_law_other", "_law_found", "_law_caught", "e"] ["_law_one", "_law_other"] (defScope sPart) := ⟨rfl, rfl, rfl, by decide +kernel, rfl, by decide +kernel, by decide +kernel⟩
theorem vi_part : ∀ x ∈ (["_law_one", "_law_other", "_law_found", "_law_caught", "e"] : List Str), L2.Loc (defScope sPart) x := by unfold L2.Loc; decide +kernel
theorem f_byX {C : Addr} {p q p' q' : Int} (hp : Sm p) (hq : Sm q) (hp' : Sm p') (hq' : Sm q') (z : p' = 0) : FB C fBy gBy [.tup [.int p, .int q], .tup [.int p', .int q']] (.ex C) := ⟨p, q, p', q', hp, hq, hp', hq', rfl, by rw [if_pos (by unfold gBy; rw [z]; simp)]⟩
theorem f_byO {C : Addr} {p q p' q' : Int} (hp : Sm p) (hq : Sm q) (hp' : Sm p') (hq' : Sm q') (z : p' ≠ 0) (z2 : q ≠ 0) : FB C fBy gBy [.tup [.int p, .int q], .tup [.int p', .int q']] (.ok (.va (fracD (p * q') (p' * q)))) :=
  ⟨p, q, p', q', hp, hq, hp', hq', rfl, by rw [if_neg (by unfold gBy; exact Int.mul_ne_zero z2 z)]; unfold fBy gBy; rw [Int.mul_comm p' q]⟩
section
local macro_rules | `(tactic| walk_at "evE") => `(tactic| with_reducible refine e_call (F := FB _ fBy gBy) (by assumption) (by decide) ?_)
theorem ok_part {C E f : Addr} {fd : FuncData} (Fu : Fun K "_law_parted" "_law_parted" sPart f fd) (hE : mg (Str.ofString "DrawError") = some (.ref E)) (hx : PySem.W.exmOne K (.ref C) (.ref E) = some true) (hof : Cal P w K mg base 3 (Str.ofString "frac_by") (FB C fBy gBy)) : FnOk P w K mg base (CXE P w) 4 f fd ["_law_one", "_law_other"] (spF K (Fpart C)) := by
  refine fn_q Fu sc_part vi_part (by rintro ds r ⟨p, q, p', q', _, _, _, _, _, rfl, _⟩; rfl) (by rintro ds r ⟨p, q, p', q', _, _, _, _, _, _, rfl⟩; exact ⟨_, rfl⟩) fun c hq0 ds sl hF => ?_
  obtain ⟨p, q, p', q', hp, hq, hp', hq', hz, rfl, e⟩ := hF
  injection e with e
  subst e
  show EvSs c _ [.va (.tup [.int p, .int q]), .va (.tup [.int p', .int q']), .un, .un, .un] _ _
  conv in (defBody _) => whnf
  walk_at "ev"
  with_reducible refine s_tryA (i := 4) (j := 3) hE (by walk_at "at") (by walk_at "at") (by decide) fun c' hR => ?_
  by_cases hb : p' = 0
  · walk_at "ev"
    refine rs_ex (f_byX hp hq hp' hq' hb) (hR _ _ ⟨hx, ?_⟩)
    refine ⟨_, _, (by walk_at "sset"), (by walk_at "sset"), ?_⟩
    walk_at "ev"
    show Sl.va _ = Sl.va (partedD C p q p' q')
    unfold partedD
    rw [if_pos hb]
  · walk_at "ev"
    refine rs_ok (f_byO hp hq hp' hq' hb hz) ?_
    walk_at "ev"
    show Sl.va _ = Sl.va (partedD C p q p' q')
    unfold partedD
    rw [if_neg hb]
end
/-! what a fraction handed in is -/
def Fgood : Fn := fun ds r => ∃ p q p' q' : Int, Sm p ∧ Sm q ∧ Sm p' ∧ Sm q' ∧ q ≠ 0 ∧ q' ≠ 0 ∧ ds = [.tup [.int p, .int q], .tup [.int p', .int q']] ∧ r = .ok (.va (.bl true))
abbrev sGood := top 34
theorem sc_good : FnScope ["_law_one", "_law_other", "_law_bottom", "_law_left", "_law_right", "_law_found", "_law_caught"] ["_law_one", "_law_other"] (defScope sGood) := ⟨rfl, rfl, rfl, by decide +kernel, rfl, by decide +kernel, by decide +kernel⟩
theorem vi_good : ∀ x ∈ (["_law_one", "_law_other", "_law_bottom", "_law_left", "_law_right", "_law_found", "_law_caught"] : List Str), L2.Loc (defScope sGood) x := by unfold L2.Loc; decide +kernel
theorem f_sum {C : Addr} {p q p' q' : Int} (hp : Sm p) (hq : Sm q) (hp' : Sm p') (hq' : Sm q') (z : q * q' ≠ 0) : FB C fSum gAll [.tup [.int p, .int q], .tup [.int p', .int q']] (.ok (.va (fracD (p * q' + p' * q) (q * q')))) := ⟨p, q, p', q', hp, hq, hp', hq', rfl, by rw [if_neg (show ¬ gAll p q p' q' = 0 from z)]; rfl⟩
theorem f_less {C : Addr} {p q p' q' : Int} (hp : Sm p) (hq : Sm q) (hp' : Sm p') (hq' : Sm q') (z : q * q' ≠ 0) : FB C fLess gAll [.tup [.int p, .int q], .tup [.int p', .int q']] (.ok (.va (fracD (p * q' - p' * q) (q * q')))) := ⟨p, q, p', q', hp, hq, hp', hq', rfl, by rw [if_neg (show ¬ gAll p q p' q' = 0 from z)]; rfl⟩
theorem f_times {C : Addr} {p q p' q' : Int} (hp : Sm p) (hq : Sm q) (hp' : Sm p') (hq' : Sm q') (z : q * q' ≠ 0) : FB C fTimes gAll [.tup [.int p, .int q], .tup [.int p', .int q']] (.ok (.va (fracD (p * p') (q * q')))) := ⟨p, q, p', q', hp, hq, hp', hq', rfl, by rw [if_neg (show ¬ gAll p q p' q' = 0 from z)]; rfl⟩
theorem f_lesser {p q p' q' : Int} (hp : Sm p) (hq : Sm q) (hp' : Sm p') (hq' : Sm q') : Flesser [.tup [.int p, .int q], .tup [.int p', .int q']] (.ok (.va (.bl (decide (p * q' < p' * q))))) := ⟨p, q, p', q', hp, hq, hp', hq', rfl, rfl⟩
theorem f_part {C : Addr} {p q p' q' : Int} (hp : Sm p) (hq : Sm q) (hp' : Sm p') (hq' : Sm q') (z : q ≠ 0) : Fpart C [.tup [.int p, .int q], .tup [.int p', .int q']] (.ok (.va (partedD C p q p' q'))) := ⟨p, q, p', q', hp, hq, hp', hq', z, rfl, rfl⟩
theorem f_fr {a b : Int} (hb : b ≠ 0) (h : b.natAbs < 10 ^ 1000) : Ffr [.int a, .int b] (.ok (.va (fracD a b))) := ⟨a, b, hb, h, rfl, rfl⟩
theorem f_same (a b : Int) : Fsame [fracD a b, fracD a b] (.ok (.va (.bl true))) := ⟨_, _, rfl, rfl⟩
theorem kit_bb : PySem.W.kitOne K (.type "bool") (.type "bool") = some true := by unfold PySem.W.kitOne; simp
theorem f_only2 (C : Addr) : Fonly C [.exc C, .str (Str.ofString "NoBottom")] (.ok (.va (.bl true))) := f_only C
section
local macro_rules | `(tactic| walk_at "evE") => `(tactic| first
  | with_reducible refine e_isin (Txt.isin (by assumption)) (Txt.c_bool (by assumption)) ?_
  | with_reducible refine e_call (F := FB _ fSum gAll) (by assumption) (by decide) ?_
  | with_reducible refine e_call (F := FB _ fLess gAll) (by assumption) (by decide) ?_
  | with_reducible refine e_call (F := FB _ fTimes gAll) (by assumption) (by decide) ?_
  | with_reducible refine e_call (F := Flesser) (by assumption) (by decide) ?_
  | with_reducible refine e_call (F := Ffr) (by assumption) (by decide) ?_
  | with_reducible refine e_call (F := Fsame) (by assumption) (by decide) ?_
  | with_reducible refine e_call (F := Fpart _) (by assumption) (by decide) ?_
  | with_reducible refine e_call (F := Fonly _) (by assumption) (by decide) ?_)
local macro_rules | `(tactic| walk_at "evL") => `(tactic| first
  | with_reducible refine Sd.mk (mul_big (by assumption) (by assumption)) ?_
  | with_reducible refine rs_ok (f_sum (by assumption) (by assumption) (by assumption) (by assumption) (by assumption)) ?_
  | with_reducible refine rs_ok (f_less (by assumption) (by assumption) (by assumption) (by assumption) (by assumption)) ?_
  | with_reducible refine rs_ok (f_times (by assumption) (by assumption) (by assumption) (by assumption) (by assumption)) ?_
  | with_reducible refine rs_ok (f_lesser (by assumption) (by assumption) (by assumption) (by assumption)) ?_
  | with_reducible refine isd .bl kit_bb ?_
  | with_reducible refine rs_ok (f_only2 _) ?_
  | with_reducible refine rs_ok (f_fr (by assumption) (by assumption)) ?_
  | with_reducible refine rs_ok (f_same _ _) ?_)
theorem ok_good {C f : Addr} {fd : FuncData} (Fu : Fun K "_law_good" "_law_good" sGood f fd) (T : Txt K mg C) (h1 : Cal P w K mg base 3 (Str.ofString "frac_sum") (FB C fSum gAll)) (h2 : Cal P w K mg base 3 (Str.ofString "frac_less") (FB C fLess gAll)) (h3 : Cal P w K mg base 3 (Str.ofString "frac_times") (FB C fTimes gAll))
    (h4 : Cal P w K mg base 1 (Str.ofString "frac_lesser") Flesser) (h5 : Cal P w K mg base 1 (Str.ofString "_law_fraction") Ffr) (h6 : Cal P w K mg base 2 (Str.ofString "_law_same_fraction") Fsame) (h7 : Cal P w K mg base 4 (Str.ofString "_law_parted") (Fpart C)) (h8 : Cal P w K mg base 2 (Str.ofString "_law_only") (Fonly C)) : FnOk P w K mg base (CXE P w) 5 f fd ["_law_one", "_law_other"] (spF K Fgood) := by
  refine fn_q Fu sc_good vi_good (by rintro ds r ⟨p, q, p', q', _, _, _, _, _, _, rfl, _⟩; rfl) (by rintro ds r ⟨p, q, p', q', _, _, _, _, _, _, _, rfl⟩; exact ⟨_, rfl⟩) fun c hq0 ds sl hF => ?_
  obtain ⟨p, q, p', q', hp, hq, hp', hq', hz, hz', rfl, e⟩ := hF
  injection e with e
  subst e
  show EvSs c _ [.va (.tup [.int p, .int q]), .va (.tup [.int p', .int q']), .un, .un, .un, .un, .un] _ _
  conv in (defBody _) => whnf
  have hqq : q * q' ≠ 0 := Int.mul_ne_zero hz hz'
  have hbb := prod_big hq hq'
  have hbc := prod_big hp' hq
  walk_at "ev"
  · refine rs_ok (f_part hp hq hp' hq' hz) (fz_va ?_)
    unfold partedD
    by_cases hb : p' = 0
    · rw [if_pos hb]
      refine g_tup rfl rfl (gs_name (by walk_at "at") (nxt (by walk_at "sset") (gs_name (by walk_at "at") (nxt (by walk_at "sset") (gs_nil ?_)))))
      walk_at "ev"
      · rfl
      all_goals exact absurd hb (by assumption)
    · rw [if_neg hb]
      have hrr : p' * q ≠ 0 := Int.mul_ne_zero hb hz
      refine g_tup rfl rfl (gs_name (by walk_at "at") (nxt (by walk_at "sset") (gs_name (by walk_at "at") (nxt (by walk_at "sset") (gs_nil ?_)))))
      walk_at "ev"
      all_goals first | exact absurd (by assumption) hb | rfl
  all_goals exact absurd rfl (by assumption)
end
end
end My


set_option Elab.async false
set_option linter.all false
set_option maxRecDepth 100000
set_option maxHeartbeats 0
namespace My
open PySem PySem.Spec PyProof.Rows L2 EV
local macro_rules | `(tactic| walk_at "side") => `(tactic| first | omega | assumption | exact sz_small (Nat.le_of_ble_eq_true rfl) | exact dv_small (by decide) (by decide +kernel) | (show CPow _ _; exact ⟨by decide, by decide, by decide +kernel⟩))
local macro_rules | `(tactic| walk_at "at") => `(tactic| with_reducible (repeat (first | exact At.z | apply At.s)))
local macro_rules | `(tactic| walk_at "sset") => `(tactic| with_reducible (repeat (first | exact SSet.z | apply SSet.s)))
local macro_rules | `(tactic| walk_at "evS") => `(tactic| first
  | with_reducible refine ss_cons ?_
  | with_reducible refine s_set (by walk_at "at") ?_
  | with_reducible refine s_ret_ow (by walk_at "at") (by walk_at "at") rfl ?_
  | with_reducible refine s_ret ?_
  | with_reducible refine s_retN ?_
  | with_reducible refine s_if ?_
  | with_reducible refine s_par (by walk_at "at") (by walk_at "at") (by decide) ?_
  | with_reducible refine s_addq (by walk_at "at") (by walk_at "at") ?_
  | with_reducible refine s_subq (by walk_at "at") (by walk_at "at") ?_
  | with_reducible refine s_asg ?_
  | with_reducible refine s_break ?_
  | with_reducible refine s_continue ?_
  | with_reducible refine s_pass ?_)
local macro_rules | `(tactic| walk_at "evE") => `(tactic| first
  | with_reducible refine e_var (by walk_at "at") (by walk_at "at") ?_
  | with_reducible refine e_int ?_
  | with_reducible refine e_bl ?_
  | with_reducible refine e_non ?_
  | with_reducible refine e_str ?_
  | with_reducible refine e_isN ?_
  | with_reducible refine e_notN ?_
  | with_reducible refine e_ixA ?_
  | with_reducible refine e_sub ?_
  | with_reducible refine e_mul ?_
  | with_reducible refine e_mod ?_
  | with_reducible refine e_fdiv ?_
  | with_reducible refine e_pow ?_
  | with_reducible refine e_neg ?_
  | with_reducible refine e_and ?_
  | with_reducible refine e_or ?_
  | with_reducible refine e_one ?_
  | with_reducible refine e_not ?_
  | with_reducible refine e_ifExp ?_
  | with_reducible refine e_lt ?_
  | with_reducible refine e_eq ?_
  | with_reducible refine e_ne ?_
  | with_reducible refine e_tup ?_
  | with_reducible refine e_abs (by assumption) ?_
  | with_reducible refine e_addA ?_
  | with_reducible refine e_lstA ?_
  | with_reducible refine e_sliceA ?_
  | with_reducible refine x_e ?_)
local macro_rules | `(tactic| walk_at "evT") => `(tactic| first
  | with_reducible refine t_ne ?_
  | with_reducible refine t_eq ?_
  | with_reducible refine t_lt ?_
  | with_reducible refine t_le ?_
  | with_reducible refine t_gt ?_
  | with_reducible refine t_ge ?_
  | with_reducible refine t_not ?_
  | with_reducible refine t_w (w_and ?_)
  | with_reducible refine t_w (w_or ?_)
  | with_reducible refine w_and ?_
  | with_reducible refine w_or ?_
  | with_reducible refine w_and1 ?_
  | with_reducible refine w_or1 ?_
  | with_reducible refine t_isN ?_
  | with_reducible refine t_notN ?_
  | with_reducible refine t_val ?_)
local macro_rules | `(tactic| walk_at "evL") => `(tactic| first
  | with_reducible refine nxt (by walk_at "sset") ?_
  | with_reducible refine Sd.mk (by walk_at "side") ?_
  | with_reducible refine Sd.mk ?_ ?_
  | with_reducible refine i2 ?_
  | with_reducible refine i1 ?_
  | with_reducible refine b1 ?_
  | with_reducible refine eqp_int ?_
  | with_reducible refine eqp_bl ?_
  | with_reducible refine eqp_str ?_
  | with_reducible refine if2_t ?_
  | with_reducible refine if2_f ?_
  | with_reducible refine if2_not ?_
  | with_reducible refine if2_dec (fun h => ?_) (fun h => ?_)
  | with_reducible refine if2 (fun h => ?_) (fun h => ?_)
  | with_reducible refine a_cons ?_
  | with_reducible refine a_nil ?_
  | with_reducible refine ss_nil ?_
  | with_reducible refine addp_int ?_
  | with_reducible refine addp_lst ?_
  | with_reducible refine addp_tup ?_
  | with_reducible refine fz_va ?_
  | with_reducible refine fz_ow ?_
  | with_reducible refine isn_t ?_
  | with_reducible refine isn_f (by intro q; cases q) ?_
  | refine rowX (by rfl) ?_
  | refine ixp_t (by rfl) ?_
  | refine ixp_l (by rfl) ?_)
local macro_rules | `(tactic| walk_at "ev1") => `(tactic| first | walk_at "evL" | walk_at "evS" | walk_at "evE" | walk_at "evT")
local macro_rules | `(tactic| walk_at "ev") => `(tactic| repeat' (walk_at "ev1"))

section
variable {P : Program} {w : World} {K : PySem.W.Frag} {mg : Str → Option Value} {base : Heap}
theorem cutD_map {α β : Type} (f : α → β) (xs : List α) (lo hi : Option Int) : EV.cutD (xs.map f) lo hi = (EV.cutD xs lo hi).map f := by
  unfold EV.cutD; simp only [List.length_map, List.map_take, List.map_drop]
theorem cutD_len {α : Type} (xs : List α) (lo hi : Option Int) : (EV.cutD xs lo hi).length ≤ xs.length := by
  unfold EV.cutD; simp only [List.length_take, List.length_drop]; omega
theorem atI_pos {α : Type} {xs : List α} {j : Int} (h0 : 0 ≤ j) (h1 : j < xs.length) : atI xs j = xs[j.toNat]? := by
  unfold atI ixN
  rw [if_pos h0, if_pos h1]; rfl
theorem ixp_ints {cl : List Int} {j : Int} {R : EV.D → Prop} (h0 : 0 ≤ j) (h1 : j < cl.length) (h : R (.int (cl.getD j.toNat 0))) : IxP (.lst (cl.map D.int)) (.int j) R := by
  refine ixp_l ?_ h
  rw [atI_pos h0 (by simpa using h1)]
  have hj : j.toNat < cl.length := by omega
  simp [List.getElem?_map, hj]
theorem ixp_two {a b y : Int} {R : EV.D → Prop} (h : R (.int (if y % 2 = 0 then a else b))) : IxP (.lst [.int a, .int b]) (.int (y % 2)) R := by
  rcases Int.emod_two_eq y with e | e
  · rw [e] at h ⊢
    exact ixp_l rfl h
  · rw [e] at h ⊢
    exact ixp_l rfl h
theorem bits_few {a : Int} (h : a.natAbs < 2 ^ 63) : Builtin.Int.intBits a ≤ 64 := by
  unfold Builtin.Int.intBits
  by_cases z : a = 0
  · subst z; decide
  · have e : (a == 0) = false := by simpa using z
    rw [e, if_neg Bool.false_ne_true]
    have := (Nat.log2_lt (n := a.natAbs) (k := 63) (by omega)).mpr h
    omega
theorem mul_l {a b : Int} (h : a.natAbs < 2 ^ 63) : EV.MulOk a b := IntMulOk.of_left (bits_few h)
theorem rng_get {n i : Nat} {d : EV.D} (h : (rngD 0 n)[i]? = some d) : i < n ∧ d = .int (i : Int) := by
  unfold rngD at h
  simp only [List.getElem?_map, Option.map_eq_some_iff] at h
  obtain ⟨j, h1, rfl⟩ := h
  obtain ⟨hj, rfl⟩ := List.getElem?_eq_some_iff.mp h1
  simp at hj
  exact ⟨hj, by simp⟩
section
variable {k : Nat} {N : List Str} {sc : Scope} {c : Ctx P w K mg base k N sc} {ρ : List Sl} {pos : Pos} {t : Expr} {A B : List Stmt} {nx : List Sl → Prop} {p : Pt}
theorem s_ifJ (I : List Sl → Prop) (h : EvT c t ρ (If2 (EvSs c A ρ I p) (EvSs c B ρ I p))) (hI : ∀ ρ', I ρ' → nx ρ') : EvS c (.If t A B pos) ρ nx p :=
  s_if (h.imp fun x hx => ⟨fun e σ H Hf D S o => hx.t e σ H Hf D S ⟨fun σ H Hf ρ S q => o.nx σ H Hf ρ S (hI _ q), o.rt, o.bk, o.ct⟩, fun e σ H Hf D S o => hx.f e σ H Hf D S ⟨fun σ H Hf ρ S q => o.nx σ H Hf ρ S (hI _ q), o.rt, o.bk, o.ct⟩⟩)
end
def botOf (y : Int) : Int := 1 + y / 2 % (if y % 2 = 0 then 9 else 10 ^ Int.toNat 30 - 1)
theorem bot_ok (y : Int) : 0 < botOf y ∧ (botOf y).natAbs < 10 ^ 31 := by
  have e : (10 : Int) ^ Int.toNat 30 = 1000000000000000000000000000000 := by decide +kernel
  unfold botOf
  rw [e]
  split
  · omega
  · have h1 := Int.emod_nonneg (y / 2) (b := 1000000000000000000000000000000 - 1) (by decide)
    have h2 := Int.emod_lt_of_pos (y / 2) (b := 1000000000000000000000000000000 - 1) (by decide)
    omega
theorem frac_shape {a b : Int} (hb : 0 < b) (h1 : a.natAbs < 10 ^ 100) (h2 : b.natAbs < 10 ^ 100) : ∃ p q : Int, fracD a b = .tup [.int p, .int q] ∧ Sm p ∧ Sm q ∧ q ≠ 0 := by
  have hp : (0 : Int) < Int.gcd a b := by have := Int.gcd_pos_of_ne_zero_right a (show b ≠ 0 by omega); omega
  rw [← frac_pos hb]
  refine ⟨_, _, rfl, ?_, ?_, ?_⟩
  · have := Int.natAbs_ediv_le_natAbs a (Int.gcd a b : Int)
    exact Nat.lt_of_le_of_lt this (Nat.lt_of_lt_of_le h1 (Nat.pow_le_pow_right (by decide) (by decide)))
  · have := Int.natAbs_ediv_le_natAbs b (Int.gcd a b : Int)
    exact Nat.lt_of_le_of_lt this (Nat.lt_of_lt_of_le h2 (Nat.pow_le_pow_right (by decide) (by decide)))
  · intro z
    have hd : (Int.gcd a b : Int) ∣ b := Int.gcd_dvd_right ..
    obtain ⟨m, hm⟩ := hd
    have h3 : b / (Int.gcd a b : Int) = m := Int.ediv_eq_of_eq_mul_right (by omega) hm
    rw [h3] at z
    subst z
    simp at hm
    omega
def Fdrawn : Fn := fun ds r => ∃ x y : Int, ds = [.int x, .int y] ∧ r = .ok (.va (fracD (numOf x) (botOf y)))
theorem f_drawn (x y : Int) : Fdrawn [.int x, .int y] (.ok (.va (fracD (numOf x) (botOf y)))) := ⟨x, y, rfl, rfl⟩
theorem drawn_shape (x y : Int) : ∃ p q : Int, fracD (numOf x) (botOf y) = .tup [.int p, .int q] ∧ Sm p ∧ Sm q ∧ q ≠ 0 :=
  frac_shape (bot_ok y).1 (Nat.lt_of_lt_of_le (numOf_small x) (Nat.pow_le_pow_right (by decide) (by decide))) (Nat.lt_of_lt_of_le (bot_ok y).2 (Nat.pow_le_pow_right (by decide) (by decide)))
abbrev sDrawn := top 35
theorem sc_drawn : FnScope ["_law_top", "_law_bottom"] ["_law_top", "_law_bottom"] (defScope sDrawn) := ⟨rfl, rfl, rfl, by decide +kernel, rfl, by decide +kernel, by decide +kernel⟩
theorem vi_drawn : ∀ x ∈ (["_law_top", "_law_bottom"] : List Str), L2.Loc (defScope sDrawn) x := by unfold L2.Loc; decide +kernel
theorem f_num (n : Int) : Fnum [.int n] (.ok (.va (.int (numOf n)))) := ⟨n, rfl, rfl⟩
section
local macro_rules | `(tactic| walk_at "evE") => `(tactic| first
  | with_reducible refine e_call (F := Fnum) (by assumption) (by decide) ?_
  | with_reducible refine e_call (F := Ffr) (by assumption) (by decide) ?_)
local macro_rules | `(tactic| walk_at "evL") => `(tactic| first
  | with_reducible refine ixp_two ?_
  | with_reducible refine rs_ok (f_num _) ?_)
theorem ok_drawn {C f : Addr} {fd : FuncData} (Fu : Fun K "_law_drawn" "_law_drawn" sDrawn f fd) (T : Txt K mg C) (h1 : Cal P w K mg base 1 (Str.ofString "_law_number") Fnum) (h2 : Cal P w K mg base 1 (Str.ofString "_law_fraction") Ffr) : FnOk P w K mg base (CXE P w) 2 f fd ["_law_top", "_law_bottom"] (spF K Fdrawn) := by
  refine fn_q Fu sc_drawn vi_drawn (by rintro ds r ⟨a, b, rfl, _⟩; rfl) (by rintro ds r ⟨a, b, _, rfl⟩; exact ⟨_, rfl⟩) fun c hq ds sl hF => ?_
  obtain ⟨x, y, rfl, e⟩ := hF
  injection e with e
  subst e
  show EvSs c _ [.va (.int x), .va (.int y)] _ _
  conv in (defBody _) => whnf
  walk_at "ev"
  · exact ⟨by decide, by decide, by decide +kernel⟩
  · split
    · decide
    · decide +kernel
  · refine rs_ok (f_fr (show botOf y ≠ 0 from Int.ne_of_gt (bot_ok y).1) (Nat.lt_of_lt_of_le (bot_ok y).2 (Nat.pow_le_pow_right (by decide) (by decide)))) (fz_va ?_)
    rfl
end
abbrev sLaw := top 36
def Flaw : Fn := fun ds r => ∃ ns : List Int, ns.length ≤ 63 ∧ ds = [.lst (ns.map D.int)] ∧ r = .ok (.va (.bl true))
theorem sc_law : FnScope ["_law_script", "_law_cells", "_law_k", "_law_one", "_law_other", "_law_kind"] ["_law_script"] (defScope sLaw) := ⟨rfl, rfl, rfl, by decide +kernel, rfl, by decide +kernel, by decide +kernel⟩
theorem vi_law : ∀ x ∈ (["_law_script", "_law_cells", "_law_k", "_law_one", "_law_other", "_law_kind"] : List Str), L2.Loc (defScope sLaw) x := by unfold L2.Loc; decide +kernel
theorem f_good {p q p' q' : Int} (hp : Sm p) (hq : Sm q) (hp' : Sm p') (hq' : Sm q') (z : q ≠ 0) (z' : q' ≠ 0) : Fgood [.tup [.int p, .int q], .tup [.int p', .int q']] (.ok (.va (.bl true))) := ⟨p, q, p', q', hp, hq, hp', hq', z, z', rfl, rfl⟩
section
local macro_rules | `(tactic| walk_at "evX") => `(tactic| repeat' (first | walk_at "evL" | walk_at "evE" | walk_at "evT"))
local macro_rules | `(tactic| walk_at "evE") => `(tactic| first
  | with_reducible refine e_len (Txt.len (by assumption)) ?_
  | with_reducible refine e_call (F := Fdrawn) (by assumption) (by decide) ?_
  | with_reducible refine e_call (F := Fgood) (by assumption) (by decide) ?_)
local macro_rules | `(tactic| walk_at "evL") => `(tactic| first
  | with_reducible refine ixp_ints (by omega) (by omega) ?_
  | with_reducible refine Sd.mk (mul_l (by decide)) ?_
  | with_reducible refine rs_ok (f_drawn _ _) ?_
  | with_reducible refine rs_ok (f_good (by assumption) (by assumption) (by assumption) (by assumption) (by assumption) (by assumption)) ?_
  | with_reducible refine p_none ?_
  | with_reducible refine p_some ?_
  | with_reducible refine EV.SlP.lst ?_)
theorem ok_law {C f : Addr} {fd : FuncData} (Fu : Fun K "law" "law" sLaw f fd) (T : Txt K mg C) (h1 : Cal P w K mg base 2 (Str.ofString "_law_drawn") Fdrawn) (h2 : Cal P w K mg base 5 (Str.ofString "_law_good") Fgood) : FnOk P w K mg base (CXE P w) 6 f fd ["_law_script"] (spF K Flaw) := by
  refine fn_q Fu sc_law vi_law (by rintro ds r ⟨ns, _, rfl, _⟩; rfl) (by rintro ds r ⟨ns, _, _, rfl⟩; exact ⟨_, rfl⟩) fun c hq ds sl hF => ?_
  obtain ⟨ns, hl, rfl, e⟩ := hF
  injection e with e
  subst e
  show EvSs c _ [.va (.lst (ns.map D.int)), .un, .un, .un, .un, .un] _ _
  conv in (defBody _) => whnf
  walk_at "ev"
  · have := cutD_len (ns.map D.int) none (some 60)
    simp only [List.length_map] at this
    exact sz_small (by simp only [List.length_cons, List.length_nil]; omega)
  have ecl : (EV.cutD (ns.map D.int) none (some 60) ++ [D.int 5, D.int 3, D.int 9, D.int 14, D.int 8, D.int 4, D.int 12, D.int 0]) = (EV.cutD ns none (some 60) ++ [5, 3, 9, 14, 8, 4, 12, 0]).map D.int := by rw [cutD_map]; simp
  rw [ecl]
  have hcl := cutD_len ns none (some 60)
  have hlen : (EV.cutD ns none (some 60) ++ [5, 3, 9, 14, 8, 4, 12, 0]).length ≤ 71 := by simp only [List.length_append, List.length_cons, List.length_nil]; omega
  generalize EV.cutD ns none (some 60) ++ [5, 3, 9, 14, 8, 4, 12, 0] = cl at hlen ⊢
  refine s_for hq (i_range1 T.range ?_)
  walk_at "ev"
  · unfold RngOk; simp only [List.length_map]; omega
  refine ⟨fun i ρ' => ∃ s2 s3 s4 s5, ρ' = [.va (.lst (ns.map D.int)), .va (.lst (cl.map D.int)), s2, s3, s4, s5], ⟨_, _, _, _, rfl⟩, ?_, ?_⟩
  · rintro c' hcX hcR hcM i d ρ' hd ⟨s2, s3, s4, s5, rfl⟩
    obtain ⟨hi, rfl⟩ := rng_get hd
    simp only [List.length_map] at hi
    have hi2 : 4 * (i : Int) + 3 < cl.length := by omega
    refine g_name (by walk_at "at") (nxt (by walk_at "sset") ?_)
    with_reducible refine ss_cons ?_
    with_reducible refine s_set (by walk_at "at") ?_
    walk_at "evX"
    with_reducible refine ss_cons ?_
    with_reducible refine s_set (by walk_at "at") ?_
    walk_at "evX"
    with_reducible refine ss_cons ?_
    with_reducible refine s_set (by walk_at "at") ?_
    walk_at "evX"
    obtain ⟨p, q, e1, hp, hq1, hz⟩ := drawn_shape (cl.getD (4 * (i : Int)).toNat 0) (cl.getD (4 * (i : Int) + 1).toNat 0)
    obtain ⟨p', q', e2, hp', hq1', hz'⟩ := drawn_shape (cl.getD (4 * (i : Int) + 2).toNat 0) (cl.getD (4 * (i : Int) + 3).toNat 0)
    rw [e1, e2]
    have h0 : Sm 0 := by unfold Sm; decide +kernel
    have h1' : Sm 1 := by unfold Sm; decide +kernel
    with_reducible refine ss_cons ?_
    refine s_ifJ (fun ρ' => ∃ (p' q' : Int) (s5 : Sl), Sm p' ∧ Sm q' ∧ q' ≠ 0 ∧ ∃ z : Int, ρ' = [.va (.lst (ns.map D.int)), .va (.lst (cl.map D.int)), .va (.int (i : Int)), .va (.tup [.int p, .int q]), .va (.tup [.int p', .int q']), .va (.int z)]) ?_ ?_
    · walk_at "ev"
      · exact ⟨0, 1, .un, h0, h1', by decide, _, rfl⟩
      · exact ⟨_, _, .un, hp', hq1', hz', _, rfl⟩
    · rintro ρ' ⟨a, b, s6, ha, hb, hbz, z, rfl⟩
      with_reducible refine ss_cons ?_
      refine s_ifJ (fun ρ' => ∃ (p' q' : Int), Sm p' ∧ Sm q' ∧ q' ≠ 0 ∧ ρ' = [.va (.lst (ns.map D.int)), .va (.lst (cl.map D.int)), .va (.int (i : Int)), .va (.tup [.int p, .int q]), .va (.tup [.int p', .int q']), .va (.int z)]) ?_ ?_
      · walk_at "ev"
        · exact ⟨_, _, hp, hq1, hz, rfl⟩
        · exact ⟨_, _, ha, hb, hbz, rfl⟩
      · rintro ρ' ⟨a, b, ha, hb, hbz, rfl⟩
        walk_at "ev"
        all_goals first | exact ⟨_, _, _, _, rfl⟩ | trace_state
  · rintro ρ' ⟨s2, s3, s4, s5, rfl⟩
    walk_at "ev"
    rfl
end
end
end My


set_option Elab.async false
set_option linter.all false
set_option maxRecDepth 100000
set_option maxHeartbeats 0
namespace My
open PySem PySem.Spec PyProof.Rows L2 EV
section
variable {P : Program} {w : World} {K : PySem.W.Frag} {mg : Str → Option Value} {base h : Heap}
def DefIn (K : PySem.W.Frag) (mg : Str → Option Value) (x : Str) (st : Stmt) : Prop := ∃ f fd, mg x = some (.ref f) ∧ Fun K x x st f fd
theorem def_mk {x : Str} {st : Stmt} {f : Addr} {oc : Value} {od an : Option Addr} {osl : Array (Option Value)} {kV doc pm cdv ct : Value} (KX : K.In h) (G : h.Ns mainGlobals mg) (a : PySem.W.nsIn K mainGlobals x = some (some (.ref f)))
    (l : K.lookup f = some ⟨oc, od, .func (PySem.W.fnOf x x (defArgs st) (defBody st) (defScope st) .none kV doc pm an cdv ct), osl⟩) (c : PySem.W.codeIn K cdv x = true) (k : PySem.W.keepIn K (.ref f) = true) : DefIn K mg x st :=
  ⟨f, _, PySem.W.mg_of KX G a, fun_mk l c k⟩
theorem kit_no {C E : Addr} {cd : ClassData} (e : (Value.ref C == Value.ref E) = false) (c : PySem.W.clsIn K E = some cd) (t : PySem.W.typeIn K (.ref E) = some (.type "type")) (s : PySem.W.subIn K (.ref C) (.ref E) = some false) : PySem.W.kitOne K (.ref C) (.ref E) = some false := by
  unfold PySem.W.kitOne PySem.W.kitCls
  simp [e, c, t, s]
theorem kit_ty {t : Value} {T : String} {b : Bool} (e : (t == Value.type T) = false) (m : PySem.W.kitMeta T = true) (s : PySem.W.subIn K t (.type T) = some b) : PySem.W.kitOne K t (.type T) = some b := by
  unfold PySem.W.kitOne PySem.W.kitCls
  simp [e, m, s]
theorem kit_same {t : Value} (e : (t == t) = true) : PySem.W.kitOne K t t = some true := by
  unfold PySem.W.kitOne
  simp [e]
theorem exm_yes {C E : Addr} {cd : ClassData} (b : PySem.W.subIn K (.ref E) (.type "BaseException") = some true) (c : PySem.W.clsIn K E = some cd) (t : PySem.W.typeIn K (.ref E) = some (.type "type")) (s : PySem.W.subIn K (.ref C) (.ref E) = some true) : PySem.W.exmOne K (.ref C) (.ref E) = some true := by
  unfold PySem.W.exmOne PySem.W.kitCls
  simp [b, c, t, s]
structure ClsAll (K : PySem.W.Frag) (mg : Str → Option Value) (C E : Addr) : Prop where
  T : Txt K mg C
  U : Cls K mg C
  ex : PySem.W.excIn K C vErr "ValueError.__new__" = true
  e : mg (Str.ofString "DrawError") = some (.ref E)
  em : PySem.W.exmOne K (.ref C) (.ref E) = some true
theorem cls_mk {C E c1 c2 c3 c4 c5 c6 c7 c8 c9 c10 c11 c12 c13 c14 c15 : Addr} {dd0 dd1 dd2 dd3 dd4 dd5 dd6 dd7 dd8 dd9 dd10 dd11 dd12 dd13 dd14 dd15 : ClassData} (KX : K.In h) (G : h.Ns mainGlobals mg)
    (aC : PySem.W.nsIn K mainGlobals (Str.ofString "NoBottom") = some (some (.ref C)))
    (aE : PySem.W.nsIn K mainGlobals (Str.ofString "DrawError") = some (some (.ref E)))
    (a1 : PySem.W.nsIn K mainGlobals (Str.ofString "BadPlace") = some (some (.ref c1)))
    (a2 : PySem.W.nsIn K mainGlobals (Str.ofString "BadSaying") = some (some (.ref c2)))
    (a3 : PySem.W.nsIn K mainGlobals (Str.ofString "TooMany") = some (some (.ref c3)))
    (a4 : PySem.W.nsIn K mainGlobals (Str.ofString "BadChain") = some (some (.ref c4)))
    (a5 : PySem.W.nsIn K mainGlobals (Str.ofString "NoName") = some (some (.ref c5)))
    (a6 : PySem.W.nsIn K mainGlobals (Str.ofString "BadName") = some (some (.ref c6)))
    (a7 : PySem.W.nsIn K mainGlobals (Str.ofString "NoLine") = some (some (.ref c7)))
    (a8 : PySem.W.nsIn K mainGlobals (Str.ofString "NoStep") = some (some (.ref c8)))
    (a9 : PySem.W.nsIn K mainGlobals (Str.ofString "BadStep") = some (some (.ref c9)))
    (a10 : PySem.W.nsIn K mainGlobals (Str.ofString "BadThing") = some (some (.ref c10)))
    (a11 : PySem.W.nsIn K mainGlobals (Str.ofString "TooFree") = some (some (.ref c11)))
    (a12 : PySem.W.nsIn K mainGlobals (Str.ofString "TooDeep") = some (some (.ref c12)))
    (a13 : PySem.W.nsIn K mainGlobals (Str.ofString "BadKnown") = some (some (.ref c13)))
    (a14 : PySem.W.nsIn K mainGlobals (Str.ofString "CantMake") = some (some (.ref c14)))
    (a15 : PySem.W.nsIn K mainGlobals (Str.ofString "NoText") = some (some (.ref c15)))
    (xC : PySem.W.excIn K C vErr "ValueError.__new__" = true)
    (bE : PySem.W.subIn K (.ref E) (.type "BaseException") = some true)
    (dE : PySem.W.clsIn K E = some dd0)
    (tE : PySem.W.typeIn K (.ref E) = some (.type "type"))
    (sE : PySem.W.subIn K (.ref C) (.ref E) = some true)
    (d1 : PySem.W.clsIn K c1 = some dd1)
    (t1 : PySem.W.typeIn K (.ref c1) = some (.type "type"))
    (s1 : PySem.W.subIn K (.ref C) (.ref c1) = some false)
    (n1 : (Value.ref C == Value.ref c1) = false)
    (d2 : PySem.W.clsIn K c2 = some dd2)
    (t2 : PySem.W.typeIn K (.ref c2) = some (.type "type"))
    (s2 : PySem.W.subIn K (.ref C) (.ref c2) = some false)
    (n2 : (Value.ref C == Value.ref c2) = false)
    (d3 : PySem.W.clsIn K c3 = some dd3)
    (t3 : PySem.W.typeIn K (.ref c3) = some (.type "type"))
    (s3 : PySem.W.subIn K (.ref C) (.ref c3) = some false)
    (n3 : (Value.ref C == Value.ref c3) = false)
    (d4 : PySem.W.clsIn K c4 = some dd4)
    (t4 : PySem.W.typeIn K (.ref c4) = some (.type "type"))
    (s4 : PySem.W.subIn K (.ref C) (.ref c4) = some false)
    (n4 : (Value.ref C == Value.ref c4) = false)
    (d5 : PySem.W.clsIn K c5 = some dd5)
    (t5 : PySem.W.typeIn K (.ref c5) = some (.type "type"))
    (s5 : PySem.W.subIn K (.ref C) (.ref c5) = some false)
    (n5 : (Value.ref C == Value.ref c5) = false)
    (d6 : PySem.W.clsIn K c6 = some dd6)
    (t6 : PySem.W.typeIn K (.ref c6) = some (.type "type"))
    (s6 : PySem.W.subIn K (.ref C) (.ref c6) = some false)
    (n6 : (Value.ref C == Value.ref c6) = false)
    (d7 : PySem.W.clsIn K c7 = some dd7)
    (t7 : PySem.W.typeIn K (.ref c7) = some (.type "type"))
    (s7 : PySem.W.subIn K (.ref C) (.ref c7) = some false)
    (n7 : (Value.ref C == Value.ref c7) = false)
    (d8 : PySem.W.clsIn K c8 = some dd8)
    (t8 : PySem.W.typeIn K (.ref c8) = some (.type "type"))
    (s8 : PySem.W.subIn K (.ref C) (.ref c8) = some false)
    (n8 : (Value.ref C == Value.ref c8) = false)
    (d9 : PySem.W.clsIn K c9 = some dd9)
    (t9 : PySem.W.typeIn K (.ref c9) = some (.type "type"))
    (s9 : PySem.W.subIn K (.ref C) (.ref c9) = some false)
    (n9 : (Value.ref C == Value.ref c9) = false)
    (d10 : PySem.W.clsIn K c10 = some dd10)
    (t10 : PySem.W.typeIn K (.ref c10) = some (.type "type"))
    (s10 : PySem.W.subIn K (.ref C) (.ref c10) = some false)
    (n10 : (Value.ref C == Value.ref c10) = false)
    (d11 : PySem.W.clsIn K c11 = some dd11)
    (t11 : PySem.W.typeIn K (.ref c11) = some (.type "type"))
    (s11 : PySem.W.subIn K (.ref C) (.ref c11) = some false)
    (n11 : (Value.ref C == Value.ref c11) = false)
    (d12 : PySem.W.clsIn K c12 = some dd12)
    (t12 : PySem.W.typeIn K (.ref c12) = some (.type "type"))
    (s12 : PySem.W.subIn K (.ref C) (.ref c12) = some false)
    (n12 : (Value.ref C == Value.ref c12) = false)
    (d13 : PySem.W.clsIn K c13 = some dd13)
    (t13 : PySem.W.typeIn K (.ref c13) = some (.type "type"))
    (s13 : PySem.W.subIn K (.ref C) (.ref c13) = some false)
    (n13 : (Value.ref C == Value.ref c13) = false)
    (d14 : PySem.W.clsIn K c14 = some dd14)
    (t14 : PySem.W.typeIn K (.ref c14) = some (.type "type"))
    (s14 : PySem.W.subIn K (.ref C) (.ref c14) = some false)
    (n14 : (Value.ref C == Value.ref c14) = false)
    (d15 : PySem.W.clsIn K c15 = some dd15)
    (t15 : PySem.W.typeIn K (.ref c15) = some (.type "type"))
    (s15 : PySem.W.subIn K (.ref C) (.ref c15) = some false)
    (n15 : (Value.ref C == Value.ref c15) = false)
    (zAbs : PySem.W.nsIn K mainGlobals (Str.ofString "abs") = some none)
    (zLen : PySem.W.nsIn K mainGlobals (Str.ofString "len") = some none)
    (zIs : PySem.W.nsIn K mainGlobals (Str.ofString "isinstance") = some none)
    (zRange : PySem.W.nsIn K mainGlobals (Str.ofString "range") = some none)
    (zInt : PySem.W.nsIn K mainGlobals (Str.ofString "int") = some none)
    (zBool : PySem.W.nsIn K mainGlobals (Str.ofString "bool") = some none)
    (zTuple : PySem.W.nsIn K mainGlobals (Str.ofString "tuple") = some none)
    (zVerr : PySem.W.nsIn K mainGlobals (Str.ofString "ValueError") = some none)
    (sIB : PySem.W.subIn K (.type "int") (.type "bool") = some false)
    (sCV : PySem.W.subIn K (.ref C) (.type "ValueError") = some true)
    (ga : PySem.W.findIn K (.ref C) "__getattribute__" = some (some (.builtin "BaseException.__getattribute__")))
    (hk : PySem.W.findIn K (.ref C) "__getattr__" = some none)
    (ca : PySem.W.findIn K (.ref C) "__class__" = some (some (.builtin "object.__class__")))
    (gt : PySem.W.specialIn K (.builtin "object.__class__") "__get__" = some (some (.builtin "getset_descriptor.__get__")))
    (tk : PySem.W.takesIn K (.builtin "object.__class__") = some true)
    (mo : PySem.W.mroIn K C (.type "object") = some true)
    (mb : PySem.W.mroIn K C (.type "BaseException") = some true) : ∃ C E, ClsAll K mg C E := by
  refine ⟨C, E, ⟨⟨PySem.W.mg_none_of KX G zAbs, PySem.W.mg_none_of KX G zLen, PySem.W.mg_none_of KX G zIs, PySem.W.mg_none_of KX G zRange, PySem.W.mg_none_of KX G zInt, PySem.W.mg_none_of KX G zBool, PySem.W.mg_none_of KX G zTuple, PySem.W.mg_none_of KX G zVerr,
    kit_same (by decide), kit_ty (by decide) (by decide) sIB, kit_same (by decide), kit_ty rfl (by decide) sCV, ⟨ga, hk, ca, gt, tk, mo, mb⟩⟩, ?_, xC, PySem.W.mg_of KX G aE, exm_yes bE dE tE sE⟩⟩
  exact ⟨PySem.W.mg_of KX G aC, kit_same (by simp), ⟨_, PySem.W.mg_of KX G a1, kit_no n1 d1 t1 s1⟩, ⟨_, PySem.W.mg_of KX G a2, kit_no n2 d2 t2 s2⟩, ⟨_, PySem.W.mg_of KX G a3, kit_no n3 d3 t3 s3⟩, ⟨_, PySem.W.mg_of KX G a4, kit_no n4 d4 t4 s4⟩, ⟨_, PySem.W.mg_of KX G a5, kit_no n5 d5 t5 s5⟩, ⟨_, PySem.W.mg_of KX G a6, kit_no n6 d6 t6 s6⟩, ⟨_, PySem.W.mg_of KX G a7, kit_no n7 d7 t7 s7⟩, ⟨_, PySem.W.mg_of KX G a8, kit_no n8 d8 t8 s8⟩, ⟨_, PySem.W.mg_of KX G a9, kit_no n9 d9 t9 s9⟩, ⟨_, PySem.W.mg_of KX G a10, kit_no n10 d10 t10 s10⟩, ⟨_, PySem.W.mg_of KX G a11, kit_no n11 d11 t11 s11⟩, ⟨_, PySem.W.mg_of KX G a12, kit_no n12 d12 t12 s12⟩, ⟨_, PySem.W.mg_of KX G a13, kit_no n13 d13 t13 s13⟩, ⟨_, PySem.W.mg_of KX G a14, kit_no n14 d14 t14 s14⟩, ⟨_, PySem.W.mg_of KX G a15, kit_no n15 d15 t15 s15⟩⟩
theorem cal_mk {k : Nat} {x : Str} {st : Stmt} {F : Fn} {ps : List Str} {f : Addr} {fd : FuncData} (m : mg x = some (.ref f)) (Fu : Fun K x x st f fd) (ok : FnOk P w K mg base (CXE P w) k f fd ps (spF K F))
    (hb : ∀ (kV doc pm : Value) (an : Option Addr) (cdv ct : Value) (us : List Value), us.length = ps.length → bindArgs (PySem.W.fnOf x x (defArgs st) (defBody st) (defScope st) .none kV doc pm an cdv ct) ⟨us, []⟩ = pure (ps.zip us)) : Cal P w K mg base k x F :=
  ⟨f, fd, ps, m, Fu.kp, Fu.binds hb, ok⟩
theorem main_mk {fa C E : Addr} (hfa : mg (Str.ofString "law") = some (.ref fa)) (Y : ClsAll K mg C E)
    (D19 : DefIn K mg (Str.ofString "common_divisor") (top 19))
    (D20 : DefIn K mg (Str.ofString "fraction_of") (top 20))
    (D21 : DefIn K mg (Str.ofString "frac_sum") (top 21))
    (D22 : DefIn K mg (Str.ofString "frac_less") (top 22))
    (D23 : DefIn K mg (Str.ofString "frac_times") (top 23))
    (D24 : DefIn K mg (Str.ofString "frac_by") (top 24))
    (D25 : DefIn K mg (Str.ofString "frac_lesser") (top 25))
    (D27 : DefIn K mg (Str.ofString "_law_whole") (top 27))
    (D28 : DefIn K mg (Str.ofString "_law_flags") (top 28))
    (D29 : DefIn K mg (Str.ofString "_law_only") (top 29))
    (D30 : DefIn K mg (Str.ofString "_law_number") (top 30))
    (D31 : DefIn K mg (Str.ofString "_law_fraction") (top 31))
    (D32 : DefIn K mg (Str.ofString "_law_same_fraction") (top 32))
    (D33 : DefIn K mg (Str.ofString "_law_parted") (top 33))
    (D34 : DefIn K mg (Str.ofString "_law_good") (top 34))
    (D35 : DefIn K mg (Str.ofString "_law_drawn") (top 35))
    (D36 : DefIn K mg (Str.ofString "law") (top 36))
    : ∃ fd : FuncData, (∀ (s : Shared) (u : Value), BindsTo s fd ⟨[u], []⟩ [("_law_script", u)]) ∧ ∀ base : Heap, K.In base → base.Ns mainGlobals mg → FnOk P w K mg base (CXE P w) 6 fa fd ["_law_script"] (spF K Flaw) := by
  obtain ⟨f19, fd19, m19, F19⟩ := D19
  obtain ⟨f20, fd20, m20, F20⟩ := D20
  obtain ⟨f21, fd21, m21, F21⟩ := D21
  obtain ⟨f22, fd22, m22, F22⟩ := D22
  obtain ⟨f23, fd23, m23, F23⟩ := D23
  obtain ⟨f24, fd24, m24, F24⟩ := D24
  obtain ⟨f25, fd25, m25, F25⟩ := D25
  obtain ⟨f27, fd27, m27, F27⟩ := D27
  obtain ⟨f28, fd28, m28, F28⟩ := D28
  obtain ⟨f29, fd29, m29, F29⟩ := D29
  obtain ⟨f30, fd30, m30, F30⟩ := D30
  obtain ⟨f31, fd31, m31, F31⟩ := D31
  obtain ⟨f32, fd32, m32, F32⟩ := D32
  obtain ⟨f33, fd33, m33, F33⟩ := D33
  obtain ⟨f34, fd34, m34, F34⟩ := D34
  obtain ⟨f35, fd35, m35, F35⟩ := D35
  obtain ⟨f36, fd36, m36, F36⟩ := D36
  have e := hfa.symm.trans m36
  cases e
  refine ⟨fd36, ?_, fun base _ _ => ?_⟩
  · obtain ⟨oc, od, kV, doc, pm, an, cdv, ct, osl, rfl, lk, hcd⟩ := F36.ex
    exact fun s u => .of_eq rfl
  have one : ∀ (us : List Value), us.length = 1 → ∃ a, us = [a] := fun us h => match us, h with | [a], _ => ⟨a, rfl⟩
  have two : ∀ (us : List Value), us.length = 2 → ∃ a b, us = [a, b] := fun us h => match us, h with | [a, b], _ => ⟨a, b, rfl⟩
  have C19 : Cal P w K mg base 1 (Str.ofString "common_divisor") (Fgcd) := cal_mk (ps := ["one", "other"]) m19 F19 (ok_gcd F19 Y.T) (fun _ _ _ _ _ _ us hl => by obtain ⟨a, b, rfl⟩ := two us hl; rfl)
  have C20 : Cal P w K mg base 2 (Str.ofString "fraction_of") (Fof C) := cal_mk (ps := ["top", "bottom"]) m20 F20 (ok_of F20 Y.T Y.U.self Y.ex C19) (fun _ _ _ _ _ _ us hl => by obtain ⟨a, b, rfl⟩ := two us hl; rfl)
  have C21 : Cal P w K mg base 3 (Str.ofString "frac_sum") (FB C fSum gAll) := cal_mk (ps := ["one", "other"]) m21 F21 (ok_sum F21 C20) (fun _ _ _ _ _ _ us hl => by obtain ⟨a, b, rfl⟩ := two us hl; rfl)
  have C22 : Cal P w K mg base 3 (Str.ofString "frac_less") (FB C fLess gAll) := cal_mk (ps := ["one", "other"]) m22 F22 (ok_less F22 C20) (fun _ _ _ _ _ _ us hl => by obtain ⟨a, b, rfl⟩ := two us hl; rfl)
  have C23 : Cal P w K mg base 3 (Str.ofString "frac_times") (FB C fTimes gAll) := cal_mk (ps := ["one", "other"]) m23 F23 (ok_times F23 C20) (fun _ _ _ _ _ _ us hl => by obtain ⟨a, b, rfl⟩ := two us hl; rfl)
  have C24 : Cal P w K mg base 3 (Str.ofString "frac_by") (FB C fBy gBy) := cal_mk (ps := ["one", "other"]) m24 F24 (ok_by F24 C20) (fun _ _ _ _ _ _ us hl => by obtain ⟨a, b, rfl⟩ := two us hl; rfl)
  have C25 : Cal P w K mg base 1 (Str.ofString "frac_lesser") (Flesser) := cal_mk (ps := ["one", "other"]) m25 F25 (ok_lesser F25) (fun _ _ _ _ _ _ us hl => by obtain ⟨a, b, rfl⟩ := two us hl; rfl)
  have C27 : Cal P w K mg base 1 (Str.ofString "_law_whole") (Fwhole) := cal_mk (ps := ["_law_found"]) m27 F27 (ok_whole F27 Y.T) (fun _ _ _ _ _ _ us hl => by obtain ⟨a, rfl⟩ := one us hl; rfl)
  have C28 : Cal P w K mg base 1 (Str.ofString "_law_flags") (Fflags C) := cal_mk (ps := ["_law_caught"]) m28 F28 (ok_flags F28 Y.T Y.U) (fun _ _ _ _ _ _ us hl => by obtain ⟨a, rfl⟩ := one us hl; rfl)
  have C29 : Cal P w K mg base 2 (Str.ofString "_law_only") (Fonly C) := cal_mk (ps := ["_law_caught", "_law_name"]) m29 F29 (ok_only F29 Y.T Y.U C28) (fun _ _ _ _ _ _ us hl => by obtain ⟨a, b, rfl⟩ := two us hl; rfl)
  have C30 : Cal P w K mg base 1 (Str.ofString "_law_number") (Fnum) := cal_mk (ps := ["_law_cell"]) m30 F30 (ok_num F30) (fun _ _ _ _ _ _ us hl => by obtain ⟨a, rfl⟩ := one us hl; rfl)
  have C31 : Cal P w K mg base 1 (Str.ofString "_law_fraction") (Ffr) := cal_mk (ps := ["_law_top", "_law_bottom"]) m31 F31 (ok_fr F31 Y.T) (fun _ _ _ _ _ _ us hl => by obtain ⟨a, b, rfl⟩ := two us hl; rfl)
  have C32 : Cal P w K mg base 2 (Str.ofString "_law_same_fraction") (Fsame) := cal_mk (ps := ["_law_found", "_law_due"]) m32 F32 (ok_same F32 Y.T C27) (fun _ _ _ _ _ _ us hl => by obtain ⟨a, b, rfl⟩ := two us hl; rfl)
  have C33 : Cal P w K mg base 4 (Str.ofString "_law_parted") (Fpart C) := cal_mk (ps := ["_law_one", "_law_other"]) m33 F33 (ok_part F33 Y.e Y.em C24) (fun _ _ _ _ _ _ us hl => by obtain ⟨a, b, rfl⟩ := two us hl; rfl)
  have C34 : Cal P w K mg base 5 (Str.ofString "_law_good") (Fgood) := cal_mk (ps := ["_law_one", "_law_other"]) m34 F34 (ok_good F34 Y.T C21 C22 C23 C25 C31 C32 C33 C29) (fun _ _ _ _ _ _ us hl => by obtain ⟨a, b, rfl⟩ := two us hl; rfl)
  have C35 : Cal P w K mg base 2 (Str.ofString "_law_drawn") (Fdrawn) := cal_mk (ps := ["_law_top", "_law_bottom"]) m35 F35 (ok_drawn F35 Y.T C30 C31) (fun _ _ _ _ _ _ us hl => by obtain ⟨a, b, rfl⟩ := two us hl; rfl)
  exact ok_law F36 Y.T C35 C34
theorem law_ok {K : PySem.W.Frag} (H : Hp) (a : Addr) (ns : List Int) (hl : ns.length ≤ 63) (hS : SqL K H a (ns.map V.int)) : spF K Flaw [.ref a] H (fun v _ => v = .bl true) fun _ _ _ => False :=
  ⟨H, [.lst (ns.map D.int)], .ok (.va (.bl true)), .refl H, .cons (rep_lst.mpr ⟨a, _, rfl, hS, reps_ints ns⟩) (reps_nil.mpr rfl), ⟨ns, hl, rfl, rfl⟩, fun v H' Hf' _ r => (rep_bl (K := K) (H := Hf')).mp r⟩
theorem walk {l : PySem.W.OpenLaw} {q : Program} {loose : List Str} {XP : (Str → Option Value) → Heap → Prop} {YP : World → Heap → Prop} {d : DefRec} {K : Params → PySem.W.Frag} (hn : l.most = some 63) (hdf : d.params.defaults = [])
    (hY : ∀ (w : World) (h : Heap), YP w h → (K w.params).In h)
    (F : ∀ (w : World) (mg : Str → Option Value) (fa : Addr) (h : Heap), (K w.params).In h → h.Ns mainGlobals mg → mg d.name = some (.ref fa) →
      ∃ fd : FuncData, (∀ (s : Shared) (u : Value), BindsTo s fd ⟨[u], []⟩ [("_law_script", u)]) ∧ ∀ base : Heap, (K w.params).In base → base.Ns mainGlobals mg → FnOk l.prog w (K w.params) mg base (CXE l.prog w) 6 fa fd ["_law_script"] (spF (K w.params) Flaw)) :
    PySem.W.WalkO q loose XP YP l.row.toRowW d [] (fun f vs => PySem.call f vs) :=
  L2.walk_of (n := 63) (k := 6) (x := "_law_script") (CX := fun w => CXE l.prog w) (sp := fun w => spF (K w.params) Flaw) hn (by decide) hdf ⟨rfl, by decide, by decide⟩ hY F (fun _ H a ns hl _ hS => law_ok H a ns hl hS) fun _ _ _ _ _ ⟨_, _, _, _, _, q⟩ => q
end
end My


open PySem PySem.W PyProof.Rows
set_option maxRecDepth 100000 in
set_option maxHeartbeats 0 in
theorem PySem.Challenge.cw_everydraw_k02_fractions_reckoned_holds : PySem.Challenge.rw_everydraw_k02_fractions_reckoned.Holds := by
  w_on; o_law; k_head; (case hw => w_witness2)
  k_fill
  refine My.walk (l := PySem.Challenge.rw_everydraw_k02_fractions_reckoned) rfl rfl (fun w h Y => PySem.W.kIn_of Y) ?F
  case F =>
    intro w mg fa h KX G hmg
    have D19 : My.DefIn (L2.KOf KX) mg (Str.ofString "common_divisor") (My.top 19) := by
      dsimp only [L2.KOf]
      refine' My.def_mk KX G ?a ?l ?c ?k
      (case a => k_is); (case l => k_is); (case c => k_is); (case k => k_is)
    have D20 : My.DefIn (L2.KOf KX) mg (Str.ofString "fraction_of") (My.top 20) := by
      dsimp only [L2.KOf]
      refine' My.def_mk KX G ?a ?l ?c ?k
      (case a => k_is); (case l => k_is); (case c => k_is); (case k => k_is)
    have D21 : My.DefIn (L2.KOf KX) mg (Str.ofString "frac_sum") (My.top 21) := by
      dsimp only [L2.KOf]
      refine' My.def_mk KX G ?a ?l ?c ?k
      (case a => k_is); (case l => k_is); (case c => k_is); (case k => k_is)
    have D22 : My.DefIn (L2.KOf KX) mg (Str.ofString "frac_less") (My.top 22) := by
      dsimp only [L2.KOf]
      refine' My.def_mk KX G ?a ?l ?c ?k
      (case a => k_is); (case l => k_is); (case c => k_is); (case k => k_is)
    have D23 : My.DefIn (L2.KOf KX) mg (Str.ofString "frac_times") (My.top 23) := by
      dsimp only [L2.KOf]
      refine' My.def_mk KX G ?a ?l ?c ?k
      (case a => k_is); (case l => k_is); (case c => k_is); (case k => k_is)
    have D24 : My.DefIn (L2.KOf KX) mg (Str.ofString "frac_by") (My.top 24) := by
      dsimp only [L2.KOf]
      refine' My.def_mk KX G ?a ?l ?c ?k
      (case a => k_is); (case l => k_is); (case c => k_is); (case k => k_is)
    have D25 : My.DefIn (L2.KOf KX) mg (Str.ofString "frac_lesser") (My.top 25) := by
      dsimp only [L2.KOf]
      refine' My.def_mk KX G ?a ?l ?c ?k
      (case a => k_is); (case l => k_is); (case c => k_is); (case k => k_is)
    have D27 : My.DefIn (L2.KOf KX) mg (Str.ofString "_law_whole") (My.top 27) := by
      dsimp only [L2.KOf]
      refine' My.def_mk KX G ?a ?l ?c ?k
      (case a => k_is); (case l => k_is); (case c => k_is); (case k => k_is)
    have D28 : My.DefIn (L2.KOf KX) mg (Str.ofString "_law_flags") (My.top 28) := by
      dsimp only [L2.KOf]
      refine' My.def_mk KX G ?a ?l ?c ?k
      (case a => k_is); (case l => k_is); (case c => k_is); (case k => k_is)
    have D29 : My.DefIn (L2.KOf KX) mg (Str.ofString "_law_only") (My.top 29) := by
      dsimp only [L2.KOf]
      refine' My.def_mk KX G ?a ?l ?c ?k
      (case a => k_is); (case l => k_is); (case c => k_is); (case k => k_is)
    have D30 : My.DefIn (L2.KOf KX) mg (Str.ofString "_law_number") (My.top 30) := by
      dsimp only [L2.KOf]
      refine' My.def_mk KX G ?a ?l ?c ?k
      (case a => k_is); (case l => k_is); (case c => k_is); (case k => k_is)
    have D31 : My.DefIn (L2.KOf KX) mg (Str.ofString "_law_fraction") (My.top 31) := by
      dsimp only [L2.KOf]
      refine' My.def_mk KX G ?a ?l ?c ?k
      (case a => k_is); (case l => k_is); (case c => k_is); (case k => k_is)
    have D32 : My.DefIn (L2.KOf KX) mg (Str.ofString "_law_same_fraction") (My.top 32) := by
      dsimp only [L2.KOf]
      refine' My.def_mk KX G ?a ?l ?c ?k
      (case a => k_is); (case l => k_is); (case c => k_is); (case k => k_is)
    have D33 : My.DefIn (L2.KOf KX) mg (Str.ofString "_law_parted") (My.top 33) := by
      dsimp only [L2.KOf]
      refine' My.def_mk KX G ?a ?l ?c ?k
      (case a => k_is); (case l => k_is); (case c => k_is); (case k => k_is)
    have D34 : My.DefIn (L2.KOf KX) mg (Str.ofString "_law_good") (My.top 34) := by
      dsimp only [L2.KOf]
      refine' My.def_mk KX G ?a ?l ?c ?k
      (case a => k_is); (case l => k_is); (case c => k_is); (case k => k_is)
    have D35 : My.DefIn (L2.KOf KX) mg (Str.ofString "_law_drawn") (My.top 35) := by
      dsimp only [L2.KOf]
      refine' My.def_mk KX G ?a ?l ?c ?k
      (case a => k_is); (case l => k_is); (case c => k_is); (case k => k_is)
    have D36 : My.DefIn (L2.KOf KX) mg (Str.ofString "law") (My.top 36) := by
      dsimp only [L2.KOf]
      refine' My.def_mk KX G ?a ?l ?c ?k
      (case a => k_is); (case l => k_is); (case c => k_is); (case k => k_is)
    have Y : ∃ C E, My.ClsAll (L2.KOf KX) mg C E := by
      dsimp only [L2.KOf]
      refine' My.cls_mk KX G ?aC ?aE ?a1 ?a2 ?a3 ?a4 ?a5 ?a6 ?a7 ?a8 ?a9 ?a10 ?a11 ?a12 ?a13 ?a14 ?a15 ?xC ?bE ?dE ?tE ?sE ?d1 ?t1 ?s1 ?n1 ?d2 ?t2 ?s2 ?n2 ?d3 ?t3 ?s3 ?n3 ?d4 ?t4 ?s4 ?n4 ?d5 ?t5 ?s5 ?n5 ?d6 ?t6 ?s6 ?n6 ?d7 ?t7 ?s7 ?n7 ?d8 ?t8 ?s8 ?n8 ?d9 ?t9 ?s9 ?n9 ?d10 ?t10 ?s10 ?n10 ?d11 ?t11 ?s11 ?n11 ?d12 ?t12 ?s12 ?n12 ?d13 ?t13 ?s13 ?n13 ?d14 ?t14 ?s14 ?n14 ?d15 ?t15 ?s15 ?n15 ?zAbs ?zLen ?zIs ?zRange ?zInt ?zBool ?zTuple ?zVerr ?sIB ?sCV ?ga ?hk ?ca ?gt ?tk ?mo ?mb
      (case aC => k_is)
      (case aE => k_is)
      (case a1 => k_is)
      (case a2 => k_is)
      (case a3 => k_is)
      (case a4 => k_is)
      (case a5 => k_is)
      (case a6 => k_is)
      (case a7 => k_is)
      (case a8 => k_is)
      (case a9 => k_is)
      (case a10 => k_is)
      (case a11 => k_is)
      (case a12 => k_is)
      (case a13 => k_is)
      (case a14 => k_is)
      (case a15 => k_is)
      (case xC => k_exc)
      (case bE => k_is)
      (case dE => k_is)
      (case tE => k_is)
      (case sE => k_is)
      (case d1 => k_is)
      (case t1 => k_is)
      (case s1 => k_is)
      (case n1 => rfl)
      (case d2 => k_is)
      (case t2 => k_is)
      (case s2 => k_is)
      (case n2 => rfl)
      (case d3 => k_is)
      (case t3 => k_is)
      (case s3 => k_is)
      (case n3 => rfl)
      (case d4 => k_is)
      (case t4 => k_is)
      (case s4 => k_is)
      (case n4 => rfl)
      (case d5 => k_is)
      (case t5 => k_is)
      (case s5 => k_is)
      (case n5 => rfl)
      (case d6 => k_is)
      (case t6 => k_is)
      (case s6 => k_is)
      (case n6 => rfl)
      (case d7 => k_is)
      (case t7 => k_is)
      (case s7 => k_is)
      (case n7 => rfl)
      (case d8 => k_is)
      (case t8 => k_is)
      (case s8 => k_is)
      (case n8 => rfl)
      (case d9 => k_is)
      (case t9 => k_is)
      (case s9 => k_is)
      (case n9 => rfl)
      (case d10 => k_is)
      (case t10 => k_is)
      (case s10 => k_is)
      (case n10 => rfl)
      (case d11 => k_is)
      (case t11 => k_is)
      (case s11 => k_is)
      (case n11 => rfl)
      (case d12 => k_is)
      (case t12 => k_is)
      (case s12 => k_is)
      (case n12 => rfl)
      (case d13 => k_is)
      (case t13 => k_is)
      (case s13 => k_is)
      (case n13 => rfl)
      (case d14 => k_is)
      (case t14 => k_is)
      (case s14 => k_is)
      (case n14 => rfl)
      (case d15 => k_is)
      (case t15 => k_is)
      (case s15 => k_is)
      (case n15 => rfl)
      (case zAbs => k_is)
      (case zLen => k_is)
      (case zIs => k_is)
      (case zRange => k_is)
      (case zInt => k_is)
      (case zBool => k_is)
      (case zTuple => k_is)
      (case zVerr => k_is)
      (case sIB => k_is)
      (case sCV => k_is)
      (case ga => k_is)
      (case hk => k_is)
      (case ca => k_is)
      (case gt => k_is)
      (case tk => k_is)
      (case mo => k_is)
      (case mb => k_is)
    obtain ⟨C, E, Y⟩ := Y
    exact My.main_mk hmg Y D19 D20 D21 D22 D23 D24 D25 D27 D28 D29 D30 D31 D32 D33 D34 D35 D36
#print axioms PySem.Challenge.cw_everydraw_k02_fractions_reckoned_holds

