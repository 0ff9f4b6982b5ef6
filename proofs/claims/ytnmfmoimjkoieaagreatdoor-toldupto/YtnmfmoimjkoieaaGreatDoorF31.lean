import Derived.Test.YtnmfmoimjkoieaaGreatDoorF28
set_option maxHeartbeats 25600000
set_option maxRecDepth 100000
set_option linter.all false
namespace Go.Proofs.YtnmfmoimjkoieaaGreatDoor
open Go.Proofs.Tryz
variable{w:World}{v:Value}
namespace cT
open Go.RowKit aD av aM b7 ew
open rd (aL cG bA EW ey ints vU)
def qz(n:Int):Prop:=-9223372036854775808<=n/\n<=9223372036854775807
theorem yj(p:ay)(fs:List (List UInt8×Int))(cs:List Int)(w:World)(hk:qz p.ah)(hi:qz p.id)(dc:p.aq.length<=1099511627776)(hl2:p.ak.length<=1099511627776)(rT:p.az.length<=1099511627776)(hf:kD w p.fv fs)(hc:mD w p.ae cs)(hB:(eT p fs cs).length<=1099511627776):Calls prog 70 #[.agg (aL p)] w λe w'=>e=.returned (.string (bs (eG p fs cs)))/\Below w.heap.size w w':=by
 by_cases e1:p.kind=1;·exact adq p fs cs w e1 hk.1 hk.2 dc hl2 rT
 by_cases e2:p.kind=2;·exact adr p fs cs w e2
 by_cases e3:p.kind=3;·exact ads p fs cs w e3 hi.1 hi.2 hl2 rT
 by_cases e4:p.kind=12\/p.kind=13\/p.kind=14;·exact adp p fs cs w e4
 exact adt p fs cs w e1 e2 e3 (by omega) (by omega) (by omega) hi.1 hi.2 hf hc hB
theorem UL{fs:List (List UInt8×Int)}(h:bJ.wC w v fs):kD w v fs:=by obtain⟨q,cap,h1,h2,h3⟩:=h;refine⟨q,cap,h1,h2,λj f hf=>?_⟩;obtain⟨g,e,hg,a,b⟩:=h3 j f hf;exact⟨g,0,e,hg,by rw[iW];exact a,by rw[iW];exact b⟩
theorem ajc{cs:List Int}(h:bJ.rC w v cs):mD w v cs:=by obtain⟨q,cap,h1,h2,h3⟩:=h;refine⟨q,cap,h1,h2,λj f hf=>?_⟩;obtain⟨g,e,hg,a⟩:=h3 j f hf;exact⟨g,0,e,hg,by rw[iW];exact a⟩
end cT
end Go.Proofs.YtnmfmoimjkoieaaGreatDoor
