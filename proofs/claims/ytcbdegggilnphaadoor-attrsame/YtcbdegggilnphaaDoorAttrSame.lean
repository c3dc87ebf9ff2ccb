/- Proved: for every two attributes, Same answers what the document's answer does, and Same of the first and itself answers true, where both are small (path's parts and numbers, communities, Raws and their bytes together under 3000); for every input the document's sample holds; nothing that was there is changed; the table 'said' stands as the program's text lays it (the card ties it). -/
import Derived.Test.YtcbdegggilnphaaDoorCdAttrSame
import Derived.Test.YtcbdegggilnphaaDoorWAttrSame
namespace Go.Proofs.YtcbdegggilnphaaDoor
theorem attrSame_card : Rows.AttrSameCardSaid := attrSame_carded attrSame_walk
end Go.Proofs.YtcbdegggilnphaaDoor
