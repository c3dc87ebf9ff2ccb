/- Proved: for every attributes that are small (path's parts and numbers, communities, Raws and their bytes together under 3000), Good answers what the document's answer does, Encode answers the bytes that the document's answer does, none where they are not good, and Decode of good ones' bytes answers no Note and those attributes; for every input the document's sample holds; nothing that was there is changed; the table 'said' stands as the program's text lays it (the card ties it). -/
import Derived.Test.YtcbdegggilnphaaDoorCdAttrBack
import Derived.Test.YtcbdegggilnphaaDoorWAttrBack
namespace Go.Proofs.YtcbdegggilnphaaDoor
theorem attrBack_card : Rows.AttrBackCardSaid := attrBack_carded attrBack_walk
end Go.Proofs.YtcbdegggilnphaaDoor
