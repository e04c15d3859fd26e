/- strings.Builder as package lex uses it; Join. -/
import Derived.Test.YtdacmogedchnaaaQLexD
import Derived.Shelf.Strings.BuilderK
namespace Go.Proofs.Ytdacmogedchnaaa
open Go Go.RowKit
set_option maxRecDepth 100000
end Go.Proofs.Ytdacmogedchnaaa
