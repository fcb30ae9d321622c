/-
  THE PROGRAM's functions as the walks ask for them (package weave).
-/
import Derived.Test.YtbfclmhcoelplaaWvReal
import Derived.Test.YtbfclmhcoelplaaWvMerge
namespace Go.Proofs.Ytbfclmhcoelplaa.Wv
open Go.RowKit Go.Proofs.Ytbfclmhcoelplaa.Cm Go.Proofs.Ytbfclmhcoelplaa.Lc
theorem told : Told where
  chunks := fun va vb vc B O T w hB hO hT lB lO lT => wchunks_any va vb vc B O T w hB hO hT (by omega) (by omega) (by omega)
  clean := fun v l w h hl => wclean_any v l w h (by omega)
  merge := fun va vb vc B O T w hB hO hT lB lO lT => wmerge_any va vb vc B O T w hB hO hT (by omega) (by omega) (by omega) (wchunks_any va vb vc B O T w hB hO hT (by omega) (by omega) (by omega))
end Go.Proofs.Ytbfclmhcoelplaa.Wv
