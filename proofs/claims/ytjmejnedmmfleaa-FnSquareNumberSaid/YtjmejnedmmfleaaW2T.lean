import Derived.Test.YtjmejnedmmfleaaFs
import Derived.Test.YtjmejnedmmfleaaW2S
namespace Go.Proofs.Ytjmejnedmmfleaa
end Go.Proofs.Ytjmejnedmmfleaa
