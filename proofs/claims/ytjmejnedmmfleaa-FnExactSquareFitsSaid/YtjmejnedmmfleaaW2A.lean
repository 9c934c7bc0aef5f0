import Derived.Test.YtjmejnedmmfleaaFs
import Derived.Test.YtjmejnedmmfleaaW2E
import Derived.Test.YtjmejnedmmfleaaW2F
import Derived.Test.YtjmejnedmmfleaaW2G
namespace Go.Proofs.Ytjmejnedmmfleaa
end Go.Proofs.Ytjmejnedmmfleaa
