import Derived.Test.YtmnacejmkjhpnaaFs
import Derived.Test.YtmnacejmkjhpnaaW2E
import Derived.Test.YtmnacejmkjhpnaaW2F
import Derived.Test.YtmnacejmkjhpnaaW2G
namespace Go.Proofs.Ytmnacejmkjhpnaa
end Go.Proofs.Ytmnacejmkjhpnaa
