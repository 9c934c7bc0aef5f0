import Derived.Test.YtmnacejmkjhpnaaFs
import Derived.Test.YtmnacejmkjhpnaaI3
import Derived.Test.YtmnacejmkjhpnaaW3M
import Derived.Test.YtmnacejmkjhpnaaW3T
import Derived.Test.YtmnacejmkjhpnaaW3C
namespace Go.Proofs.Ytmnacejmkjhpnaa
end Go.Proofs.Ytmnacejmkjhpnaa
