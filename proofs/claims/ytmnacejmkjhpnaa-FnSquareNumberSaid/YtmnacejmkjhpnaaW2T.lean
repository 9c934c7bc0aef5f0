import Derived.Test.YtmnacejmkjhpnaaFs
import Derived.Test.YtmnacejmkjhpnaaW2S
namespace Go.Proofs.Ytmnacejmkjhpnaa
end Go.Proofs.Ytmnacejmkjhpnaa
