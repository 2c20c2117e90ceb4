/- Names: the project's test and the reference's. -/
import Derived.Test.YtincnopaclmppaaVNameV
import Derived.Test.YtincnopaclmppaaVRefName
