/- Which values are right: the project's test and the reference's. -/
import Derived.Test.YtincnopaclmppaaVRightV
import Derived.Test.YtincnopaclmppaaVInT
import Derived.Test.YtincnopaclmppaaVRefRight
import Derived.Test.YtincnopaclmppaaVName
