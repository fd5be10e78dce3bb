import os
import shutil
import subprocess
import tempfile
import unittest

HERE = os.path.dirname(os.path.abspath(__file__))
RUN = os.path.join(HERE, "..", ".ci", "run")
CASE = "import unittest\nimport rootshares\n\n\nclass One(unittest.TestCase):\n    def test_one(self):\n        self.assertTrue({})\n"


class CiRun(unittest.TestCase):
    """The script .ci/run, tried on a checkout that is made up."""

    def setUp(self):
        self.top = tempfile.mkdtemp()
        self.addCleanup(shutil.rmtree, self.top)
        self.write("main/rootshares/__init__.py", "")
        self.write("main/tests/test_own.py", CASE.format(True))
        os.makedirs(os.path.join(self.top, "main/.ci"))
        shutil.copy(RUN, os.path.join(self.top, "main/.ci/run"))

    def write(self, path, text):
        whole = os.path.join(self.top, path)
        os.makedirs(os.path.dirname(whole), exist_ok=True)
        with open(whole, "w") as file:
            file.write(text)

    def passes(self):
        done = subprocess.run(["bash", os.path.join(self.top, "main/.ci/run")], cwd="/", capture_output=True)
        return done.returncode == 0

    def test_without_shared_tests(self):
        self.assertTrue(self.passes())
        self.write("shared/tests/README.md", "Tests.\n")
        self.assertTrue(self.passes())

    def test_own_tests_are_run(self):
        self.write("main/tests/test_other.py", CASE.format(False))
        self.assertFalse(self.passes())

    def test_no_own_tests_are_a_failure(self):
        os.remove(os.path.join(self.top, "main/tests/test_own.py"))
        self.assertFalse(self.passes())

    def test_shared_tests_are_run(self):
        self.write("shared/tests/test_later.py", CASE.format(True))
        self.assertTrue(self.passes())
        self.write("shared/tests/test_own.py", CASE.format(False))
        self.assertFalse(self.passes())

    def test_shared_tests_in_folders_are_run(self):
        self.write("shared/tests/more/test_later.py", CASE.format(False))
        self.assertFalse(self.passes())

    def test_a_file_that_cannot_be_read_is_a_failure(self):
        self.write("shared/tests/test_later.py", "import rootshares.nothing\n")
        self.assertFalse(self.passes())


if __name__ == "__main__":
    unittest.main()
