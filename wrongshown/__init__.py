"""Which error a form shows while fields change, answers come late and the form is sent."""
